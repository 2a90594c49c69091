import PyProof.Rows.All
import Wide.All
import OpenK.AllK
import Wide.FinOn
import Lean
import PyProof.EqAt
import PyProof.EqKinds
import PyProof.TupleCall
import PySem.Challenge.RW_plait_k65_undone
set_option Elab.async false
set_option linter.all false
set_option maxRecDepth 100000
namespace PySem.W.Fast
def tw6861843104212720577:=0
def tw7871209254802347052:=0
def tw10182699010125307196:=0
def tw8273077578575926063:=0
def tw1995096299210317655:=0
def tw17092488254428316888:=0
def tw12671357894205914097:=0
def tw17805881558011614675:=0
def tw3231015613538116910:=0
def tw10522668999137368169:=0
def tw7635794299198751596:=0
def tw1366860998414107179:=0
def tw1778925476590216961:=0
def tw13180901538970411239:=0
def tw9518413415457815533:=0
def tw12806774189016912576:=0
def tw7039026610096739451:=0
def tw13285419913654535244:=0
def tw5668473853429950362:=0
def tw1099944794621779932:=0
def tw2735478116439918977:=0
def tw14640305757234819064:=0
def tw7973964471652060349:=0
def tw17997644822824430749:=0
def tw2310830292066985652:=0
def tw11146117085214017296:=0
def tw11454699901308096178:=0
def tw18064659820353567516:=0
def tw2408337758814311754:=0
def tw5832957848415517142:=0
def tw6757422041199398964:=0
def tw3938954861190436409:=0
def tw9307639756609440664:=0
def tw7632897489781807199:=0
def tw3673767966396038925:=0
def tw6146351495634518446:=0
def tw910362625178565765:=0
def tw14100789172288242639:=0
def tw14118561226502135898:=0
def tw11500791397750203049:=0
def tw2486509817422685811:=0
def tw18295419439990342653:=0
def tw8254493892454879793:=0
def tw13197202458014111725:=0
def tw12901607966609214356:=0
def tw12143219648829758563:=0
def tw7593475772089264141:=0
def tw1582159452242742883:=0
def tw16716030973537715991:=0
def tw13556003527828119824:=0
def tw126173626126204482:=0
def tw13311995852196002612:=0
def tw14218933695380264619:=0
def tw7887455716323683538:=0
def tw11721473517662909612:=0
def tw17606303888177121747:=0
def tw5779780392109227991:=0
def tw4543683530683853645:=0
def tw6493253593264109524:=0
def tw8641311822978704913:=0
def tw9174357818442945164:=0
def tw2725609166947066504:=0
def tw10750786536195009365:=0
def tw10700496626533364233:=0
def tw1202228571666429668:=0
def tw7418070084254484795:=0
def tw11266870857049992268:=0
def tw11143984785740001710:=0
def tw14956963509567935891:=0
def tw7359193763012091506:=0
def tw17624624454220304349:=0
def tw6027708470489549143:=0
def tw14092147766610850917:=0
def tw8961632601102707736:=0
def tw15223144447591979754:=0
def tw15870578358926856501:=0
def tw17425459005269944113:=0
def tw16209534792523313196:=0
def tw437943721166883711:=0
def tw3186605085306606925:=0
def tw10244834380701397957:=0
def tw13336815843117464609:=0
def tw6374844650332354516:=0
def tw14023814487242683305:=0
def tw11958361337694788367:=0
def tw2316742660121591820:=0
def tw11845805805853333987:=0
def tw14219277417457480774:=0
def tw3232588450212710700:=0
def tw5360607572476262808:=0
def tw15490303856656893281:=0
def tw1592958513720908189:=0
def tw8140663182060317744:=0
def tw6273215307321427927:=0
def tw6136064427952526929:=0
def tw6548864915791618369:=0
def tw9485114944846346965:=0
def tw15476692136140272981:=0
def tw11565253109890848292:=0
def tw11648855397579031418:=0
end PySem.W.Fast
set_option maxHeartbeats 4000000
noncomputable section
section
set_option autoImplicit true
variable {α β γ δ ρ ι ε α0 α1 α2 α3 α4 α5:Type}{K:PySem.W.Frag}{aa:List (PySem.Addr×PySem.Obj)}{E Q:PySem.Value->PySem.Shared->Prop}{s:PySem.Shared}{A:PySem.Around}{w:PySem.World}{P prog:PySem.Program}{mg:PySem.Str->Option PySem.Value}{R:PySem.Result->PySem.Shared->Prop}{a b p q y z d I S L:PySem.Addr}{x:PySem.Str}{pos:PySem.Pos}{h' base:PySem.Heap}{n k j:Nat}{e tg:PySem.Expr}{u:PySem.Value}{us its:List PySem.Value}{ns:List Int}{as:List α}{es bd elts:List PySem.Expr}{caps:List (Nat×PySem.Str)}{ps N names:List PySem.Str}{F:α->β->Prop}{fd:PySem.FuncData}{scope:PySem.Scope}
namespace L2
open PySem PySem.Spec PyProof.Rows
abbrev Key:=Sum Int Str
def G0:Key->Value->Bool
 | .inl k,v=>Value.isInt k v
 | .inr x,v=>Value.isStrOf x v
def AE (w:World):Key->Int
 | .inl k=>hashInt k
 | .inr x=>hashStr w x
theorem Ys:∀{k:Key}{v:Value},G0 k v=true->(∃i t,k=Sum.inl i/\v=Value.int i t)∨(∃x t,k=Sum.inr x/\v=Value.str x t)
 | .inl i,v,h=>by
  obtain⟨t,e⟩:=Value.isInt_shape (k:=i) (v:=v) h
  exact .inl ⟨i,t,rfl,e⟩
 | .inr x,v,h=>by
  obtain⟨t,e⟩:=Value.isStrOf_shape (x:=x) (v:=v) h
  exact .inr ⟨x,t,rfl,e⟩
theorem MI (i:Int)(t:Tok):G0 (.inl i) (.int i t)=true:=by simp[G0,Value.isInt]
theorem MJ (x:Str)(t:Tok):G0 (.inr x) (.str x t)=true:=by simp[G0,Value.isStrOf]
theorem Ta (a b:Int):decide ((Sum.inl a:Key)=Sum.inl b)=(a==b):=by
 by_cases e:a=b
 ·subst e;simp
 ·have h:¬(Sum.inl a:Key)=Sum.inl b:=λq=>e (Sum.inl.inj q)
  rw[decide_eq_false h]
  exact(beq_eq_false_iff_ne.mpr e).symm
theorem T9 (a b:Str):decide ((Sum.inr a:Key)=Sum.inr b)=decide (a=b):=by
 by_cases e:a=b
 ·subst e;simp
 ·have h:¬(Sum.inr a:Key)=Sum.inr b:=λq=>e (Sum.inr.inj q)
  rw[decide_eq_false h,decide_eq_false e]
theorem Tx (a:Int)(b:Str):decide ((Sum.inl a:Key)=Sum.inr b)=false:=decide_eq_false (λq=>nomatch q)
theorem TN (a:Str)(b:Int):decide ((Sum.inr a:Key)=Sum.inl b)=false:=decide_eq_false (λq=>nomatch q)
def Yi (prog:Program)(w:World):PySem.KeyKind prog w Key where
 is:=G0
 hash:=AE w
 inj:=λv a b ha hb=>by
  rcases Ys ha with⟨i,t,rfl,rfl⟩ | ⟨x,t,rfl,rfl⟩
  ·rcases Ys hb with⟨j,u,rfl,e⟩ | ⟨y,u,rfl,e⟩
   ·injection e with e1 _;rw[e1]
   ·exact nomatch e
  ·rcases Ys hb with⟨j,u,rfl,e⟩ | ⟨y,u,rfl,e⟩
   ·exact nomatch e
   ·injection e with e1 _;rw[e1]
 byValue:=λk v h=>by
  rcases Ys h with⟨i,t,rfl,rfl⟩ | ⟨x,t,rfl,rfl⟩<;> rfl
 pyHash:=λhv h=>by
  rcases Ys hv with⟨i,t,rfl,rfl⟩ | ⟨x,t,rfl,rfl⟩
  ·exact wpAny_pyHash_int h
  ·exact wpAny_pyHash_str h
 eqBool:=λhu hv h=>by
  rcases Ys hu with⟨i,t,rfl,rfl⟩ | ⟨x,t,rfl,rfl⟩
  ·rcases Ys hv with⟨j,u,rfl,rfl⟩ | ⟨y,u,rfl,rfl⟩
   ·rw[Ta] at h;exact wpAny_eqBool_int h
   ·rw[Tx] at h;exact SeqAt.EqAt.int_str i t y u _ _ _ _ h
  ·rcases Ys hv with⟨j,u,rfl,rfl⟩ | ⟨y,u,rfl,rfl⟩
   ·rw[TN] at h;exact SeqAt.EqAt.str_int x t j u _ _ _ _ h
   ·rw[T9] at h;exact wpAny_eqBool_str h
 «strs»:=λk x t v h=>by
  rcases Ys h with⟨i,u,rfl,e⟩ | ⟨y,u,rfl,e⟩
  ·exact nomatch e
  ·injection e with e1 _
   subst e1
   cases v<;> rfl
theorem B7 (prog:Program)(w:World)(i:Int)(t:Tok):(Yi prog w).is (.inl i) (.int i t)=true:=MI i t
theorem Et (prog:Program)(w:World)(x:Str)(t:Tok):(Yi prog w).is (.inr x) (.str x t)=true:=MJ x t
inductive V where
 |non |bl (b:Bool) |int (i:Int) |str (x:Str) |byt (b:Array UInt8) |flt (b:UInt64) |ref (a:Addr) |ty (n:String)
 deriving DecidableEq
def Ya:V->Value->Prop
 | .non,u=>u=Value.none
 | .bl b,u=>u=Value.bool b
 | .int i,u=>∃ t,u=Value.int i t
 | .str x,u=>∃ t,u=Value.str x t
 | .byt b,u=>∃ t,u=Value.bytes b t
 | .flt b,u=>∃ t,u=Value.float b t
 | .ref a,u=>u=Value.ref a
 | .ty n,u=>u=Value.type n
abbrev Yf:List V->List Value->Prop:=Paired Ya
theorem Yf.length (r:Yf xs us):xs.length=us.length:=Paired.length r
theorem Yf.get:∀{xs:List V}{us:List Value}{i:Nat}{x:V},Yf xs us->xs[i]?=some x->∃u,us[i]?=some u/\Ya x u
 |_,_,_,_, .nil,e=>by simp at e
 |_,_,0,_, .cons r _,e=>by simp at e;subst e;exact⟨_,rfl,r⟩
 |_,_,i+1,x, .cons _ t,e=>by
  obtain⟨u,h1,h2⟩:=Yf.get (i:=i) (x:=x) t (by simpa using e)
  exact⟨u,by simpa using h1,h2⟩
theorem Yf.set {x:V}(r:Ya x u):∀{xs:List V}{us:List Value} (i:Nat),Yf xs us->Yf (xs.set i x) (us.set i u)
 |_,_,_, .nil=>.nil
 |_,_,0, .cons _ t=>.cons r t
 |_,_,i+1, .cons q t=>.cons q (Yf.set r i t)
theorem Yf.append:∀{xs ys:List V}{us ws:List Value},Yf xs us->Yf ys ws->Yf (xs++ys) (us++ws):=λp s=>by
 induction p with
 |nil=>exact s
 |cons r _ ih=>exact .cons r ih
theorem Yf.take:∀{xs:List V}{us:List Value} (n:Nat),Yf xs us->Yf (xs.take n) (us.take n)
 |_,_,0,_=>.nil
 |_,_,_+1, .nil=>.nil
 |_,_,n+1, .cons r t=>.cons r (Yf.take n t)
theorem Yf.drop:∀{xs:List V}{us:List Value} (n:Nat),Yf xs us->Yf (xs.drop n) (us.drop n)
 |_,_,0,r=>r
 |_,_,_+1, .nil=>.nil
 |_,_,n+1, .cons _ t=>Yf.drop n t
def Ig:Option V->Option Value->Prop
 |some v,some u=>Ya v u
 |none,none=>True
 |_,_=>False
def KV:List (κ×V)->List (κ×Value)->Prop:=Paired λ(p:κ×V) (q:κ×Value)=>p.1=q.1/\Ya p.2 q.2
def kV:Key->V
 | .inl i=>.int i
 | .inr x=>.str x
inductive HO where
 /-- a list -/
 |lst (xs:List V)
 /-- a tuple (never changes) -/
 |tup (xs:List V)
 /-- a dict whose bN are ints and texts; one whose bN are tuples of ints and texts (df empty one is both) -/
 |dK (kvs:List (Key×V)) |dT (kvs:List (List Key×V))
 /-- a set of ints: its members, its size -/
 |set (S:Int->Bool) (n:Nat)
 /-- an instance of df class at C, its dict at dx, its attributes -/
 |ins (C dx:Addr) (fs:List (Str×V))
 /-- df dict of df instance at x -/
 |own (x:Addr)
 /-- df dict of an exception -/
 |xd (fs:List (Str×V))
 /-- a bound method, f of x -/
 |met (f x:Addr)
 /-- a range object lo, lo + 1, .. below hi -/
 |rng (lo hi:Int)
 /-- a thing that is known to df object (df script; a dict while a cQ walks it): read, never written while it is so -/
 |frz (o:Obj) (u:HO)
 /-- a code object's table -/
 |tbl (ps:Array Value)
 /-- any other thing, by what is true of its one object (a def of one's own: SetO a S n:=HO.ext λh=>..) -/
 |ext (φ:Heap->Prop)
abbrev Hp:=Addr->Option HO
def upd (H:Hp)(a:Addr)(o:HO):Hp:=λb=>if b=a then some o else H b
theorem X7:upd H a o a=some o:=by unfold upd;rw[if_pos rfl]
theorem XV (h:b≠a):upd H a o b=H b:=by unfold upd;rw[if_neg h]
theorem R8 {u:HO}:upd (upd H a o) a u=upd H a u:=by
 funext b;unfold upd;split<;> rfl
theorem WO {H:Hp}{o u:HO}(h:H a=some o)(h':H b=some u)(d:o≠u):a≠b:=by
 intro e;subst e;rw[h] at h';exact d (Option.some.inj h')
theorem X2 {H:Hp}{o:HO}(h:H a=some o)(h':H b=none):a≠b:=by
 intro e;subst e;rw[h] at h';cases h'
def V5 (h:Heap)(a:Addr)(items:Array Value):Prop:=∃ o,h.get? a=some o/\(o.cls= .type "tuple" /\o.dict=none)/\∃n,o.data= .seq items n
theorem V5.t (x:V5 h a items):IsTup h a items:=let ⟨o,ho,c,r⟩:=x;⟨o,ho,c.1,r⟩
theorem V5.new (h:Heap)(items:Array Value):V5 (h.push {cls:=.type "tuple",data:=.seq items}) h.objs.size items:=⟨_,Heap.get?_push_size _ rfl,⟨rfl,rfl⟩,_,rfl⟩
section
variable (P:Program)(w:World)
def YE (H:Hp)(h:Heap)(a:Addr):HO->Prop
 | .lst xs=>xs.length<=sizeLine/\∃(its:List Value) (n:Nat),Yf xs its/\h.get? a=some {cls:=.type "list",data:=.seq its.toArray n}
 | .tup xs=>xs.length<=sizeLine/\∃its:List Value,Yf xs its/\V5 h a its.toArray
 | .dK kvs=>kvs.length<=sizeLine/\(a==sysModules)=false/\∃vs,KV kvs vs/\h.DictOf (Yi P w) a vs
 | .dT kvs=>kvs.length<=sizeLine/\(a==sysModules)=false/\∃xs:List (List Key×Addr×Value),
   Paired (λ(p:List Key×V) (q:List Key×Addr×Value)=>p.1=q.1/\H q.2.1=some (.tup (p.1.map kV))/\Ya p.2 q.2.2) kvs xs/\
   ∃o es ep,h.get? a=some o/\o.ExactDict/\o.data= .dict es ep/\es.toList=xs.map (entryOfKey (tupleKind (Yi P w)))/\(xs.map (·.1)).Nodup
 | .set S n=>h.SetOf (intKind P w) a S n
 | .ins C dx fs=>H dx=some (.own a)/\fs.length<=1000/\dx≠a/\h.get? a=some (W.instObj C dx)/\
   ∃mA,h.Ns1 dx mA/\(∀f,Ig (fs.lookup f) (mA f))/\PySem.Within mA (fs.map (·.1))
 | .own _=>∃ o,h.get? a=some o
 | .xd fs=>∃ mA,h.Ns1 a mA/\∀f,Ig (fs.lookup f) (mA f)
 | .rng lo hi=>∃ t u v,h.get? a=some {cls:=.type "range",data:=.fields #[.int lo t, .int hi u, .int 1 v]}
 | .frz o u=>h.get? a=some o/\YE H h a u
 | .tbl ps=>h.get? a=some {cls:=.none,data:=.fields ps}
 | .met f x=>h.get? a=some (W.methodObj (.ref f) (.ref x))
 | .ext φ=>φ h/\(∃o,h.get? a=some o)/\∀h1 h2:Heap,φ h1->(∀o,h1.get? a=some o->h2.get? a=some o)->φ h2
def HOk (H:Hp)(h:Heap):Prop:=∀ a o,H a=some o->YE P w H h a o
end
section
variable {H H':Hp}{h:Heap}{o:HO}
theorem YE.lt (x:YE P w H h a o):a<h.objs.size:=by
 cases o with
 |lst xs=>obtain⟨_,_,_,_,e⟩:=x;exact Heap.lt_size e
 |tup xs=>obtain⟨_,_,_,p⟩:=x;exact p.t.lt
 |dK kvs=>obtain⟨_,_,_,_,o,_,_,e,_⟩:=x;exact Heap.lt_size e
 |dT kvs=>obtain⟨_,_,_,_,o,_,_,e,_⟩:=x;exact Heap.lt_size e
 |set S n=>obtain⟨o,_,_,_,e,_⟩:=x;exact Heap.lt_size e
 |ins C dx fs=>obtain⟨_,_,_,e,_⟩:=x;exact Heap.lt_size e
 |own y=>obtain⟨_,e⟩:=x;exact Heap.lt_size e
 |xd fs=>obtain⟨_,⟨_,_,_,e,_⟩,_⟩:=x;exact Heap.lt_size e
 |rng lo hi=>obtain⟨_,_,_,e⟩:=x;exact Heap.lt_size e
 |frz ob u=>obtain⟨e,_⟩:=x;exact Heap.lt_size e
 |tbl ps=>exact Heap.lt_size (show h.get? a=some _ from x)
 |met f y=>exact Heap.lt_size (show h.get? a=some _ from x)
 |ext φ=>obtain⟨_,⟨_,e⟩,_⟩:=x;exact Heap.lt_size e
theorem Paired.mapP:∀{l₁:List α}{l₂:List β},Paired F l₁ l₂->(∀a b,F a b->G a b)->Paired G l₁ l₂:=λp f=>by
 induction p with
 |nil=>exact .nil
 |cons r _ ih=>exact .cons (f _ _ r) ih
theorem YE.stay (x:YE P w H h a o)(k:∀b u,(b=a∨H b=some (.own a))->h.get? b=some u->h'.get? b=some u)
  (ho:∀b,H b=some (.own a)->H' b=some (.own a))(ht:∀b xs,H b=some (.tup xs)->H' b=some (.tup xs)):YE P w H' h' a o:=by
 induction o with
 |lst xs=>obtain⟨z,its,n,r,e⟩:=x;exact⟨z,its,n,r,k _ _ (.inl rfl) e⟩
 |tup xs=>obtain⟨z,its,r,ob,e,c⟩:=x;exact⟨z,its,r,ob,k _ _ (.inl rfl) e,c⟩
 |dK kvs=>obtain⟨z,y,vs,r,ob,es,ep,e,c⟩:=x;exact⟨z,y,vs,r,ob,es,ep,k _ _ (.inl rfl) e,c⟩
 |dT kvs=>
  obtain⟨z,y,xs,r,ob,es,ep,e,c⟩:=x
  exact⟨z,y,xs,Paired.mapP r λp q z=>⟨z.1,ht _ _ z.2.1,z.2.2⟩,ob,es,ep,k _ _ (.inl rfl) e,c⟩
 |set S n=>obtain⟨ob,es,ep,t,e,c⟩:=x;exact⟨ob,es,ep,t,k _ _ (.inl rfl) e,c⟩
 |ins C dx fs=>
  obtain⟨d,z,ne,e,mA,⟨od,es,ep,e2,c⟩,r⟩:=x
  exact⟨ho _ d,z,ne,k _ _ (.inl rfl) e,mA,⟨od,es,ep,k _ _ (.inr d) e2,c⟩,r⟩
 |own y=>obtain⟨ob,e⟩:=x;exact⟨ob,k _ _ (.inl rfl) e⟩
 |xd fs=>obtain⟨mA,⟨od,es,ep,e,c⟩,r⟩:=x;exact⟨mA,⟨od,es,ep,k _ _ (.inl rfl) e,c⟩,r⟩
 |rng lo hi=>obtain⟨t,u,v,e⟩:=x;exact⟨t,u,v,k _ _ (.inl rfl) e⟩
 |frz ob u ih=>obtain⟨e,q⟩:=x;exact⟨k _ _ (.inl rfl) e,ih q⟩
 |tbl ps=>
  have e:h.get? a=some {cls:=.none,data:=.fields ps}:=x
  show h'.get? a=some {cls:=.none,data:=.fields ps}
  exact k a _ (.inl rfl) e
 |met f y=>
  have e:h.get? a=some (W.methodObj (.ref f) (.ref y)):=x
  show h'.get? a=some (W.methodObj (.ref f) (.ref y))
  exact k a _ (.inl rfl) e
 |ext φ=>obtain⟨p,⟨o,e⟩,st⟩:=x;exact⟨st _ _ p λo q=>k _ _ (.inl rfl) q,⟨o,k _ _ (.inl rfl) e⟩,st⟩
theorem HOk.lt (x:HOk P w H h)(e:H a=some o):a<h.objs.size:=(x a o e).lt
theorem HOk.fresh (x:HOk P w H h)(e:h.objs.size<=a):H a=none:=by
 cases q:H a with
 |none=>rfl
 |some u=>exact absurd (Nat.lt_of_lt_of_le (x.lt q) e) (Nat.lt_irrefl _)
theorem HOk.kept (x:HOk P w H h)(k:∀b u,h.get? b=some u->h'.get? b=some u):HOk P w H h':=λa o e=>
 (x a o e).stay (λb u _ q=>k b u q) (λ_ q=>q) λ_ _ q=>q
theorem HOk.laid (x:HOk P w H h)(k:∀b u,h.get? b=some u->h'.get? b=some u)(hp:h.objs.size<=a)(new:YE P w (upd H a o) h' a o):HOk P w (upd H a o) h':=λb u e=>by
 have hn:=x.fresh hp
 by_cases hb:b=a
 ·subst hb;rw[X7] at e;cases e;exact new
 ·rw[XV hb] at e
  exact(x b u e).stay (λc v _ q=>k c v q) (λc q=>by rw[XV (X2 q hn)];exact q) λc xs q=>by rw[XV (X2 q hn)];exact q
end
def Rd (H:Hp)(a:Addr)(u:HO):Prop:=H a=some u∨∃o,H a=some (.frz o u)
theorem Rd.ok {u:HO}(r:Rd H a u)(x:HOk P w H h):YE P w H h a u:=by
 rcases r with r | ⟨o,r⟩
 ·exact x a u r
 ·obtain⟨_,q⟩:=x a _ r
  exact q
def Mut:Option HO->Prop
 |some (.lst _)=>True
 |some (.dK _)=>True
 |some (.dT _)=>True
 |some (.set _ _)=>True
 |some (.ins _ _ _)=>True
 |some (.ext _)=>True
 |_=>False
section
variable {H:Hp}{h:Heap}{x e:Addr}{o':HO}
theorem HOk.write (ok:HOk P w H h)(mu:Mut (H x))(he:e=x∨H e=some (.own x))(k:∀b u,b≠e->h.get? b=some u->h'.get? b=some u)(gd:∃u,h'.get? e=some u)
  (new:YE P w (upd H x o') h' x o'):HOk P w (upd H x o') h':=λb u q=>by
 have gA:∀c y,H c=some (.own y)->c≠x:=λc y r z=>by subst z;rw[r] at mu;exact mu
 have ntup:∀c xs,H c=some (.tup xs)->c≠x:=λc xs r z=>by subst z;rw[r] at mu;exact mu
 by_cases hb:b=x
 ·subst hb;rw[X7] at q;cases q;exact new
 ·rw[XV hb] at q
  by_cases fE:b=e
  ·have q':H b=some (.own x):=by
    rcases he with z |z
    ·exact absurd (fE.trans z) hb
    ·rw[fE];exact z
   rw[q] at q';cases q'
   obtain⟨v,hv⟩:=gd
   exact⟨v,by rw[fE];exact hv⟩
  ·refine(ok b u q).stay (λc v hc r=>k c v ?_ r) (λc r=>by rw[XV (gA c b r)];exact r) λc xs r=>by rw[XV (ntup c xs r)];exact r
   rcases hc with rfl |hc
   ·exact fE
   ·rintro rfl
    rcases he with z |z
    ·exact gA c b hc z
    ·rw[hc] at z;cases z;exact hb rfl
end
structure Un (fs ex:List Addr)(H H':Hp)(h h':Heap):Prop where
 keep:∀b o,h.get? b=some o->H b=none->b∉fs->b∉ex->h'.get? b=some o
 slot:∀b o,h.get? b=some o->H b=none->b∈fs->b∉ex->∃sl,h'.get? b=some {o with slots:=sl}
 free:∀b o,h.get? b=some o->H b=none->b∉ex->H' b=none
 there:∀b o,h.get? b=some o->b∉ex->∃o',h'.get? b=some o'
 tups:∀b xs,H b=some (.tup xs)->H' b=some (.tup xs)
 frzs:∀b o u,H b=some (.frz o u)->H' b=some (.frz o u)
 tbls:∀b ps,H b=some (.tbl ps)->∃more,H' b=some (.tbl (ps++more))
section
variable {fs fs' ex ex':List Addr}{H H1 H2:Hp}{h h1 h2:Heap}{x e:Addr}{o:HO}
theorem Un.any (u:Un fs ex H H1 h h1)(q:h.get? b=some ob)(n:H b=none)(hx:b∉ex):∃sl,h1.get? b=some {ob with slots:=sl}:=by
 by_cases hb:b∈fs
 ·exact u.slot b ob q n hb hx
 ·exact⟨ob.slots,u.keep b ob q n hb hx⟩
theorem Un.kept (k:∀b u,h.get? b=some u->h'.get? b=some u):Un fs ex H H h h':=
 ⟨λb ob q _ _ _=>k b ob q,λb ob q _ _ _=>⟨ob.slots,k b ob q⟩,λ_ _ _ n _=>n,λb ob q _=>⟨ob,k b ob q⟩,λ_ _ q=>q,λ_ _ _ q=>q,λ_ ps q=>⟨#[],by rw[q];simp⟩⟩
theorem Un.refl:Un fs ex H H h h:=Un.kept λ_ _ q=>q
theorem Un.laid (k:∀b u,h.get? b=some u->h'.get? b=some u)(hp:h.objs.size<=a)(hn:H a=none):Un fs ex H (upd H a o) h h' where
 keep:=λb u q _ _ _=>k b u q
 slot:=λb u q _ _ _=>⟨u.slots,k b u q⟩
 free:=λb u q n _=>by rw[XV (Nat.ne_of_lt (Nat.lt_of_lt_of_le (Heap.lt_size q) hp))];exact n
 there:=λb u q _=>⟨u,k b u q⟩
 tups:=λb xs q=>by rw[XV (X2 q hn)];exact q
 frzs:=λb u xs q=>by rw[XV (X2 q hn)];exact q
 tbls:=λb ps q=>⟨#[],by rw[XV (X2 q hn),q];simp⟩
theorem Un.write (mu:Mut (H x))(he:e=x∨H e=some (.own x))(k:∀b u,b≠e->h.get? b=some u->h'.get? b=some u)(gd:∃u,h'.get? e=some u):Un fs ex H (upd H x o) h h':=by
 have hx:∀b,H b=none->b≠x:=λb n z=>by subst z;rw[n] at mu;exact mu
 have hb:∀b,H b=none->b≠e:=λb n z=>by
  subst z
  rcases he with r |r
  ·exact hx b n r
  ·rw[n] at r;cases r
 have hm:∀b u,H b=some u->¬Mut (some u)->b≠x:=λb u q nm z=>by subst z;rw[q] at mu;exact nm mu
 refine⟨λb u q n _ _=>k b u (hb b n) q,λb u q n _ _=>⟨u.slots,k b u (hb b n) q⟩,λb u q n _=>by rw[XV (hx b n)];exact n,λb u q _=>?_,
  λb xs q=>by rw[XV (hm b _ q λz=>z)];exact q,λb u xs q=>by rw[XV (hm b _ q λz=>z)];exact q,λb ps q=>⟨#[],by rw[XV (hm b _ q λz=>z),q];simp⟩⟩
 by_cases fE:b=e
 ·subst fE;exact gd
 ·exact⟨u,k b u fE q⟩
end
def trk (h:Heap)(H:Hp):List Addr:=(List.range h.objs.size).filter λa=>(H a).isSome
def NH (h:Heap)(H:Hp):Heap:=PySem.W.hideAll h (trk h H)
theorem LP (h:Heap)(H:Hp):(NH h H).objs.size=h.objs.size:=PySem.W.hideAll_size _ _
theorem Nu (e:h.get? b=some o)(n:H b=none):(NH h H).get? b=some o:=
 PySem.W.hideAll_get _ e λhm=>by
  have q:(H b).isSome=true:=(List.mem_filter.mp hm).2
  rw[n] at q;simp at q
theorem RH (e:(NH h H).get? b=some o):h.get? b=some o/\H b=none:=by
 have e':h.get? b=some o:=PySem.W.of_hideAll (trk h H) e
 refine⟨e',?_⟩
 cases q:H b with
 |none=>rfl
 |some x=>
  have hm:b∈trk h H:=List.mem_filter.mpr ⟨List.mem_range.mpr (Heap.lt_size e'),by simp[q]⟩
  have z:(NH h H).get? b=none:=PySem.W.hideAll_none (trk h H) hm
  rw[z] at e;cases e
def Rb (g h:Heap)(L:Addr):List (Addr×Obj):=(List.range h.objs.size).filterMap λa=>if a=L∨(g.get? a).isSome=true then none else(h.get? a).map λo=>(a,o)
def Q3 (g h:Heap)(L d:Addr):List (Addr×Obj):=(Rb g h L).filter λp=>decide (p.1≠d)
structure Mod (K:W.Frag)(mg:Str->Option Value)(base:Heap):Prop where
 kin:K.In base
 glob:base.Ns mainGlobals mg
 blt:∃mb,base.Ns builtinsNs mb/\∀x:Str,x≠ "__name__" ->mb x=bootBuiltins x
 nolimit:base.NoLimit
structure Cx where
 prog:Program
 w:World
 K:W.Frag
 mg:Str->Option Value
 base:Heap
 A:Around
 N:List Str
 s₀:Shared
 H₀:Hp
 env:Env
 outer:List Env
 stack:List Env
 ex:List Addr
 fn:Str->Bool
 calm:Bool
 pn:List (Addr×Obj)
 xe:Value->Shared->Prop
def frs (l:List Env):List Addr:=l.filterMap (·.frame)
abbrev Cx.fs (X:Cx):List Addr:=frs X.outer
def Vis (sc:Scope)(x:Str):Prop:=sc.names.lookup x=some .local∨sc.names.lookup x=some .cell∨sc.names.lookup x=some .free
def Loc (sc:Scope)(x:Str):Prop:=sc.names.lookup x=some .local∨sc.names.lookup x=some .cell
def Av (env:Env)(h:Heap)(m:Str->Option Value)(x:Str)(u:Value):Prop:=
 (env.kindOf x=some .local/\m x=some u)∨((env.kindOf x=some .cell∨env.kindOf x=some .free)/\∃c,env.cells.lookup x=some c/\h.IsCell c (some u))
structure Cx.Ok (X:Cx):Prop where
 mod:Mod X.K X.mg X.base
 kind:X.env.scope.kind= .function
 glob:X.env.globals=mainGlobals
 blt:X.env.builtins=builtinsNs
 above:X.s₀.heap.objs.size<=X.env.locals
 inj:∀x y c,X.env.cells.lookup x=some c->X.env.cells.lookup y=some c->x=y
 has:∀x,(X.env.kindOf x=some .cell∨X.env.kindOf x=some .free)->∃c,X.env.cells.lookup x=some c
 cab:∀x c,X.fn x=true->X.env.cells.lookup x=some c->X.s₀.heap.objs.size<=c
 hd:X.calm=true->X.A.handled=none
 frames:X.A.frames=some X.stack
 stk:X.stack=X.outer∨(X.stack=X.env::X.outer/\X.env.frame=some X.env.locals)
 exf:∀b∈X.ex,b≠X.env.locals/\∀x c,X.env.cells.lookup x=some c->c≠b
 bs:∀b o,X.base.get? b=some o->X.s₀.heap.get? b=some o/\X.H₀ b=none
 bsz:X.base.objs.size<=X.s₀.heap.objs.size
 noex:∀b o,X.base.get? b=some o->b∉X.ex
 exfs:∀b∈X.ex,b∉X.fs
 funs:X.s₀.heap.FunFrames X.base X.outer
 frf:∀b∈X.fs,X.H₀ b=none
structure Inv (X:Cx)(aa:List (Addr×Obj))(σ:List (Option V))(H:Hp)(s:Shared):Prop where
 ok:X.Ok
 os:s.os=X.s₀.os
 bare:AllBare s.gens
 base:Un X.fs X.ex X.H₀ H X.s₀.heap s.heap
 loc:∃m,s.heap.Ns X.env.locals m/\∀(i:Nat) (x:Str) (v:V),X.N[i]?=some x->σ[i]?=some (some v)->Vis X.env.scope x->∃u,Ya v u/\Av X.env s.heap m x u
 cell:∀x c,X.env.cells.lookup x=some c->∃v,s.heap.IsCell c v
 free:H X.env.locals=none
 freeC:∀x c,X.env.cells.lookup x=some c->H c=none
 pin:∀p∈X.pn++aa,s.heap.get? p.1=some p.2/\H p.1=none/\p.1≠X.env.locals/\p.1∉X.fs/\∀v,p.2.data≠ .cell v
 hok:HOk X.prog X.w H s.heap
 len:σ.length=X.N.length
section
variable {X:Cx}{σ:List (Option V)}{H H':Hp}
theorem Cx.Ok.nofr (ok:X.Ok)(e:X.base.get? b=some o):b∉X.fs:=λhb=>by
 have:=(ok.funs.mem hb).1
 rw[e] at this;cases this
theorem Inv.bs (I:Inv X aa σ H s):∀b o,X.base.get? b=some o->s.heap.get? b=some o/\H b=none:=λb o e=>
 ⟨I.base.keep b o (I.ok.bs b o e).1 (I.ok.bs b o e).2 (I.ok.nofr e) (I.ok.noex b o e),I.base.free b o (I.ok.bs b o e).1 (I.ok.bs b o e).2 (I.ok.noex b o e)⟩
theorem Inv.bk (I:Inv X aa σ H s):∀b o,X.base.get? b=some o->s.heap.get? b=some o:=λb o e=>(I.bs b o e).1
theorem Inv.mod (I:Inv X aa σ H s):Mod X.K X.mg X.base:=I.ok.mod
theorem Inv.kIn (I:Inv X aa σ H s):X.K.In s.heap:=I.ok.mod.kin.keeps I.bk
theorem Inv.lt (I:Inv X aa σ H s):X.env.locals<s.heap.objs.size:=let ⟨_,hn,_⟩:=I.loc;hn.lt
theorem Inv.sz (I:Inv X aa σ H s):X.s₀.heap.objs.size<=s.heap.objs.size:=Nat.le_trans I.ok.above (Nat.le_of_lt I.lt)
theorem Inv.nofs (I:Inv X aa σ H s)(h:s.heap.objs.size<=a):a∉X.fs:=λhb=>by
 obtain⟨_,o,ho,_⟩:=I.ok.funs.mem hb
 exact absurd (Nat.lt_of_lt_of_le (Heap.lt_size ho) (Nat.le_trans I.sz h)) (Nat.lt_irrefl _)
theorem Inv.cne (I:Inv X aa σ H s):∀x c,X.env.cells.lookup x=some c->c≠X.env.locals:=λx c e z=>by
 obtain⟨v,o,ho,hd⟩:=I.cell x c e
 obtain⟨m,⟨o',es,ep,cq,hd',_⟩,_⟩:=I.loc
 rw[z,cq] at ho;cases ho;rw[hd'] at hd;cases hd
theorem Inv.funs (I:Inv X aa σ H s):s.heap.FunFrames X.base X.outer:=by
 have all:∀(l:List Env),(∀b∈frs l,b∈X.fs)->X.s₀.heap.FunFrames X.base l->s.heap.FunFrames X.base l:=by
  intro l
  induction l with
  |nil=>intro _ _;trivial
  |cons env r ih=>
   intro hs hl
   obtain⟨hk,⟨L,o,hf,hn,ho,hd⟩,hr⟩:=hl
   have hL:L∈X.fs:=hs L (by unfold frs;rw[List.filterMap_cons,hf];exact List.mem_cons_self)
   obtain⟨sl,e⟩:=I.base.slot L o ho (I.ok.frf L hL) hL λz=>I.ok.exfs L z hL
   exact⟨hk,⟨L,_,hf,hn,e,hd⟩,ih (λb hb=>hs b (by unfold frs;rw[List.filterMap_cons,hf];exact List.mem_cons_of_mem _ hb)) hr⟩
 exact all X.outer (λ_ hb=>hb) I.ok.funs
theorem Inv.stack (I:Inv X aa σ H s):s.heap.FunFrames X.base X.stack:=by
 rcases I.ok.stk with e | ⟨e,hf⟩
 ·rw[e];exact I.funs
 ·rw[e]
  obtain⟨m,hn,_⟩:=I.loc
  refine .cons (by rw[I.ok.kind];decide) hf hn ?_ I.funs
  exact Heap.get?_none_of_le (Nat.le_trans I.ok.bsz I.ok.above)
theorem Inv.stkSub (I:Inv X aa σ H s):∀b∈frs X.stack,b∈X.env.locals::X.fs:=λb hb=>by
 rcases I.ok.stk with e | ⟨e,hf⟩
 ·rw[e] at hb;exact List.mem_cons_of_mem _ hb
 ·rw[e] at hb
  unfold frs at hb
  rw[List.filterMap_cons,hf] at hb
  exact hb
theorem Inv.stkFree (I:Inv X aa σ H s):∀b∈frs X.stack,H b=none:=λb hb=>by
 rcases List.mem_cons.mp (I.stkSub b hb) with e |hb
 ·rw[e];exact I.free
 ·obtain⟨_,o,ho,_⟩:=I.ok.funs.mem hb
  exact I.base.free b o ho (I.ok.frf b hb) λz=>I.ok.exfs b z hb
theorem Inv.step {g':Array GenState}{t':Nat}{d':Drawn}{ch:List Addr}(I:Inv X aa σ H s)
  (eN:∀b∈ch,(b∈X.ex∨X.s₀.heap.objs.size<=b)/\b≠X.env.locals/\(∀x c,X.env.cells.lookup x=some c->c≠b)/\∀p∈X.pn++aa,p.1≠b)
  (keep:∀b o,b≠X.env.locals->b∉X.fs->b∉ch->s.heap.get? b=some o->H b=none->h'.get? b=some o)
  (slot:∀b o,b≠X.env.locals->b∈X.fs->b∉ch->s.heap.get? b=some o->H b=none->∃sl,h'.get? b=some {o with slots:=sl})(free:∀b o,b∉ch->s.heap.get? b=some o->H b=none->H' b=none)
  (there:∀b o,b∉ch->s.heap.get? b=some o->∃o',h'.get? b=some o')
  (tups:∀b xs,H b=some (.tup xs)->H' b=some (.tup xs))(frzs:∀b o u,H b=some (.frz o u)->H' b=some (.frz o u))(tbls:∀b ps,H b=some (.tbl ps)->∃more,H' b=some (.tbl (ps++more)))
  (ns:∀m,s.heap.Ns X.env.locals m->h'.Ns X.env.locals m)(hok:HOk X.prog X.w H' h')(hg:AllBare g'):
  Inv X aa σ H' {s with heap:=h',gens:=g',drawn:=d',toks:=t'}:=by
 have neL:∀b o,X.s₀.heap.get? b=some o->b≠X.env.locals:=λb o e=>Nat.ne_of_lt (Nat.lt_of_lt_of_le (Heap.lt_size e) I.ok.above)
 have neC:∀b o,X.s₀.heap.get? b=some o->b∉X.ex->b∉ch:=λb o e hx hb=>by
  rcases(eN b hb).1 with z |z
  ·exact hx z
  ·exact absurd (Nat.lt_of_lt_of_le (Heap.lt_size e) z) (Nat.lt_irrefl _)
 have fi:∀x c,X.env.cells.lookup x=some c->∀v,s.heap.IsCell c v->h'.IsCell c v:=λx c e v ⟨o,ho,hd⟩=>by
  have gB:c∉ch:=λz=>(eN c z).2.2.1 x c e rfl
  by_cases hc:c∈X.fs
  ·obtain⟨sl,q⟩:=slot c o (I.cne x c e) hc gB ho (I.freeC x c e)
   exact⟨_,q,hd⟩
  ·exact⟨o,keep c o (I.cne x c e) hc gB ho (I.freeC x c e),hd⟩
 refine⟨I.ok,I.os,hg,⟨λb o e n hb hx=>?_,λb o e n hb hx=>?_,λb o e n hx=>?_,λb o e hx=>?_,λb xs e=>tups b xs (I.base.tups b xs e),λb o xs e=>frzs b o xs (I.base.frzs b o xs e),λb ps e=>?_⟩,?_,λx c e=>?_,?_,λx c e=>?_,λp hp=>?_,hok,I.len⟩
 ·exact keep b o (neL b o e) hb (neC b o e hx) (I.base.keep b o e n hb hx) (I.base.free b o e n hx)
 ·obtain⟨sl,e1⟩:=I.base.slot b o e n hb hx
  obtain⟨sl',e2⟩:=slot b _ (neL b o e) hb (neC b o e hx) e1 (I.base.free b o e n hx)
  exact⟨sl',e2⟩
 ·obtain⟨o',e1⟩:=I.base.there b o e hx
  exact free b o' (neC b o e hx) e1 (I.base.free b o e n hx)
 ·obtain⟨o',e1⟩:=I.base.there b o e hx
  exact there b o' (neC b o e hx) e1
 ·obtain⟨m1,e1⟩:=I.base.tbls b ps e
  obtain⟨m2,e2⟩:=tbls b _ e1
  exact⟨m1++m2,by rw[e2,Array.append_assoc]⟩
 ·obtain⟨m,hn,hl⟩:=I.loc
  refine⟨m,ns m hn,λi x v e1 e2 e3=>?_⟩
  obtain⟨u,r,l⟩:=hl i x v e1 e2 e3
  refine⟨u,r,?_⟩
  rcases l with l | ⟨k,c,e,z⟩
  ·exact .inl l
  ·exact .inr ⟨k,c,e,fi x c e _ z⟩
 ·obtain⟨v,z⟩:=I.cell x c e
  exact⟨v,fi x c e v z⟩
 ·obtain⟨m,⟨o,_,_,ho,_⟩,_⟩:=I.loc
  exact free _ o (λz=>(eN _ z).2.1 rfl) ho I.free
 ·obtain⟨v,o,ho,hd⟩:=I.cell x c e
  exact free c o (λz=>(eN c z).2.2.1 x c e rfl) ho (I.freeC x c e)
 ·obtain⟨e,n,ne,nf,d⟩:=I.pin p hp
  have gB:p.1∉ch:=λz=>(eN p.1 z).2.2.2 p hp rfl
  exact⟨keep p.1 p.2 ne nf gB e n,free p.1 p.2 gB e n,ne,nf,d⟩
theorem Inv.un {t':Nat}(I:Inv X aa σ H s)(u:Un X.fs [] H H' s.heap h')(hok:HOk X.prog X.w H' h'):Inv X aa σ H' {s with heap:=h',toks:=t'}:=by
 obtain⟨m,⟨o,es,ep,ho,r⟩,_⟩:=id I.loc
 obtain⟨sl,hL⟩:=u.any ho I.free (by simp)
 exact I.step (g':=s.gens) (d':=s.drawn) (ch:=[]) (λ_ z=>nomatch z) (λb o _ hb _ e n=>u.keep b o e n hb (by simp)) (λb o _ hb _ e n=>u.slot b o e n hb (by simp)) (λb o _ e n=>u.free b o e n (by simp)) (λb o _ e=>u.there b o e (by simp)) u.tups u.frzs u.tbls (λm' hm=>by
  obtain⟨o',es',ep',cq,r'⟩:=hm
  rw[ho] at cq;cases cq
  exact⟨_,es',ep',hL,r'⟩) hok I.bare
theorem Inv.call {g':Array GenState}{t':Nat}{d':Drawn}{ch:List Addr}(I:Inv X aa σ H s)(u:Un (frs X.stack) ch H H' s.heap h')(hok:HOk X.prog X.w H' h')(hg:AllBare g')
  (eN:∀b∈ch,(b∈X.ex∨X.s₀.heap.objs.size<=b)/\b≠X.env.locals/\(∀x c,X.env.cells.lookup x=some c->c≠b)/\∀p∈X.pn++aa,p.1≠b):
  Inv X aa σ H' {s with heap:=h',gens:=g',drawn:=d',toks:=t'}:=by
 obtain⟨m,⟨o,es,ep,ho,r⟩,_⟩:=id I.loc
 obtain⟨sl,hL⟩:=u.any ho I.free λz=>(eN _ z).2.1 rfl
 exact I.step (ch:=ch) eN (λb o hL hb hc e n=>u.keep b o e n (λz=>(List.mem_cons.mp (I.stkSub b z)).elim hL hb) hc) (λb o _ _ hc e n=>u.any e n hc) (λb o hc e n=>u.free b o e n hc) (λb o hc e=>u.there b o e hc) u.tups u.frzs u.tbls (λm' hm=>by
  obtain⟨o',es',ep',cq,r'⟩:=hm
  rw[ho] at cq;cases cq
  exact⟨_,es',ep',hL,r'⟩) hok hg
theorem Inv.turned {t':Nat}{it:Addr}(I:Inv X aa σ H s)(k:∀b o,b≠it->s.heap.get? b=some o->h'.get? b=some o)(hn:H it=none)(hL:it≠X.env.locals)
  (h1:it∈X.ex∨X.s₀.heap.objs.size<=it)(h2:∀x c,X.env.cells.lookup x=some c->c≠it)(h3:∀p∈X.pn++aa,p.1≠it):Inv X aa σ H {s with heap:=h',toks:=t'}:=by
 have fj:∀b u,H b=some u->b≠it:=λb u e z=>by rw[z,hn] at e;cases e
 refine I.step (g':=s.gens) (d':=s.drawn) (ch:=[it]) (λb hb=>?_) (λb o _ _ hc e _=>k b o (λz=>hc (by simp[z])) e) (λb o _ _ hc e _=>⟨o.slots,k b o (λz=>hc (by simp[z])) e⟩) (λ_ _ _ _ n=>n)
  (λb o hc e=>⟨o,k b o (λz=>hc (by simp[z])) e⟩) (λ_ _ e=>e) (λ_ _ _ e=>e) (λb ps e=>⟨#[],by rw[e];simp⟩) (λm hm=>?_) (λb u e=>?_) I.bare
 ·have e:b=it:=by simpa using hb
  subst e
  exact⟨h1,hL,h2,h3⟩
 ·obtain⟨o,es,ep,ho,r⟩:=hm
  exact⟨o,es,ep,k _ o (Ne.symm hL) ho,r⟩
 ·refine(I.hok b u e).stay (λc v hc q=>k c v ?_ q) (λ_ q=>q) λ_ _ q=>q
  rcases hc with z |z
  ·rw[z];exact fj b u e
  ·exact fj c _ z
theorem Inv.tok (I:Inv X aa σ H s)(t:Nat):Inv X aa σ H {s with toks:=t}:=I.un (h':=s.heap) (t':=t) Un.refl I.hok
theorem Inv.kept {t':Nat}(I:Inv X aa σ H s)(k:∀b u,s.heap.get? b=some u->h'.get? b=some u):Inv X aa σ H {s with heap:=h',toks:=t'}:=I.un (Un.kept k) (I.hok.kept k)
theorem Inv.laid {t':Nat}(I:Inv X aa σ H s)(k:∀b u,s.heap.get? b=some u->h'.get? b=some u)(hp:s.heap.objs.size<=a)(new:YE X.prog X.w (upd H a o) h' a o):
  Inv X aa σ (upd H a o) {s with heap:=h',toks:=t'}:=I.un (Un.laid k hp (I.hok.fresh hp)) (I.hok.laid k hp new)
theorem Inv.write {x e:Addr}{t':Nat}(I:Inv X aa σ H s)(mu:Mut (H x))(he:e=x∨H e=some (.own x))(k:∀b u,b≠e->s.heap.get? b=some u->h'.get? b=some u)(gd:∃u,h'.get? e=some u)
  (new:YE X.prog X.w (upd H x o) h' x o):Inv X aa σ (upd H x o) {s with heap:=h',toks:=t'}:=I.un (Un.write mu he k gd) (I.hok.write mu he k gd new)
theorem Inv.weak (I:Inv X aa σ H s)(hl:σ'.length=σ.length)(w:∀(i:Nat) v,σ'[i]?=some (some v)->σ[i]?=some (some v)):Inv X aa σ' H s:=
 ⟨I.ok,I.os,I.bare,I.base,let ⟨m,hn,hl'⟩:=I.loc;⟨m,hn,λi x v e1 e2 e3=>hl' i x v e1 (w i v e2) e3⟩,I.cell,I.free,I.freeC,I.pin,I.hok,hl.trans I.len⟩
theorem Inv.pins_of (I:Inv X aa σ H s)(h:∀p∈pins',s.heap.get? p.1=some p.2/\H p.1=none/\p.1≠X.env.locals/\p.1∉X.fs/\∀v,p.2.data≠ .cell v):Inv X pins' σ H s:=
 ⟨I.ok,I.os,I.bare,I.base,I.loc,I.cell,I.free,I.freeC,λp hp=>(List.mem_append.mp hp).elim (λz=>I.pin p (List.mem_append_left _ z)) (h p),I.hok,I.len⟩
theorem Hf (hN:N.Nodup)(a:N[i]?=some x)(b:N[j]?=some x):i=j:=by
 obtain⟨h1,e1⟩:=List.getElem?_eq_some_iff.mp a
 obtain⟨h2,e2⟩:=List.getElem?_eq_some_iff.mp b
 exact(List.getElem_inj hN).mp (e1.trans e2.symm)
theorem Cq {Q:Unit->Shared->Prop}(I:Inv X aa σ H s)(hN:X.N.Nodup)(hi:X.N[i]?=some x)(hx:Loc X.env.scope x)(r:Ya v u)
  (h:∀s',Inv X aa (σ.set i (some v)) H s'->(∃a,Heap.SameBut a s.heap s'.heap/\(a=X.env.locals∨X.env.cells.lookup x=some a))->Q () s')(hf:X.fn x=true∨X.env.scope.names.lookup x=some .local:=by first |exact .inl rfl |exact .inr rfl |assumption):wpAny M A (storeName X.env x u) Q E s:=by
 obtain⟨m,hn,hl⟩:=id I.loc
 have hcls:(X.env.scope.kind== .class || (X.env.scope.kind== .module&&X.env.locals !=X.env.globals))=false:=by rw[I.ok.kind];rfl
 have hiσ:i<σ.length:=by rw[I.len];exact(List.getElem?_eq_some_iff.mp hi).1
 have cne:=I.cne
 have cr:∀{a:Addr}{h':Heap},(∃o,s.heap.get? a=some o/\H a=none)->Heap.SameBut a s.heap h'->HOk X.prog X.w H h':=fun {a h'} ha hs b ob e=>by
  obtain⟨_,_,ck⟩:=ha
  refine(I.hok b ob e).stay (λc w' hc q=>(hs.2 c ?_).trans q) (λ_ q=>q) λ_ _ q=>q
  rintro rfl
  rcases hc with rfl |hc
  ·rw[ck] at e;cases e
  ·rw[ck] at hc;cases hc
 rcases hx with hk |hk
 ·refine wpAny_storeName_local hk hn (λh' hn' hs=>?_) hcls
  obtain⟨oL,_,_,gC,_⟩:=id hn
  refine h _ ⟨I.ok,I.os,I.bare,⟨λb o e n hb hx=>?_,λb o e n hb hx=>?_,I.base.free,λb o e hx=>?_,I.base.tups,I.base.frzs,I.base.tbls⟩,⟨_,hn',λj y v' e1 e2 e3=>?_⟩,λy c e=>?_,I.free,I.freeC,λp hp=>?_,cr ⟨oL,gC,I.free⟩ hs,by simpa using I.len⟩ ⟨_,hs, .inl rfl⟩
  ·exact(hs.2 b (Nat.ne_of_lt (Nat.lt_of_lt_of_le (Heap.lt_size e) I.ok.above))).trans (I.base.keep b o e n hb hx)
  ·obtain⟨sl,e1⟩:=I.base.slot b o e n hb hx
   exact⟨sl,(hs.2 b (Nat.ne_of_lt (Nat.lt_of_lt_of_le (Heap.lt_size e) I.ok.above))).trans e1⟩
  ·obtain⟨o',e1⟩:=I.base.there b o e hx
   exact⟨o',(hs.2 b (Nat.ne_of_lt (Nat.lt_of_lt_of_le (Heap.lt_size e) I.ok.above))).trans e1⟩
  ·by_cases hj:j=i
   ·subst hj
    rw[hi] at e1;cases e1
    rw[List.getElem?_set_self hiσ] at e2
    cases e2
    exact⟨u,r, .inl ⟨hk,by simp⟩⟩
   ·rw[List.getElem?_set_ne (Ne.symm hj)] at e2
    obtain⟨u',r',q⟩:=hl j y v' e1 e2 e3
    refine⟨u',r',?_⟩
    rcases q with⟨k,e⟩ | ⟨k,c,e,z⟩
    ·refine .inl ⟨k,?_⟩
     have:y≠x:=λe=>hj (Hf hN e1 (e▸hi))
     simp[this,e]
    ·exact .inr ⟨k,c,e,z.sameBut hs (cne y c e)⟩
  ·obtain⟨w',z⟩:=I.cell y c e
   exact⟨w',z.sameBut hs (cne y c e)⟩
  ·obtain⟨e,n,ne,nf,d⟩:=I.pin p hp
   exact⟨(hs.2 p.1 ne).trans e,n,ne,nf,d⟩
 ·have hfn:X.fn x=true:=by
   rcases hf with z |z
   ·exact z
   ·rw[z] at hk;cases hk
  obtain⟨c,hc⟩:=I.ok.has x (.inl hk)
  obtain⟨w',z⟩:=I.cell x c hc
  refine wpAny_storeName_cell I.ok.kind hk hc z (λh' dU hs=>?_)
  obtain⟨oc,hoc,hocd⟩:=id z
  refine h {s with heap:=h'} ⟨I.ok,I.os,I.bare,⟨λb o e n hb hx=>?_,λb o e n hb hx=>?_,I.base.free,λb o e hx=>?_,I.base.tups,I.base.frzs,I.base.tbls⟩,⟨m,hn.sameBut hs (Ne.symm (cne x c hc)),λj y v' e1 e2 e3=>?_⟩,λy c' e=>?_,I.free,I.freeC,λp hp=>?_,cr ⟨oc,hoc,I.freeC x c hc⟩ hs,by simpa using I.len⟩ ⟨c,hs, .inr hc⟩
  ·exact(hs.2 b (Nat.ne_of_lt (Nat.lt_of_lt_of_le (Heap.lt_size e) (I.ok.cab x c hfn hc)))).trans (I.base.keep b o e n hb hx)
  ·obtain⟨sl,e1⟩:=I.base.slot b o e n hb hx
   exact⟨sl,(hs.2 b (Nat.ne_of_lt (Nat.lt_of_lt_of_le (Heap.lt_size e) (I.ok.cab x c hfn hc)))).trans e1⟩
  ·obtain⟨o',e1⟩:=I.base.there b o e hx
   exact⟨o',(hs.2 b (Nat.ne_of_lt (Nat.lt_of_lt_of_le (Heap.lt_size e) (I.ok.cab x c hfn hc)))).trans e1⟩
  ·by_cases hj:j=i
   ·subst hj
    rw[hi] at e1;cases e1
    rw[List.getElem?_set_self hiσ] at e2
    cases e2
    exact⟨u,r, .inr ⟨.inl hk,c,hc,dU⟩⟩
   ·rw[List.getElem?_set_ne (Ne.symm hj)] at e2
    obtain⟨u',r',q⟩:=hl j y v' e1 e2 e3
    refine⟨u',r',?_⟩
    rcases q with q | ⟨k,c',e,z'⟩
    ·exact .inl q
    ·refine .inr ⟨k,c',e,z'.sameBut hs ?_⟩
     rintro rfl
     exact hj (Hf hN e1 (I.ok.inj _ _ _ e hc▸hi))
  ·by_cases hcc:c'=c
   ·subst hcc;exact⟨_,dU⟩
   ·obtain⟨w2,z2⟩:=I.cell y c' e
    exact⟨w2,z2.sameBut hs hcc⟩
  ·obtain⟨e,n,ne,nf,d⟩:=I.pin p hp
   refine⟨(hs.2 p.1 ?_).trans e,n,ne,nf,d⟩
   intro q
   rw[q,hoc] at e
   have q':oc=p.2:=Option.some.inj e
   exact d w' (by rw[←q'];exact hocd)
theorem Qz {Q:Unit->Shared->Prop}(I:Inv X aa σ H s)(hN:X.N.Nodup)(hi:X.N[i]?=some x)(hx:Loc X.env.scope x)(r:Ya v u)
  (h:∀s',Inv X aa (σ.set i (some v)) H s'->Q () s')(hf:X.fn x=true∨X.env.scope.names.lookup x=some .local:=by first |exact .inl rfl |exact .inr rfl |assumption):wpAny M A (storeName X.env x u) Q E s:=
 Cq I hN hi hx r (λs' I' _=>h s' I') hf
theorem Inv.call' (I:Inv X aa σ H s)(ho:s'.os=s.os)(u:Un (frs X.stack) ch H H' s.heap s'.heap)(hok:HOk X.prog X.w H' s'.heap)(hg:AllBare s'.gens)
  (eN:∀b∈ch,(b∈X.ex∨X.s₀.heap.objs.size<=b)/\b≠X.env.locals/\(∀x c,X.env.cells.lookup x=some c->c≠b)/\∀p∈X.pn++aa,p.1≠b):Inv X aa σ H' s':=by
 obtain⟨h',g',d',t',o'⟩:=s'
 have e:o'=s.os:=ho
 subst e
 exact I.call (g':=g') (t':=t') (d':=d') u hok hg eN
end
abbrev XK:=Value->Option Addr->Hp->Prop
abbrev St:=List (Option V)
abbrev VK:=V->Hp->Prop
abbrev TE:=St->Hp->VK->Prop
abbrev TT:=St->Hp->(Bool->Hp->Prop)->Prop
abbrev TA:=St->Hp->(List V->Hp->Prop)->Prop
structure Ends where
 nx:St->Hp->Prop
 rt:VK
 bk:St->Hp->Prop:=λ_ _=>False
 ct:St->Hp->Prop:=λ_ _=>False
abbrev TS:=Ends->St->Hp->Prop
def EP (X:Cx)(aa:List (Addr×Obj))(σ:St)(Q:VK)(u:Value)(s':Shared):Prop:=∃ v H',Inv X aa σ H' s'/\Ya v u/\Q v H'
def TP (X:Cx)(aa:List (Addr×Obj))(σ:St)(Q:Bool->Hp->Prop)(b:Bool)(s':Shared):Prop:=∃ H',Inv X aa σ H' s'/\Q b H'
def AP (X:Cx)(aa:List (Addr×Obj))(σ:St)(Q:List V->Hp->Prop)(us:List Value)(s':Shared):Prop:=∃ vs H',Inv X aa σ H' s'/\Yf vs us/\Q vs H'
def SP (X:Cx)(aa:List (Addr×Obj))(D:Ends)(f:Flow)(s':Shared):Prop:=
 match f with
 | .next=>∃ σ' H',Inv X aa σ' H' s'/\D.nx σ' H'
 | .brk=>∃ σ' H',Inv X aa σ' H' s'/\D.bk σ' H'
 | .cont=>∃ σ' H',Inv X aa σ' H' s'/\D.ct σ' H'
 | .ret u=>∃ v σ' H',Inv X aa σ' H' s'/\Ya v u/\D.rt v H'
def PE (X:Cx)(e:Expr)(t:TE):Prop:=
 ∀(aa:List (Addr×Obj)) (s:Shared) (σ:St) (H:Hp) (Q:VK),Inv X aa σ H s->t σ H Q->wpAny (model X.prog X.w) X.A (eval e X.env) (EP X aa σ Q) X.xe s
def PT (X:Cx)(e:Expr)(t:TT):Prop:=
 ∀(aa:List (Addr×Obj)) (s:Shared) (σ:St) (H:Hp) (Q:Bool->Hp->Prop),Inv X aa σ H s->t σ H Q->wpAny (model X.prog X.w) X.A (isTrue e X.env (eval e X.env)) (TP X aa σ Q) X.xe s
def PW (X:Cx)(e:Expr)(t:TT):Prop:=
 ∀(dg:Sem Value) (aa:List (Addr×Obj)) (s:Shared) (σ:St) (H:Hp) (Q:Bool->Hp->Prop),Inv X aa σ H s->t σ H Q->wpAny (model X.prog X.w) X.A (isTrue e X.env dg) (TP X aa σ Q) X.xe s
theorem PW.pt (h:PW X e t):PT X e t:=h _
def PA (X:Cx)(es:List Expr)(t:TA):Prop:=
 ∀(pos:Pos) (aa:List (Addr×Obj)) (s:Shared) (σ:St) (H:Hp) (Q:List V->Hp->Prop),Inv X aa σ H s->t σ H Q->wpAny (model X.prog X.w) X.A (spliced (backTo pos (starEach es X.env))) (AP X aa σ Q) X.xe s
def PS (X:Cx)(st:Stmt)(t:TS):Prop:=
 ∀(aa:List (Addr×Obj)) (s:Shared) (σ:St) (H:Hp) (D:Ends),Inv X aa σ H s->t D σ H->wpAny (model X.prog X.w) X.A (exec st X.env) (SP X aa D) X.xe s
def PSs (X:Cx)(st:List Stmt)(t:TS):Prop:=
 ∀(aa:List (Addr×Obj)) (s:Shared) (σ:St) (H:Hp) (D:Ends),Inv X aa σ H s->t D σ H->wpAny (model X.prog X.w) X.A (execs st X.env) (SP X aa D) X.xe s
theorem thn {Q:α->Shared->Prop}(h:wpAny M A t Q E s)(hQ:∀a s,Q a s->Q' a s):wpAny M A t Q' E s:=wpAny_mono h hQ λ_ _ x=>x
end L2
variable {H H' H1 H2:L2.Hp}{X:L2.Cx}{σ:L2.St}{ta tb tc td te:L2.TE}{xs:List L2.V}{kvs:List (L2.Key×L2.V)}{D:L2.Ends}{Fd:L2.Ends->β->L2.Hp->Prop}
namespace L2
open PySem PySem.Spec PyProof.Rows
section
def VI (i:Nat):TE:=λσ H Q=>∃ v,σ[i]?=some (some v)/\Q v H
def tC (v:V):TE:=λ_ H Q=>Q v H
theorem S8 (hN:X.N[i]?=some x)(hv:Vis X.env.scope x)(hd:(x==("__debug__":Str))=false:=by decide)(dW:(x==("__classdict__":Str))=false:=by decide):PE X (.Name x pos) (VI i):=by
 intro aa s σ H Q I h
 obtain⟨v,e,h⟩:=h
 obtain⟨m,hn,hl⟩:=I.loc
 obtain⟨u,r,l⟩:=hl i x v hN e hv
 have fin:EP X aa σ Q u s:=⟨v,H,I,r,h⟩
 rcases l with⟨hk,hm⟩ | ⟨hk,c,hc,dh⟩
 ·exact wpAny_Name (wpAny_loadName_local I.ok.kind hk hn hm fin) hd
 ·rcases hk with hk |hk
  ·exact wpAny_Name (wpAny_loadName_cell I.ok.kind hk hc dh fin) hd
  ·exact wpAny_Name (wpAny_loadName_free I.ok.kind hk hc dh fin dW) hd
theorem Xc {i j pos}:PE X (.Constant (.int i) j pos) (tC (.int i)):=λ_ _ _ H _ I h=>wpAny_Constant_int ⟨.int i,H,I.tok _,⟨_,rfl⟩,h⟩
theorem Zc {b j pos}:PE X (.Constant (.bool b) j pos) (tC (.bl b)):=λ_ _ _ H _ I h=>Constant_bool ⟨.bl b,H,I,rfl,h⟩
theorem K7 {j pos}:PE X (.Constant .none j pos) (tC .non):=λ_ _ _ H _ I h=>Constant_none ⟨.non,H,I,rfl,h⟩
theorem Xu {x j pos}:PE X (.Constant (.str x) j pos) (tC (.str x)):=λ_ _ _ H _ I h=>Calls.Constant_str ⟨.str x,H,I.tok _,⟨_,rfl⟩,h⟩
def Gl (X:Cx)(x:Str):Prop:=X.env.kindOf x=some .globalImplicit
theorem Lh (I:Inv X aa σ H s)(hg:Gl X x)(hm:X.mg x=some u)(h:Q u s)
  (hd:(x==("__debug__":Str))=false:=by decide):wpAny (model X.prog X.w) X.A (eval (.Name x pos) X.env) Q E s:=
 Calls.Name_function_global I.ok.kind hg (Calls.loadGlobal_global (by rw[I.ok.glob];exact I.mod.glob.keeps I.bk) hm h) hd
theorem UY (I:Inv X aa σ H s)(hg:Gl X x)(hm:X.mg x=none)(hv:bootBuiltins x=some u)(h:Q u s)
  (hn:x≠ "__name__":=by decide)(hd:(x==("__debug__":Str))=false:=by decide):wpAny (model X.prog X.w) X.A (eval (.Name x pos) X.env) Q E s:=by
 obtain⟨mb,h1,h2⟩:=I.mod.blt
 exact Calls.Name_function_global I.ok.kind hg (Calls.loadGlobal_builtin (by rw[I.ok.glob];exact I.mod.glob.keeps I.bk) hm (by rw[I.ok.blt];exact h1.keeps I.bk) ((h2 x hn).trans hv) h) hd
theorem Pr (hg:Gl X x)(hm:X.mg x=some u)(r:Ya v u)(hd:(x==("__debug__":Str))=false:=by decide):PE X (.Name x pos) (tC v):=
 λ_ _ _ H _ I h=>Lh I hg hm ⟨v,H,I,r,h⟩ hd
theorem UV (hg:Gl X x)(hm:X.mg x=none)(hv:bootBuiltins x=some u)(r:Ya v u)(hn:x≠ "__name__":=by decide)(hd:(x==("__debug__":Str))=false:=by decide):PE X (.Name x pos) (tC v):=
 λ_ _ _ H _ I h=>UY I hg hm hv ⟨v,H,I,r,h⟩ hn hd
variable {a b:Expr}
def PC (X:Cx)(op:CmpOp)(a b:Expr)(t:TE):Prop:=
 ∀(aa:List (Addr×Obj)) (s:Shared) (σ:St) (H:Hp) (Q:VK),Inv X aa σ H s->t σ H Q->
  wpAny (model X.prog X.w) X.A (eval a X.env) (λv s₁=>wpAny (model X.prog X.w) X.A (eval b X.env) (λu s₂=>wpAny (model X.prog X.w) X.A (compareOp op v u) (EP X aa σ Q) X.xe s₂) X.xe s₁) X.xe s
theorem Hh (b:Expr)(h:op≠ .In)(h2:op≠ .NotIn):behindInMarks op b=false:=by
 have e1:(op==CmpOp.In)=false:=by cases op<;> first |rfl |exact absurd rfl h
 have e2:(op==CmpOp.NotIn)=false:=by cases op<;> first |rfl |exact absurd rfl h2
 cases b<;> simp[behindInMarks,e1,e2]
def tB (t:TE):TT:=λσ H Q=>t σ H λx H1=>∃ c,x= .bl c/\Q c H1
theorem OV (h:PC X op a b t)(h1:behindInMarks op b=false:=by first |exact Hh _ (by decide) (by decide) |rfl):PE X (.Compare a [op] [b] pos) t:=λaa s σ H Q I hw=>wpAny_Compare1 (h aa s σ H Q I hw) h1
theorem TU (h:PC X op a b t)(h1:behindInMarks op b=false:=by first |exact Hh _ (by decide) (by decide) |rfl):PT X (.Compare a [op] [b] pos) (tB t):=by
 intro aa s σ H Q I hw
 refine wpAny_isTrue_Compare1 (thn (h aa s σ H _ I hw) λv s1 h1=>thn h1 λu s2 h2=>thn h2 λc s3 r9=>?_) h1
 obtain⟨x,H1,I1,r1,q1⟩:=r9
 obtain⟨d,rfl,q⟩:=q1
 cases r1
 exact wpAny_truthy_bool ⟨H1,I1,q⟩
theorem Zg (h:PE X e t)(he:∀dg,isTrue e X.env dg=(do let v ←dg;standAt e.pos;holding [v] (truthy v)):=by intro _;rfl):PT X e (tB t):=by
 intro aa s σ H Q I hw
 refine isTrue_plain (thn (h aa s σ H _ I hw) λv s1 r9=>?_) (he _)
 obtain⟨x,H1,I1,r1,q1⟩:=r9
 obtain⟨d,rfl,q⟩:=q1
 cases r1
 exact wpAny_truthy_bool ⟨H1,I1,q⟩
variable {tA tB':TT}{Q3:List Expr}
def WX (t u:TT):TT:=λσ H Q=>t σ H λc H1=>if c=true then u σ H1 Q else Q false H1
def tOr (t u:TT):TT:=λσ H Q=>t σ H λc H1=>if c=true then Q true H1 else u σ H1 Q
def Wz (t:TT):TT:=λσ H Q=>t σ H λc H1=>Q (!c) H1
theorem Dw (ha:PT X a tA):PW X (.BoolOp .And [a] pos) tA:=by
 intro wh aa s σ H Q I h
 refine isTrue_and (thn (ha aa s σ H Q I h) λc s1 e=>?_)
 cases c with
 |true=>exact isTrue_and_nil e
 |false=>exact e
theorem Q0 (ha:PT X a tA):PW X (.BoolOp .Or [a] pos) tA:=by
 intro wh aa s σ H Q I h
 refine isTrue_or (thn (ha aa s σ H Q I h) λc s1 e=>?_)
 cases c with
 |false=>exact isTrue_or_nil e
 |true=>exact e
theorem ED (ha:PT X a tA)(hb:PW X (.BoolOp .And (b::Q3) pos) tB'):PW X (.BoolOp .And (a::b::Q3) pos) (WX tA tB'):=by
 intro wh aa s σ H Q I h
 refine isTrue_and (thn (ha aa s σ H _ I h) λc s1 r9=>?_)
 obtain⟨H1,I1,q1⟩:=r9
 cases c with
 |true=>exact hb wh aa s1 σ H1 Q I1 q1
 |false=>exact⟨H1,I1,q1⟩
theorem Ve (ha:PT X a tA)(hb:PW X (.BoolOp .Or (b::Q3) pos) tB'):PW X (.BoolOp .Or (a::b::Q3) pos) (tOr tA tB'):=by
 intro wh aa s σ H Q I h
 refine isTrue_or (thn (ha aa s σ H _ I h) λc s1 r9=>?_)
 obtain⟨H1,I1,q1⟩:=r9
 cases c with
 |true=>exact⟨H1,I1,q1⟩
 |false=>exact hb wh aa s1 σ H1 Q I1 q1
theorem Q2 (ha:PT X a tA):PT X (.UnaryOp .Not a pos) (Wz tA):=by
 intro aa s σ H Q I h
 exact isTrue_not (ha aa s σ H (λc H1=>Q (!c) H1) I h)
def Sh (ta tb:TE):TE:=λσ H Q=>ta σ H λx H1=>∃ c,x= .bl c/\if c=true then tb σ H1 Q else Q (.bl false) H1
theorem J4 {op}(h:PE X a t):PE X (.BoolOp op [a] pos) t:=λaa s σ H Q I hw=>BoolOp_one (h aa s σ H Q I hw)
theorem Jp (ha:PE X a ta)(hb:PE X (.BoolOp .And (b::Q3) pos) tb):PE X (.BoolOp .And (a::b::Q3) pos) (Sh ta tb):=by
 intro aa s σ H Q I h
 refine BoolOp_and (thn (ha aa s σ H _ I h) λv s1 r9=>?_)
 obtain⟨x,H1,I1,r1,q1⟩:=r9
 obtain⟨c,rfl,q1⟩:=q1
 cases r1
 refine wpAny_truthy_bool ?_
 cases c with
 |true=>exact hb aa s1 σ H1 Q I1 q1
 |false=>exact⟨.bl false,H1,I1,rfl,q1⟩
def tIf (t:TT)(ta tb:TE):TE:=λσ H Q=>t σ H λc H1=>if c=true then ta σ H1 Q else tb σ H1 Q
theorem Z7 (hc:PT X c tA)(ha:PE X a ta)(hb:PE X b tb):PE X (.IfExp c a b pos) (tIf tA ta tb):=by
 intro aa s σ H Q I h
 refine wpAny_IfExp (thn (hc aa s σ H _ I h) λd s1 r9=>?_)
 obtain⟨H1,I1,q1⟩:=r9
 cases d with
 |true=>exact ha aa s1 σ H1 Q I1 q1
 |false=>exact hb aa s1 σ H1 Q I1 q1
end
def SqL (K:W.Frag)(H:Hp)(a:Addr)(xs:List V):Prop:=
 Rd H a (.lst xs)∨
  ∃(o:Obj) (its:Array Value) (n:Nat),K.lookup a=some o/\o.cls= .type "list" /\o.dict=none/\o.data= .seq its n/\its.size<=sizeLine/\Yf xs its.toList
def SqT (K:W.Frag)(H:Hp)(a:Addr)(xs:List V):Prop:=
 Rd H a (.tup xs)∨
  ∃(o:Obj) (its:Array Value) (n:Nat),K.lookup a=some o/\o.cls= .type "tuple" /\o.data= .seq its n/\its.size<=sizeLine/\Yf xs its.toList
def AF:Value->Option V
 | .none=>some .non
 | .bool b=>some (.bl b)
 | .int i _=>some (.int i)
 | .str x _=>some (.str x)
 | .bytes b _=>some (.byt b)
 | .float b _=>some (.flt b)
 | .ref a=>some (.ref a)
 | .type n=>some (.ty n)
 |_=>none
theorem Ya.abs {x:V}(r:Ya x u):AF u=some x:=by
 cases x with
 |non=>cases r;rfl
 |bl _=>cases r;rfl
 |int _=>obtain⟨t,rfl⟩:=r;rfl
 |str _=>obtain⟨t,rfl⟩:=r;rfl
 |byt _=>obtain⟨t,rfl⟩:=r;rfl
 |flt _=>obtain⟨t,rfl⟩:=r;rfl
 |ref _=>cases r;rfl
 |ty _=>cases r;rfl
theorem Ya.inj {x y:V}(r:Ya x u)(q:Ya y u):x=y:=Option.some.inj (r.abs.symm.trans q.abs)
theorem Yf.inj:∀{xs ys:List V}{us:List Value},Yf xs us->Yf ys us->xs=ys:=fun {xs ys us} p=>by
 induction p generalizing ys with
 |nil=>intro q;cases q;rfl
 |cons r _ ih=>intro q;cases q with |cons r' t'=>rw[r.inj r',ih t']
section
variable {ys:List V}
theorem SqL.of (h:H a=some (.lst xs)):SqL K H a xs:=.inl (.inl h)
theorem SqT.of (h:H a=some (.tup xs)):SqT K H a xs:=.inl (.inl h)
theorem Inv.list (I:Inv X aa σ H s)(h:SqL X.K H a xs):∃its:List Value,Yf xs its/\PlainL s.heap a its.toArray/\xs.length<=sizeLine:=by
 rcases h with h | ⟨o,its,n,hk,hc,hd,hs,hz,r⟩
 ·obtain⟨z,its,n,r,e⟩:=h.ok I.hok
  exact⟨its,r,⟨_,n,e,rfl,rfl,rfl⟩,z⟩
 ·refine⟨its.toList,r,⟨o,n,I.kIn a o hk,hc,hd,by simpa using hs⟩,?_⟩
  have e:=r.length
  simp only[Array.length_toList] at e
  omega
theorem Inv.tuple (I:Inv X aa σ H s)(h:SqT X.K H a xs):∃its:List Value,Yf xs its/\IsTup s.heap a its.toArray/\xs.length<=sizeLine:=by
 rcases h with h | ⟨o,its,n,hk,hc,hs,hz,r⟩
 ·obtain⟨z,its,r,p⟩:=h.ok I.hok
  exact⟨its,r,p.t,z⟩
 ·refine⟨its.toList,r,⟨o,I.kIn a o hk,hc,n,by simpa using hs⟩,?_⟩
  have e:=r.length
  simp only[Array.length_toList] at e
  omega
theorem Inv.list_inj (I:Inv X aa σ H s)(h:SqL X.K H a xs)(h':SqL X.K H a ys):xs=ys:=by
 obtain⟨its,r,⟨o,n,e,_,_,d⟩,_⟩:=I.list h
 obtain⟨its',r',⟨o',n',e',_,_,d'⟩,_⟩:=I.list h'
 rw[e] at e';cases e'
 rw[d] at d'
 injection d' with d1 _
 have:its=its':=by simpa using congrArg Array.toList d1
 subst this
 exact r.inj r'
theorem Inv.tuple_inj (I:Inv X aa σ H s)(h:SqT X.K H a xs)(h':SqT X.K H a ys):xs=ys:=by
 obtain⟨its,r,⟨o,e,_,n,d⟩,_⟩:=I.tuple h
 obtain⟨its',r',⟨o',e',_,n',d'⟩,_⟩:=I.tuple h'
 rw[e] at e';cases e'
 rw[d] at d'
 injection d' with d1 _
 have:its=its':=by simpa using congrArg Array.toList d1
 subst this
 exact r.inj r'
end
abbrev Cx.wish (X:Cx)(E:Value->Shared->Prop):Cx:={X with xe:=E}
abbrev Cx.nox (X:Cx):Cx:=X.wish λ_ _=>False
theorem Cx.Ok.wish (ok:X.Ok)(E:Value->Shared->Prop):(X.wish E).Ok:=
 ⟨ok.mod,ok.kind,ok.glob,ok.blt,ok.above,ok.inj,ok.has,ok.cab,ok.hd,ok.frames,ok.stk,ok.exf,ok.bs,ok.bsz,ok.noex,ok.exfs,ok.funs,ok.frf⟩
theorem Cx.Ok.unwish (ok:(X.wish E).Ok):X.Ok:=
 ⟨ok.mod,ok.kind,ok.glob,ok.blt,ok.above,ok.inj,ok.has,ok.cab,ok.hd,ok.frames,ok.stk,ok.exf,ok.bs,ok.bsz,ok.noex,ok.exfs,ok.funs,ok.frf⟩
section
theorem Inv.wish (I:Inv X aa σ H s)(E:Value->Shared->Prop):Inv (X.wish E) aa σ H s:=⟨I.ok.wish E,I.os,I.bare,I.base,I.loc,I.cell,I.free,I.freeC,I.pin,I.hok,I.len⟩
theorem Inv.unwish (I:Inv (X.wish E) aa σ H s):Inv X aa σ H s:=⟨I.ok.unwish,I.os,I.bare,I.base,I.loc,I.cell,I.free,I.freeC,I.pin,I.hok,I.len⟩
theorem SP.unwish (h:SP (X.wish E) aa D f s'):SP X aa D f s':=by
 cases f with
 |next=>obtain⟨σ',H',I,q⟩:=h;exact⟨σ',H',I.unwish,q⟩
 |brk=>obtain⟨σ',H',I,q⟩:=h;exact⟨σ',H',I.unwish,q⟩
 |cont=>obtain⟨σ',H',I,q⟩:=h;exact⟨σ',H',I.unwish,q⟩
 |ret u=>obtain⟨v,σ',H',I,r,q⟩:=h;exact⟨v,σ',H',I.unwish,r,q⟩
theorem PSs.nox {st:List Stmt}{t:TS}(h:PSs X.nox st t):PSs X st t:=λaa s σ H D I hw=>
 wpAny_mono (h aa s σ H D (I.wish _) hw) (λ_ _ q=>q.unwish) λ_ _ z=>False.elim z
end
section
variable {st:Stmt}{Q3:List Stmt}{t u:TS}
def F3:TS:=λD σ H=>D.nx σ H
def ZY (t u:TS):TS:=λD σ H=>t {D with nx:=u D} σ H
theorem Xe:PSs X [] F3:=λ_ _ σ H _ I h=>wpAny_execs_nil ⟨σ,H,I,h⟩
theorem Xb (h1:PS X st t)(h2:PSs X Q3 u):PSs X (st::Q3) (ZY t u):=by
 intro aa s σ H D I h
 refine wpAny_execs_cons (thn (h1 aa s σ H {D with nx:=u D} I h) λf s1 q=>?_)
 cases f with
 |next=>
  obtain⟨σ',H',I',q⟩:=q
  exact h2 aa s1 σ' H' D I' q
 |ret v=>exact q
 |brk=>exact q
 |cont=>exact q
theorem Inv.quiet (I:Inv X aa σ H s):interactive X.env=false:=by simp[interactive,I.ok.kind]
def G5 (te:TE):TS:=λD σ H=>te σ H λ_ H1=>D.nx σ H1
theorem Yh (he:PE X e te)(hs:swapsWith e none pos.line X.env=pure false:=by rfl):PS X (.Expr e pos) (G5 te):=by
 intro aa s σ H D I h
 exact wpAny_Expr_any (thn (he aa s σ H _ I h) λv s1 r9=>by obtain⟨x,H1,I1,r1,q1⟩:=r9;exact⟨σ,H1,I1,q1⟩) I.quiet hs
def Wj (te:TE):TS:=λD σ H=>te σ H D.rt
theorem Xp (he:PE X e te):PS X (.Return (some e) pos) (Wj te):=by
 intro aa s σ H D I h
 exact wpAny_Return_some (thn (he aa s σ H _ I h) λv s1 r9=>by obtain⟨x,H1,I1,r1,q1⟩:=r9;exact⟨x,σ,H1,I1,r1,q1⟩)
def PM (c:TT)(t u:TS):TS:=λD σ H=>c σ H λb H1=>if b=true then t D σ H1 else u D σ H1
theorem XG {a b:List Stmt}{tc:TT}(hc:PT X c tc)(ha:PSs X a t)(hb:PSs X b u):PS X (.If c a b pos) (PM tc t u):=by
 intro aa s σ H D I h
 refine wpAny_If (thn (hc aa s σ H _ I h) λd s1 r9=>?_)
 obtain⟨H1,I1,q1⟩:=r9
 cases d with
 |true=>exact ha aa s1 σ H1 D I1 q1
 |false=>exact hb aa s1 σ H1 D I1 q1
def TW:TS:=λ_ _ _=>False
theorem Ho:PS X st TW:=λ_ _ _ _ _ _ h=>h.elim
end
abbrev TG:=V->St->Hp->(St->Hp->Prop)->Prop
abbrev TGs:=List V->St->Hp->(St->Hp->Prop)->Prop
def PG (X:Cx)(cu:Expr)(t:TG):Prop:=
 ∀(aa:List (Addr×Obj)) (s:Shared) (σ:St) (H:Hp) (v:V) (u:Value) (Q:St->Hp->Prop),Inv X aa σ H s->Ya v u->t v σ H Q->
  wpAny (model X.prog X.w) X.A (assign cu X.env u) (λ_ s'=>∃ σ' H',Inv X aa σ' H' s'/\Q σ' H') X.xe s
def PGs (X:Cx)(ts:List Expr)(t:TGs):Prop:=
 ∀(aa:List (Addr×Obj)) (s:Shared) (σ:St) (H:Hp) (vs:List V) (us:List Value) (Q:St->Hp->Prop),Inv X aa σ H s->Yf vs us->t vs σ H Q->
  wpAny (model X.prog X.w) X.A (assignInOrder ((assignEach ts X.env).map (·.2)) us) (λ_ s'=>∃ σ' H',Inv X aa σ' H' s'/\Q σ' H') X.xe s
abbrev An:=V->V->V->Hp->(Hp->Prop)->Prop
def Aj (X:Cx)(t:An):Prop:=
 ∀(aa:List (Addr×Obj)) (s:Shared) (σ:St) (H:Hp) (o i v:V) (ov iv u:Value) (Q:Hp->Prop),Inv X aa σ H s->Ya o ov->Ya i iv->Ya v u->t o i v H Q->
  wpAny (model X.prog X.w) X.A (setItem ov iv u) (λ_ s'=>∃ H',Inv X aa σ H' s'/\Q H') X.xe s
section
def YY (i:Nat):TG:=λv σ H Q=>Q (σ.set i (some v)) H
theorem Xw (hN:X.N.Nodup)(hi:X.N[i]?=some x)(hx:Loc X.env.scope x)(hf:X.fn x=true∨X.env.scope.names.lookup x=some .local:=by first |exact .inl rfl |exact .inr rfl |assumption):PG X (.Name x pos) (YY i):=by
 intro aa s σ H v u Q I r h
 exact wpAny_assign_Name (Qz I hN hi hx r (λs' I'=>⟨_,H,I',h⟩) hf)
def RW:TGs:=λvs σ H Q=>vs=[]/\Q σ H
def QP (t:TG)(u:TGs):TGs:=λvs σ H Q=>∃ v r,vs=v::r/\t v σ H λσ' H'=>u r σ' H' Q
theorem QC:PGs X [] RW:=by
 intro aa s σ H vs us Q I r h
 obtain⟨e,h⟩:=h
 subst e
 cases r
 exact assignInOrder_nil ⟨σ,H,I,h⟩
theorem Yk {u:TGs}(h1:PG X e t)(h2:PGs X es u)
  (hs:(assignEach (e::es) X.env).map (·.2)=assign e X.env::(assignEach es X.env).map (·.2):=by rfl):PGs X (e::es) (QP t u):=by
 intro aa s σ H vs us Q I r h
 obtain⟨v,vr,e1,h⟩:=h
 subst e1
 cases r with
 |cons r rr=>
  rw[hs]
  refine assignInOrder_cons (thn (h1 aa s σ H _ _ _ I r h) λ_ s1 r9=>?_)
  obtain⟨σ1,H1,I1,q1⟩:=r9
  exact h2 aa s1 σ1 H1 _ _ Q I1 rr q1
def O4 (K:W.Frag)(n:Nat)(t:TGs):TG:=λv σ H Q=>∃ a xs,v= .ref a/\SqT K H a xs/\xs.length=n/\t xs σ H Q
theorem VX (hc:X.calm=true)(h:PGs X es t)
  (hn:(assignEach es X.env).length=n:=by rfl)(gD:(assignEach es X.env).findIdx? (·.1)=none:=by rfl):PG X (.Tuple es k pos) (O4 X.K n t):=by
 intro aa s σ H v u Q I r hw
 obtain⟨a,xs,e1,hq,hl,hw⟩:=hw
 subst e1
 cases r
 obtain⟨its,rv,ht,hz⟩:=I.tuple hq
 refine assign_Tuple_tuple (I.ok.hd hc) ht (by simp[hn, ←hl,rv.length]) gD λh' hx=>?_
 have I1:Inv X aa σ H {s with heap:=h'}:=I.kept (t':=s.toks) λb o e=>hx b o (Nat.ne_of_lt (Heap.lt_size e)) e
 exact h aa _ σ H xs _ Q I1 (by simpa using rv) hw
def Wf (to ti:TE)(t:An):TG:=λv σ H Q=>to σ H λo H1=>ti σ H1 λi H2=>t o i v H2 λH3=>Q σ H3
theorem Qr (ho:PE X o to)(hi:PE X i ti)(hs:Aj X t)
  (ha:∀v,assign (.Subscript o i pos) X.env v=(do
   let ov ←holding [v] (eval o X.env)
   let iv ←holding [v,ov] (eval i X.env)
   standAt pos
   holding [v,ov,iv] (setItem ov iv v)
   release [v,ov,iv] []):=by intro _;rfl):PG X (.Subscript o i pos) (Wf to ti t):=by
 intro aa s σ H v u Q I r h
 rw[ha]
 refine wpAny_bind (wpAny_holding (thn (ho aa s σ H _ I h) λov s1 r9=>?_))
 obtain⟨x,H1,I1,r1,q1⟩:=r9
 refine wpAny_bind (wpAny_holding (thn (hi aa s1 σ H1 _ I1 q1) λiv s2 r9=>?_))
 obtain⟨y,H2,I2,r2,q2⟩:=r9
 refine wpAny_bind (wpAny_standAt (wpAny_bind (wpAny_holding (thn (hs aa s2 σ H2 x y v ov iv u _ I2 r1 r2 r q2) λ_ s3 r9=>?_))))
 obtain⟨H3,I3,q3⟩:=r9
 exact wpAny_release ⟨σ,H3,I3,q3⟩
def Ha (te:TE)(g:TG):TS:=λD σ H=>te σ H λx H1=>g x σ H1 D.nx
theorem Zf (he:PE X e te)(hg:PG X tg g)(hs:swapsWithSole [tg] e pos.line X.env=pure false:=by rfl)(hw:swappedStores [tg] e X.env=pure none:=by rfl)
  (h1:(assignEach [tg] X.env).map (·.2)=[assign tg X.env]:=by rfl):PS X (.Assign [tg] e pos) (Ha te g):=by
 intro aa s σ H D I h
 refine wpAny_Assign_stores (thn (he aa s σ H _ I h) λv s1 r9=>?_) hs hw
 obtain⟨x,H1,I1,r1,q1⟩:=r9
 rw[h1]
 exact thn (hg aa s1 σ H1 x v _ I1 r1 q1) λ_ s2 q=>q
theorem Xm (hN:X.N.Nodup)(hi:X.N[i]?=some x)(hx:Loc X.env.scope x)(he:PE X e te)(hs:swapsWith e (some (.Name x dX)) pos.line X.env=pure false:=by rfl)(hf:X.fn x=true∨X.env.scope.names.lookup x=some .local:=by first |exact .inl rfl |exact .inr rfl |assumption):
  PS X (.Assign [.Name x dX] e pos) (Ha te (YY i)):=by
 intro aa s σ H D I h
 refine wpAny_Assign_Name (thn (he aa s σ H _ I h) λv s1 r9=>?_) hs
 obtain⟨y,H1,I1,r1,q1⟩:=r9
 exact Qz I1 hN hi hx r1 (λs2 I2=>⟨_,H1,I2,q1⟩) hf
def W9 (i j:Nat)(ta:TA):TS:=λD σ H=>ta σ H λvs H1=>∃ v w,vs=[v,w]/\D.nx ((σ.set i (some v)).set j (some w)) H1
theorem OM {y:Str}{a b:Expr}{ta:TA}{kt k2 pt2}(hc:X.calm=true)(hN:X.N.Nodup)(hi:X.N[i]?=some x)(hj:X.N[j]?=some y)(b8:i≠j)
  (hx:X.env.scope.names.lookup x=some .local)(hy:X.env.scope.names.lookup y=some .local)(ha:PA X [a,b] ta)
  (hw:swappedStores [.Tuple [.Name x px, .Name y py] kt pt] (.Tuple [a,b] k2 pt2) X.env=pure (some [x,y]))
  (hs:swapsWithSole [.Tuple [.Name x px, .Name y py] kt pt] (.Tuple [a,b] k2 pt2) pos.line X.env=pure false:=by rfl):
  PS X (.Assign [.Tuple [.Name x px, .Name y py] kt pt] (.Tuple [a,b] k2 pt2) pos) (W9 i j ta):=by
 intro aa s σ H D I h
 rw[exec_Assign_arm]
 refine wpAny_bind (wpAny_standAt ?_)
 rw[hs]
 refine wpAny_bind (wpAny_pure ?_)
 rw[if_neg (by decide)]
 refine wpAny_bind (Tuple_ (thn (ha _ aa s σ H _ I h) λus s1 r9=>?_))
 obtain⟨vs,H1,I1,r1,q1⟩:=r9
 obtain⟨v,w,e1,q1⟩:=q1
 subst e1
 obtain⟨u1,u2,rfl,rv,cv⟩:∃u1 u2,us=[u1,u2]/\Ya v u1/\Ya w u2:=by
  cases r1 with
  |cons p q=>
   cases q with
   |cons p' q'=>
    cases q'
    exact⟨_,_,rfl,p,p'⟩
 refine wpAny_newObj_type ?_ (by show 2<=sizeLine;decide)
 have I2:Inv X aa σ H1 {s1 with heap:=s1.heap.push {cls:=.type "tuple",data:=.seq [u1,u2].toArray}}:=I1.kept (t':=s1.toks) λb o e=>Heap.get?_push_of_some _ e
 rw[hw]
 refine wpAny_bind (wpAny_pure ?_)
 show wpAny (model X.prog X.w) X.A (do rule "assign.swapped-stores";let items ←unpackItems (.ref s1.heap.objs.size) 2 none;assignInOrder [λv=>bindName X.env y v,λv=>bindName X.env x v] items.reverse;pure Flow.next) _ _ _
 refine wpAny_bind (wpAny_rule (wpAny_bind (unpackItems_tuple (items:=#[u1,u2]) (I.ok.hd hc) (IsTup.new s1.heap _) λh' fk=>?_)))
 have I3:=I2.kept (h':=h') (t':=s1.toks) λb o e=>fk b o (Nat.ne_of_lt (Heap.lt_size e)) e
 show wpAny _ _ (assignInOrder [λv=>bindName X.env y v,λv=>bindName X.env x v] [u2,u1] >>= λ_=>pure Flow.next) _ _ _
 refine wpAny_bind (assignInOrder_cons (wpAny_bindName (Qz I3 hN hj (.inl hy) cv (λs2 I4=>?_) (.inr hy))))
 refine assignInOrder_cons (wpAny_bindName (Qz I4 hN hi (.inl hx) rv (λs3 I5=>assignInOrder_nil (wpAny_pure ?_)) (.inr hx)))
 rw[List.set_comm _ _ (Ne.symm b8)] at I5
 exact⟨_,H1,I5,q1⟩
end
section
def IV (c:TT)(tb:TS):TS:=λD σ H=>∃ W:Nat->St->Hp->Prop,(∃m,W m σ H)/\∀m σ H,W m σ H->
 c σ H λb H1=>if b=true then ∃N:St->Hp->Prop,(∀σ' H',N σ' H'->∃m',m'<m/\W m' σ' H')/\tb {D with nx:=N,ct:=N,bk:=D.nx} σ H1 else D.nx σ H1
theorem E3 {tc:TT}{tb:TS}(hp:PassesOwn (model X.prog X.w) X.A X.env X.xe)(hc:PT X c tc)(hb:PSs X body tb):PS X (.While c body [] pos) (IV tc tb):=by
 intro aa s σ H D I h
 obtain⟨W,⟨m0,w0⟩,turn⟩:=h
 refine wpAny_While (codeAny_whileLoop (λn s'=>∃ σ' H',Inv X aa σ' H' s'/\W n σ' H') ?_ m0 ⟨σ,H,I,w0⟩)
 rintro n s1 ⟨σ1,H1,I1,w1⟩
 refine wpAny_passesOwn hp (thn (hc aa s1 σ1 H1 _ I1 (turn n σ1 H1 w1)) λb s2 r9=>?_)
 obtain⟨H2,I2,q2⟩:=r9
 cases b with
 |true=>
  obtain⟨N,hN,q2⟩:=q2
  rw[if_pos rfl]
  refine wpAny_passesOwn hp (thn (hb aa s2 σ1 H2 _ I2 q2) λf s3 q3=>?_)
  cases f with
  |next=>
   obtain⟨σ3,H3,I3,n3⟩:=q3
   obtain⟨m',hm,w3⟩:=hN σ3 H3 n3
   exact⟨m',hm,σ3,H3,I3,w3⟩
  |cont=>
   obtain⟨σ3,H3,I3,n3⟩:=q3
   obtain⟨m',hm,w3⟩:=hN σ3 H3 n3
   exact⟨m',hm,σ3,H3,I3,w3⟩
  |brk=>exact q3
  |ret v=>exact q3
 |false=>
  rw[if_neg Bool.false_ne_true]
  exact wpAny_execs_nil ⟨σ1,H2,I2,q2⟩
end
structure It where
 go:Nat->Hp->Prop
 yld:Nat->Hp->V->Hp->Prop
 stop:Nat->Hp->Prop
def Br (X:Cx)(aa:List (Addr×Obj))(H:Hp)(b:Addr):Prop:=
 H b=none/\b≠X.env.locals/\b∉X.fs/\(b∈X.ex∨X.s₀.heap.objs.size<=b)/\(∀x c,X.env.cells.lookup x=some c->c≠b)/\∀p∈X.pn++aa,p.1≠b
theorem Inv.fpOk (I:Inv X aa σ H s)(hb:s.heap.objs.size<=b)(hn:H' b=none):Br X aa H' b:=by
 refine⟨hn,Nat.ne_of_gt (Nat.lt_of_lt_of_le I.lt hb),I.nofs hb, .inr (Nat.le_trans I.sz hb),λx c e z=>?_,λp hp z=>?_⟩
 ·obtain⟨v,q⟩:=I.cell x c e
  exact absurd (Nat.lt_of_lt_of_le q.lt (by rw[z];exact hb)) (Nat.lt_irrefl _)
 ·exact absurd (Nat.lt_of_lt_of_le (Heap.lt_size (I.pin p hp).1) (by rw[z];exact hb)) (Nat.lt_irrefl _)
structure Turn (P:Program)(w:World)(K:W.Frag)(tg:Expr)(J:It)(fp:List Addr)(it:Addr)(tn:Nat->Heap->Prop):Prop where
 mem:it∈fp
 obj:∀i h,tn i h->∀b∈fp,∃o,h.get? b=some o/\∀v,o.data≠ .cell v
 keep:∀i h h',tn i h->(∀b∈fp,∀o,h.get? b=some o->h'.get? b=some o)->tn i h'
 item:∀(X:Cx),X.prog=P->X.w=w->X.K=K->X.calm=true->∀(i:Nat) (aa:List (Addr×Obj)) (s:Shared) (σ:St) (H:Hp) (E:Value->Shared->Prop),Inv X aa σ H s->(∀b∈fp,Br X aa H b)->tn i s.heap->J.go i H->
  wpAny (model P w) X.A (pyNext (.ref it)) (λr s1=>∃ u,r=some u/\
   wpAny (model P w) X.A (letOwnedTupleGo tg (.ref it) u) (λ_ s2=>∃ x H',Inv X aa σ H' s2/\Ya x u/\J.yld i H x H'/\tn (i+1) s2.heap/\∀b∈fp,H' b=none) E s1) E s
 done:∀(X:Cx),X.prog=P->X.w=w->X.K=K->X.calm=true->∀(i:Nat) (aa:List (Addr×Obj)) (s:Shared) (σ:St) (H:Hp) (E:Value->Shared->Prop),Inv X aa σ H s->(∀b∈fp,Br X aa H b)->tn i s.heap->J.stop i H->
  wpAny (model P w) X.A (pyNext (.ref it)) (λr s1=>r=none/\Inv X aa σ H s1) E s
 self:∀(A:Around) (i:Nat) (s:Shared) (Q:Value->Shared->Prop) (E:Value->Shared->Prop),tn i s.heap->Q (.ref it) s->wpAny (model P w) A (pyIter (.ref it)) Q E s
abbrev TI:=St->Hp->(It->Hp->Prop)->Prop
def PIE (X:Cx)(aa:List (Addr×Obj))(σ:St)(tg:Expr)(R:It->Hp->Prop)(fF:Value)(s2:Shared):Prop:=
 ∃(it:Addr) (fp:List Addr) (tn:Nat->Heap->Prop) (J:It) (H':Hp),fF= .ref it/\Inv X aa σ H' s2/\Turn X.prog X.w X.K tg J fp it tn/\tn 0 s2.heap/\(∀b∈fp,Br X aa H' b)/\R J H'
def PI (X:Cx)(tg iter:Expr)(wi:TI):Prop:=
 ∀(aa:List (Addr×Obj)) (s:Shared) (σ:St) (H:Hp) (R:It->Hp->Prop),Inv X aa σ H s->wi σ H R->
  wpAny (model X.prog X.w) X.A (eval iter X.env) (λv s1=>wpAny (model X.prog X.w) X.A (pyIter v) (PIE X aa σ tg R) X.xe s1) X.xe s
theorem Pb {n:String}{Q:Unit->Shared->Prop}(ho:s.heap.get? it=some o)(hc:o.cls= .type n)(hd:o.data= .fields vs)
    (hn: ["enumerate","zip","dict_itemiterator","dict_reverseitemiterator","odict_iterator","itertools.zip_longest","itertools.pairwise"].contains n=false)(hQ:Q () s):wpAny M A (letOwnedTupleGo tg (.ref it) u) Q E s:=by
  unfold letOwnedTupleGo
  cases tg<;> first
    |exact wpAny_pure hQ
    | (cases u<;> first
        |exact wpAny_pure hQ
        | (refine wpAny_bind (wpAny_load ho ?_)
           rw[hc,hd]
           show wpAny M A (if(["enumerate","zip","dict_itemiterator","dict_reverseitemiterator","odict_iterator","itertools.zip_longest","itertools.pairwise"].contains n&&vs[0]?==some (rawInt _))=true then _ else _) Q E s
           rw[if_neg (by intro h;rw[hn,Bool.false_and] at h;cases h)]
           exact wpAny_pure hQ))
def Itl (K:W.Frag)(a:Addr):It:=
 ⟨λi H=>∃ xs x,SqL K H a xs/\xs[i]?=some x,λi H x H'=>H'=H/\∀xs,SqL K H a xs->xs[i]?=some x,λi H=>∃ xs,SqL K H a xs/\xs.length<=i⟩
def Itt (K:W.Frag)(a:Addr):It:=
 ⟨λi H=>∃ xs x,SqT K H a xs/\xs[i]?=some x,λi H x H'=>H'=H/\∀xs,SqT K H a xs->xs[i]?=some x,λi H=>∃ xs,SqT K H a xs/\xs.length<=i⟩
def Itr (lo:Int)(n:Nat):It:=⟨λi _=>i<n,λi H x H'=>H'=H/\x= .int (lo+i),λi _=>n<=i⟩
theorem MD (a it:Addr):Turn P w K tg (Itl K a) [it] it (λi h=>h.IsListIter it a i) where
 mem:=by simp
 obj:=λi h st b hb=>by
  have e:b=it:=by simpa using hb
  subst e
  obtain⟨o,e,c,d⟩:=st
  exact⟨o,e,λv z=>by rw[d] at z;cases z⟩
 keep:=λi h h' st k=>st.at λo e=>k it (by simp) o e
 item:=by
  intro X hP hw hK hc i aa s σ H E I hf st hg
  subst hP hw hK
  obtain⟨xs,x,hq,hx⟩:=hg
  obtain⟨its,rv,p,hz⟩:=I.list hq
  obtain⟨u,hu,ru⟩:=rv.get hx
  obtain⟨f0,f1,f2,f3,f4,f5⟩:=hf it (by simp)
  refine wpAny_pyNext_list_item st p.isList (x:=u) (by simpa using hu) λh' fm sb=>?_
  have I1:Inv X aa σ H {s with heap:=h'}:=I.turned (t':=s.toks) (λb o hb e=>(sb.2 b hb).trans e) f0 f1 f3 f4 f5
  obtain⟨o,e,c,d⟩:=id fm
  exact⟨u,rfl,Pb (s:={s with heap:=h'}) e c d (by decide) ⟨x,H,I1,ru,⟨rfl,λys hy=>by rw[I.list_inj hy hq];exact hx⟩,fm,λb hb=>(hf b hb).1⟩⟩
 done:=by
  intro X hP hw hK hc i aa s σ H E I hf st hg
  subst hP hw hK
  obtain⟨xs,hq,hx⟩:=hg
  obtain⟨its,rv,p,hz⟩:=I.list hq
  obtain⟨f0,f1,f2,f3,f4,f5⟩:=hf it (by simp)
  have hl:=rv.length
  exact wpAny_pyNext_list_end (I.ok.hd hc) st p.isList (by simp;omega) λh' eb=>⟨rfl,I.turned (t':=s.toks) (λb o hb e=>eb b o hb e) f0 f1 f3 f4 f5⟩
 self:=λ_ _ _ _ _ st h=>wpAny_pyIter_listiter st h
theorem HZ (a it:Addr):Turn P w K tg (Itt K a) [it] it (λi h=>h.IsTupleIter it a i) where
 mem:=by simp
 obj:=λi h st b hb=>by
  have e:b=it:=by simpa using hb
  subst e
  obtain⟨o,e,c,d⟩:=st
  exact⟨o,e,λv z=>by rw[d] at z;cases z⟩
 keep:=λi h h' st k=>st.at λo e=>k it (by simp) o e
 item:=by
  intro X hP hw hK hc i aa s σ H E I hf st hg
  subst hP hw hK
  obtain⟨xs,x,hq,hx⟩:=hg
  obtain⟨its,rv,p,hz⟩:=I.tuple hq
  obtain⟨u,hu,ru⟩:=rv.get hx
  obtain⟨f0,f1,f2,f3,f4,f5⟩:=hf it (by simp)
  refine wpAny_pyNext_tuple_item st (show s.heap.IsTuple a its.toArray from p) (x:=u) (by simpa using hu) λh' fm sb=>?_
  have I1:Inv X aa σ H {s with heap:=h'}:=I.turned (t':=s.toks) (λb o hb e=>(sb.2 b hb).trans e) f0 f1 f3 f4 f5
  obtain⟨o,e,c,d⟩:=id fm
  exact⟨u,rfl,Pb (s:={s with heap:=h'}) e c d (by decide) ⟨x,H,I1,ru,⟨rfl,λys hy=>by rw[I.tuple_inj hy hq];exact hx⟩,fm,λb hb=>(hf b hb).1⟩⟩
 done:=by
  intro X hP hw hK hc i aa s σ H E I hf st hg
  subst hP hw hK
  obtain⟨xs,hq,hx⟩:=hg
  obtain⟨its,rv,p,hz⟩:=I.tuple hq
  obtain⟨f0,f1,f2,f3,f4,f5⟩:=hf it (by simp)
  have hl:=rv.length
  exact wpAny_pyNext_tuple_end (I.ok.hd hc) st (show s.heap.IsTuple a its.toArray from p) (by simp;omega) λh' eb=>⟨rfl,I.turned (t':=s.toks) (λb o hb e=>eb b o hb e) f0 f1 f3 f4 f5⟩
 self:=λ_ _ _ _ _ st h=>wpAny_pyIter_tupleiter st h
theorem Hx (it:Addr)(lo:Int)(n:Nat):Turn P w K tg (Itr lo n) [it] it (λi h=>IsRangeIter h it (lo+(i:Nat)*1) ((n:Int)-(i:Nat)) 1) where
 mem:=by simp
 obj:=λi h st b hb=>by
  have e:b=it:=by simpa using hb
  subst e
  exact⟨_,st,λv z=>by
   have z':Data.fields _=Data.cell v:=z
   cases z'⟩
 keep:=λi h h' st k=>k it (by simp) _ st
 item:=by
  intro X hP hw hK hc i aa s σ H E I hf st hg
  subst hP hw hK
  obtain⟨f0,f1,f2,f3,f4,f5⟩:=hf it (by simp)
  have W:=Walks.range (prog:=X.prog) (w:=X.w) (I.ok.hd hc) it lo 1 n
  refine W.item i s _ _ hg st λv h' tk hv fm kk=>?_
  obtain⟨t,rfl⟩:=hv
  have I1:Inv X aa σ H {s with heap:=h',toks:=tk}:=I.turned (λb o hb e=>kk b o (by simpa using hb) e) f0 f1 f3 f4 f5
  refine⟨_,rfl,Pb (s:={s with heap:=h',toks:=tk}) (n:="range_iterator") fm rfl rfl (by decide) ⟨.int (lo+i),H,I1,⟨t,?_⟩,⟨rfl,rfl⟩,fm,λb hb=>(hf b hb).1⟩⟩
  rw[Int.mul_one]
 done:=by
  intro X hP hw hK hc i aa s σ H E I hf st hg
  subst hP hw hK
  obtain⟨f0,f1,f2,f3,f4,f5⟩:=hf it (by simp)
  exact wpAny_pyNext_range_end (I.ok.hd hc) st (by have:n<=i:=hg;omega) λh' eb=>⟨rfl,I.turned (t':=s.toks) (λb o hb e=>eb b o hb e) f0 f1 f3 f4 f5⟩
 self:=λ_ _ _ _ _ st h=>wpAny_pyIter_rangeiter st h
section
def HE (K:W.Frag)(tl:TE):TI:=λσ H R=>tl σ H λx H1=>∃ a,x= .ref a/\(∃xs,SqL K H1 a xs)/\R (Itl K a) H1
def Wo (K:W.Frag)(tl:TE):TI:=λσ H R=>tl σ H λx H1=>∃ a,x= .ref a/\(∃xs,SqT K H1 a xs)/\R (Itt K a) H1
theorem Sk (hl:PE X l tl):PI X tg l (HE X.K tl):=by
 intro aa s σ H R I h
 refine thn (hl aa s σ H _ I h) λv s1 r9=>?_
 obtain⟨x,H1,I1,r1,q1⟩:=r9
 obtain⟨a,e,⟨xs,hq⟩,q⟩:=q1
 subst e
 cases r1
 obtain⟨its,rv,p,hz⟩:=I1.list hq
 refine wpAny_pyIter_list p.isList ?_
 refine⟨s1.heap.objs.size,[s1.heap.objs.size],_,_,H1,rfl,I1.kept (t':=s1.toks) λb o e=>Heap.get?_push_of_some _ e,MD a _,⟨_,Heap.get?_push_size _ rfl,rfl,rfl⟩,λb hb=>?_,q⟩
 have e:b=s1.heap.objs.size:=by simpa using hb
 subst e
 exact I1.fpOk (Nat.le_refl _) (I1.hok.fresh (Nat.le_refl _))
theorem Tn (hl:PE X l tl):PI X tg l (Wo X.K tl):=by
 intro aa s σ H R I h
 refine thn (hl aa s σ H _ I h) λv s1 r9=>?_
 obtain⟨x,H1,I1,r1,q1⟩:=r9
 obtain⟨a,e,⟨xs,hq⟩,q⟩:=q1
 subst e
 cases r1
 obtain⟨its,rv,p,hz⟩:=I1.tuple hq
 refine wpAny_pyIter_tuple (show s1.heap.IsTuple a its.toArray from p) ?_
 refine⟨s1.heap.objs.size,[s1.heap.objs.size],_,_,H1,rfl,I1.kept (t':=s1.toks) λb o e=>Heap.get?_push_of_some _ e,HZ a _,⟨_,Heap.get?_push_size _ rfl,rfl,rfl⟩,λb hb=>?_,q⟩
 have e:b=s1.heap.objs.size:=by simpa using hb
 subst e
 exact I1.fpOk (Nat.le_refl _) (I1.hok.fresh (Nat.le_refl _))
theorem Nv {R:It->Hp->Prop}{lo hi:Int}{t u v:Tok}{tk:Nat}(I:Inv X aa σ H s)(h1: -(2^62)<=lo)(h2:lo<2^62)(h3: -(2^62)<=hi)(h4:hi<2^62)
  (q:R (Itr lo (hi-lo).toNat) H):wpAny (model X.prog X.w) X.A (pyIter (.ref s.heap.objs.size)) (PIE X aa σ tg R) E {s with heap:=s.heap.push {cls:=.type "range",data:=.fields #[.int lo t, .int hi u, .int 1 v]},toks:=tk}:=by
 refine wpAny_pyIter_range (IsRange.new ..) (small_one h1 h2 h3 h4) ?_
 have I1:Inv X aa σ H {s with heap:=s.heap.push {cls:=.type "range",data:=.fields #[.int lo t, .int hi u, .int 1 v]},toks:=tk}:=I.kept λb o e=>Heap.get?_push_of_some _ e
 refine⟨(s.heap.push {cls:=.type "range",data:=.fields #[.int lo t, .int hi u, .int 1 v]}).objs.size,[(s.heap.push {cls:=.type "range",data:=.fields #[.int lo t, .int hi u, .int 1 v]}).objs.size],_,_,H,rfl,
  I1.kept (t':=tk) λb o e=>Heap.get?_push_of_some _ e,Hx _ lo (hi-lo).toNat,?_,λb hb=>?_,q⟩
 ·have e1:lo+((0:Nat):Int)*1=lo:=by simp
  have e2:(((hi-lo).toNat:Nat):Int)-((0:Nat):Int)=Builtin.Range.rangeSize lo hi 1:=by rw[rangeSize_one];split<;> omega
  show IsRangeIter _ _ (lo+((0:Nat):Int)*1) ((((hi-lo).toNat:Nat):Int)-((0:Nat):Int)) 1
  rw[e1,e2]
  exact Heap.get?_push_size _ rfl
 ·have e:b=(s.heap.push {cls:= .type "range",data:= .fields #[.int lo t, .int hi u, .int 1 v]}).objs.size:=by simpa using hb
  subst e
  exact I1.fpOk (Nat.le_refl _) (I1.hok.fresh (Nat.le_refl _))
def Sb (ta:TA):TI:=λσ H R=>ta σ H λvs H1=>∃ j:Int,vs=[.int j]/\ -(2^62)<=j/\j<2^62/\R (Itr 0 j.toNat) H1
theorem Yr {a:Expr}{ta:TA}{p:Pos}(hg:Gl X "range")(hm:X.mg "range" =none)(ha:PA X [a] ta)(hs:starEach [a] X.env=[(false,eval a X.env)]:=by rfl):PI X tg (.Call (.Name "range" p) [a] [] pos) (Sb ta):=by
 intro aa s σ H R I h
 refine Call_ (UY I hg hm boot_range (callWith_type1 (thn (ha pos aa s σ H _ I h) λus s1 r9=>?_) hs rfl))
 obtain⟨vs,H1,I1,r1,q1⟩:=r9
 obtain⟨j,e,q1,q2,q⟩:=q1
 subst e
 cases r1 with
 |cons r rr=>
  cases rr
  obtain⟨t,rfl⟩:=r
  exact call_range_1 (Nv I1 (by omega) (by omega) q1 q2 (by simpa using q))
def PB (wi:TI)(g:TG)(tb:TS):TS:=λD σ H=>wi σ H λJ H1=>∃ W:Nat->Nat->St->Hp->Prop,(∃m,W 0 m σ H1)/\∀i m σ H,W i m σ H->
 (J.stop i H/\D.nx σ H)∨(J.go i H/\∃N:St->Hp->Prop,(∀σ' H',N σ' H'->∃m',m'<m/\W (i+1) m' σ' H')/\∀x H',J.yld i H x H'->g x σ H' λσ2 H2=>tb {D with nx:=N,ct:=N,bk:=D.nx} σ2 H2)
def Bc (fp:List Addr)(h:Heap):List (Addr×Obj):=fp.filterMap λb=>(h.get? b).map λo=>(b,o)
theorem UF (hb:b∈fp)(e:h.get? b=some o):(b,o)∈Bc fp h:=List.mem_filterMap.mpr ⟨b,hb,by rw[e];rfl⟩
theorem MK {p:Addr×Obj}(hp:p∈Bc fp h):p.1∈fp/\h.get? p.1=some p.2:=by
 obtain⟨b,hb,e⟩:=List.mem_filterMap.mp hp
 cases q:h.get? b with
 |none=>rw[q] at e;cases e
 |some o=>
  rw[q] at e
  have e':(b,o)=p:=Option.some.inj e
  subst e'
  exact⟨hb,q⟩
theorem Inv.pinned (I:Inv X aa σ H s)(hf:∀b∈fp,Br X aa H b)(ho:∀b∈fp,∃o,s.heap.get? b=some o/\∀v,o.data≠ .cell v):Inv X (aa++Bc fp s.heap) σ H s:=
 I.pins_of λp hp=>(List.mem_append.mp hp).elim (λz=>I.pin p (List.mem_append_right _ z)) λz=>by
  obtain⟨hb,e⟩:=MK z
  obtain⟨f0,f1,f2,_⟩:=hf p.1 hb
  obtain⟨o,e',d⟩:=ho p.1 hb
  rw[e] at e';cases e'
  exact⟨e,f0,f1,f2,d⟩
theorem Inv.unpinned (I:Inv X (aa++pl) σ H s):Inv X aa σ H s:=I.pins_of λp hp=>I.pin p (List.mem_append_right _ (List.mem_append_left _ hp))
theorem YX {tb:TS}(hp:PassesOwn (model X.prog X.w) X.A X.env X.xe)(hc:X.calm=true)(hi:PI X tg iter wi)(hg:PG X tg g)(hb:PSs X body tb)
  (hs:∀x,foldedSetIterable iter X.env x=pure x:=by intro _;rfl):PS X (.For tg iter body [] pos) (PB wi g tb):=by
 intro aa s σ H D I h
 refine wpAny_For (thn (hi aa s σ H _ I h) λv s1 h1=>thn h1 λfF s2 h2=>?_) hs
 obtain⟨it,fp,tn,J,H2,e,I2,T,st2,f2,W,⟨m0,w0⟩,turn⟩:=h2
 subst e
 -- what stays true of df iterator's objects through df cQ
 have fG:∀{H':Hp},(∀b∈fp,H' b=none)->∀b∈fp,Br X aa H' b:=λhn b hb=>⟨hn b hb,(f2 b hb).2⟩
 refine codeAny_forLoop_any (λn s'=>∃ i σ' H',Inv X aa σ' H' s'/\tn i s'.heap/\(∀b∈fp,H' b=none)/\W i n σ' H') ?_ m0 ⟨0,σ,H2,I2,st2,λb hb=>(f2 b hb).1,w0⟩
 rintro n s3 ⟨i,σ3,H3,I3,st3,fr3,w3⟩
 rcases turn i n σ3 H3 w3 with⟨stop,qn⟩ | ⟨go,N,hN,step⟩
 ·refine wpAny_passesOwn hp (thn (T.done X rfl rfl rfl hc i aa s3 σ3 H3 X.xe I3 (fG fr3) st3 stop) λr s4 r9=>?_)
  obtain⟨hr,I4⟩:=r9
  subst hr
  exact wpAny_execs_nil ⟨σ3,H3,I4,qn⟩
 ·refine wpAny_passesOwn hp (thn (T.item X rfl rfl rfl hc i aa s3 σ3 H3 X.xe I3 (fG fr3) st3 go) λr s4 r9=>?_)
  obtain⟨u,hr,h4⟩:=r9
  subst hr
  refine wpAny_passesOwn hp (thn h4 λ_ s5 r9=>?_)
  obtain⟨x,H5,I5,r5,y5,st5,fr5⟩:=r9
  have I5':=I5.pinned (fG fr5) (T.obj _ _ st5)
  refine wpAny_passesOwn hp (thn (hg _ s5 σ3 H5 x u _ I5' r5 (step x H5 y5)) λ_ s6 r9=>?_)
  obtain⟨σ6,H6,I6,q6⟩:=r9
  refine wpAny_passesOwn hp (thn (hb _ s6 σ6 H6 _ I6 q6) λf s7 q7=>?_)
  have again:∀{σ7:St}{H7:Hp},Inv X (aa++Bc fp s5.heap) σ7 H7 s7->N σ7 H7->∃m,m<n/\∃i σ' H',Inv X aa σ' H' s7/\tn i s7.heap/\(∀b∈fp,H' b=none)/\W i m σ' H':=fun {σ7 H7} I7 n7=>by
   obtain⟨m',hm,w7⟩:=hN σ7 H7 n7
   refine⟨m',hm,i+1,σ7,H7,I7.unpinned,T.keep _ _ _ st5 λb hb o e=>(I7.pin (b,o) (List.mem_append_right _ (List.mem_append_right _ (UF hb e)))).1,λb hb=>?_,w7⟩
   obtain⟨o,e,d⟩:=T.obj _ _ st5 b hb
   exact(I7.pin (b,o) (List.mem_append_right _ (List.mem_append_right _ (UF hb e)))).2.1
  cases f with
  |next=>obtain⟨σ7,H7,I7,n7⟩:=q7;exact again I7 n7
  |cont=>obtain⟨σ7,H7,I7,n7⟩:=q7;exact again I7 n7
  |brk=>obtain⟨σ7,H7,I7,q7⟩:=q7;exact⟨σ7,H7,I7.unpinned,q7⟩
  |ret v=>obtain⟨x7,σ7,H7,I7,r7,q7⟩:=q7;exact⟨x7,σ7,H7,I7.unpinned,r7,q7⟩
end
abbrev R2:=V->V->Hp->VK->Prop
def OpR (X:Cx)(f:Value->Value->Sem Value)(r:R2):Prop:=
 ∀(aa:List (Addr×Obj)) (s:Shared) (σ:St) (H:Hp) (x y:V) (v u:Value) (Q:VK),Inv X aa σ H s->Ya x v->Ya y u->r x y H Q->
  wpAny (model X.prog X.w) X.A (f v u) (EP X aa σ Q) X.xe s
def UnR (X:Cx)(f:Value->Sem Value)(r:V->Hp->VK->Prop):Prop:=
 ∀(aa:List (Addr×Obj)) (s:Shared) (σ:St) (H:Hp) (x:V) (v:Value) (Q:VK),Inv X aa σ H s->Ya x v->r x H Q->
  wpAny (model X.prog X.w) X.A (f v) (EP X aa σ Q) X.xe s
def ZZ (X:Cx)(f:Value)(r:List V->Hp->VK->Prop):Prop:=
 ∀(aa:List (Addr×Obj)) (s:Shared) (σ:St) (H:Hp) (xs:List V) (us:List Value) (Q:VK),Inv X aa σ H s->Yf xs us->r xs H Q->
  wpAny (model X.prog X.w) X.A (call f us) (EP X aa σ Q) X.xe s
def tOp (r:R2)(ta tb:TE):TE:=λσ H Q=>ta σ H λx H1=>tb σ H1 λy H2=>r x y H2 Q
def tUn (r:V->Hp->VK->Prop)(ta:TE):TE:=λσ H Q=>ta σ H λx H1=>r x H1 Q
def rI (C:Int->Int->Prop)(g:Int->Int->V):R2:=λx y H Q=>∃ i j,x= .int i/\y= .int j/\C i j/\Q (g i j) H
def rI0 (g:Int->Int->V):R2:=λx y H Q=>∃ i j,x= .int i/\y= .int j/\Q (g i j) H
def rU (g:Int->V):V->Hp->VK->Prop:=λx H Q=>∃ i,x= .int i/\Q (g i) H
section
variable {a b c:Expr}
theorem WK (ha:PE X a ta)(hb:PE X b tb){R:V->V->Hp->Prop}(I:Inv X aa σ H s)
  (h:ta σ H λx H1=>tb σ H1 λy H2=>R x y H2){f:Value->Value->Sem Value}
  (hf:∀v u s2 x y H2,Inv X aa σ H2 s2->Ya x v->Ya y u->R x y H2->wpAny (model X.prog X.w) X.A (f v u) Q X.xe s2):
  wpAny (model X.prog X.w) X.A (eval a X.env) (λv s₁=>wpAny (model X.prog X.w) X.A (eval b X.env) (λu s₂=>wpAny (model X.prog X.w) X.A (f v u) Q X.xe s₂) X.xe s₁) X.xe s:=by
 refine thn (ha aa s σ H _ I h) λv s1 r9=>?_
 obtain⟨x,H1,I1,r1,q1⟩:=r9
 refine thn (hb aa s1 σ H1 _ I1 q1) λu s2 r9=>?_
 obtain⟨y,H2,I2,r2,q2⟩:=r9
 exact hf v u s2 x y H2 I2 r1 r2 q2
theorem Xn (ho:OpR X (binaryOp op) r)(ha:PE X a ta)(hb:PE X b tb):PE X (.BinOp a op b pos) (tOp r ta tb):=by
 intro aa s σ H Q I h
 exact wpAny_BinOp (WK ha hb I h λv u s2 x y H2 I2 rx ry q=>ho aa s2 σ H2 x y v u Q I2 rx ry q)
theorem Yu (ho:UnR X (unaryOp op) r)(ha:PE X a ta):PE X (.UnaryOp op a pos) (tUn r ta):=by
 intro aa s σ H Q I h
 exact UnaryOp_ (thn (ha aa s σ H _ I h) λv s1 r9=>by obtain⟨x,H1,I1,r1,q1⟩:=r9;exact ho aa s1 σ H1 x v Q I1 r1 q1)
theorem opI {f:Value->Value->Sem Value}{C:Int->Int->Prop}{g:Int->Int->Int}
  (rule:∀(i j:Int) (t u:Tok) (s:Shared) (Q:Value->Shared->Prop) (E:Value->Shared->Prop),C i j->Q (.int (g i j) s.toks) {s with toks:=s.toks+1}->wpAny (model X.prog X.w) X.A (f (.int i t) (.int j u)) Q E s):
  OpR X f (rI C λi j=>.int (g i j)):=by
 intro aa s σ H x y v u Q I rx ry h
 obtain⟨i,j,rfl,rfl,hc,q⟩:=h
 obtain⟨t,rfl⟩:=rx
 obtain⟨t',rfl⟩:=ry
 exact rule i j t t' s _ _ hc ⟨.int (g i j),H,I.tok _,⟨_,rfl⟩,q⟩
theorem Aa {f:Value->Value->Sem Value}{g:Int->Int->Int}
  (rule:∀(i j:Int) (t u:Tok) (s:Shared) (Q:Value->Shared->Prop) (E:Value->Shared->Prop),Q (.int (g i j) s.toks) {s with toks:=s.toks+1}->wpAny (model X.prog X.w) X.A (f (.int i t) (.int j u)) Q E s):
  OpR X f (rI0 λi j=>.int (g i j)):=by
 intro aa s σ H x y v u Q I rx ry h
 obtain⟨i,j,rfl,rfl,q⟩:=h
 obtain⟨t,rfl⟩:=rx
 obtain⟨t',rfl⟩:=ry
 exact rule i j t t' s _ _ ⟨.int (g i j),H,I.tok _,⟨_,rfl⟩,q⟩
theorem Wg {f:Value->Value->Sem Value}{g:Int->Int->Bool}
  (rule:∀(i j:Int) (t u:Tok) (s:Shared) (Q:Value->Shared->Prop) (E:Value->Shared->Prop),Q (.bool (g i j)) s->wpAny (model X.prog X.w) X.A (f (.int i t) (.int j u)) Q E s):
  OpR X f (rI0 λi j=>.bl (g i j)):=by
 intro aa s σ H x y v u Q I rx ry h
 obtain⟨i,j,rfl,rfl,q⟩:=h
 obtain⟨t,rfl⟩:=rx
 obtain⟨t',rfl⟩:=ry
 exact rule i j t t' s _ _ ⟨.bl (g i j),H,I,rfl,q⟩
def Ws (i j:Int):Prop:=0<=j/\j<=1000000/\i.natAbs<2^64
def Ty (i j:Int):Prop:=(-(2^64)<i/\i<2^64)∨(-(2^64)<j/\j<2^64)
theorem Ty.ok {j:Int}(h:Ty i j):IntMulOk i j:=by
 rcases h with⟨h1,h2⟩ | ⟨h1,h2⟩
 ·exact .of_left (intBits_le_64 h1 h2)
 ·exact .of_right (intBits_le_64 h1 h2)
theorem XC:OpR X (binaryOp .Add) (rI0 λi j=>.int (i+j)):=Aa λ_ _ _ _ _ _ _ q=>add_int q
theorem ZX:OpR X (binaryOp .Sub) (rI0 λi j=>.int (i-j)):=Aa λ_ _ _ _ _ _ _ q=>sub_int q
theorem X6:OpR X (binaryOp .Mult) (rI Ty λi j=>.int (i*j)):=opI λ_ _ _ _ _ _ _ hc q=>mul_int q hc.ok
theorem Yo:OpR X (binaryOp .Mod) (rI (λ_ j=>0<j) λi j=>.int (i % j)):=opI λi j _ _ _ _ _ hc q=>by
 have h1:(0:Int)<j:=hc
 exact mod_int' (by omega) (by rw[Int.fmod_eq_emod_of_nonneg i (by omega)];exact q)
theorem UX:OpR X (binaryOp .Pow) (rI Ws λi j=>.int (i^j.toNat)):=opI λ_ _ _ _ _ _ _ hc q=>pow_int_small hc.1 hc.2.1 hc.2.2 q
theorem unI {f:Value->Sem Value}{g:Int->Int}
  (rule:∀(i:Int) (t:Tok) (s:Shared) (Q:Value->Shared->Prop) (E:Value->Shared->Prop),Q (.int (g i) s.toks) {s with toks:=s.toks+1}->wpAny (model X.prog X.w) X.A (f (.int i t)) Q E s):
  UnR X f (rU λi=>.int (g i)):=by
 intro aa s σ H x v Q I rx h
 obtain⟨i,rfl,q⟩:=h
 obtain⟨t,rfl⟩:=rx
 exact rule i t s _ _ ⟨.int (g i),H,I.tok _,⟨_,rfl⟩,q⟩
theorem X0:UnR X (unaryOp .USub) (rU λi=>.int (-i)):=unI λ_ _ _ _ _ q=>neg_int q
end
def Wr:V->V->Bool
 | .non, .non=>true | .non, .int _=>true | .int _, .non=>true | .non, .bl _=>true | .bl _, .non=>true | .non, .str _=>true | .str _, .non=>true
 | .int _, .int _=>true | .bl _, .bl _=>true | .str _, .str _=>true | .byt _, .byt _=>true
 | .int _, .str _=>true | .str _, .int _=>true | .bl _, .str _=>true | .str _, .bl _=>true
 |_,_=>false
def rEq:R2:=λx y H Q=>Wr x y=true/\Q (.bl (decide (x=y))) H
def rNe:R2:=λx y H Q=>Wr x y=true/\Q (.bl (!decide (x=y))) H
theorem Io {j:Int}:decide (V.int i=V.int j)=(i==j):=by
 rw[Bool.eq_iff_iff]
 simp
theorem Pa {j:Bool}:decide (V.bl i=V.bl j)=(i==j):=by
 rw[Bool.eq_iff_iff]
 simp
theorem IR {j:Str}:decide (V.str i=V.str j)=(i==j):=by
 rw[Bool.eq_iff_iff]
 simp
theorem IP {j:Array UInt8}:decide (V.byt i=V.byt j)=(i.toList==j.toList):=by
 rw[Bool.eq_iff_iff]
 cases i
 cases j
 simp
section
variable {a b c:Expr}
theorem Ye {Q:VK}{k:Bool}(I:Inv X aa σ H s)(q:Q (.bl k) H)(e:k=k'):EP X aa σ Q (.bool k') s:=by
 subst e
 exact⟨.bl k,H,I,rfl,q⟩
theorem XY:OpR X (compareOp .Eq) rEq:=by
 intro aa s σ H x y v u Q I rx ry h
 obtain⟨hs,q⟩:=h
 cases x with
 |non=>
  cases rx
  cases y with
  |non=>cases ry;exact PySem.EqNone.eq_none_none (Ye I q (by simp))
  |bl j=>cases ry;exact PySem.EqNone.eq_none_bool (Ye I q (by simp))
  |int j=>obtain⟨t',rfl⟩:=ry;exact PySem.EqNone.eq_none_int (Ye I q (by simp))
  |str j=>obtain⟨t',rfl⟩:=ry;exact PySem.EqNone.eq_none_str (Ye I q (by simp))
  |_=>exact absurd (show false=true from hs) Bool.false_ne_true
 |bl i=>
  cases rx
  cases y with
  |non=>cases ry;exact PySem.EqNone.eq_bool_none (Ye I q (by simp))
  |bl j=>cases ry;exact eq_bool (Ye I q Pa)
  |str j=>obtain⟨t',rfl⟩:=ry;exact PySem.EqMixed.eq_bool_str (Ye I q (by simp))
  |_=>exact absurd (show false=true from hs) Bool.false_ne_true
 |int i=>
  obtain⟨t,rfl⟩:=rx
  cases y with
  |non=>cases ry;exact PySem.EqNone.eq_int_none (Ye I q (by simp))
  |int j=>obtain⟨t',rfl⟩:=ry;exact eq_int (Ye I q Io)
  |str j=>obtain⟨t',rfl⟩:=ry;exact PySem.EqMixed.eq_int_str (Ye I q (by simp))
  |_=>exact absurd (show false=true from hs) Bool.false_ne_true
 |str i=>
  obtain⟨t,rfl⟩:=rx
  cases y with
  |non=>cases ry;exact PySem.EqNone.eq_str_none (Ye I q (by simp))
  |bl j=>cases ry;exact PySem.EqMixed.eq_str_bool (Ye I q (by simp))
  |int j=>obtain⟨t',rfl⟩:=ry;exact PySem.EqMixed.eq_str_int (Ye I q (by simp))
  |str j=>obtain⟨t',rfl⟩:=ry;exact eq_str (Ye I q IR)
  |_=>exact absurd (show false=true from hs) Bool.false_ne_true
 |byt i=>
  obtain⟨t,rfl⟩:=rx
  cases y with
  |byt j=>obtain⟨t',rfl⟩:=ry;exact PySem.W.eq_bytes (Ye I q IP)
  |_=>exact absurd (show false=true from hs) Bool.false_ne_true
 |_=>cases y<;> exact absurd (show false=true from hs) Bool.false_ne_true
theorem FW:OpR X (compareOp .NotEq) rNe:=by
 intro aa s σ H x y v u Q I rx ry h
 obtain⟨hs,q⟩:=h
 cases x with
 |non=>
  cases rx
  cases y with
  |non=>cases ry;exact PySem.EqNone.ne_none_none (Ye I q (by simp))
  |bl j=>cases ry;exact PySem.EqNone.ne_none_bool (Ye I q (by simp))
  |int j=>obtain⟨t',rfl⟩:=ry;exact PySem.EqNone.ne_none_int (Ye I q (by simp))
  |str j=>obtain⟨t',rfl⟩:=ry;exact PySem.EqNone.ne_none_str (Ye I q (by simp))
  |_=>exact absurd (show false=true from hs) Bool.false_ne_true
 |bl i=>
  cases rx
  cases y with
  |non=>cases ry;exact PySem.EqNone.ne_bool_none (Ye I q (by simp))
  |bl j=>cases ry;exact ne_bool (Ye I q (congrArg not Pa))
  |str j=>obtain⟨t',rfl⟩:=ry;exact PySem.EqMixed.ne_bool_str (Ye I q (by simp))
  |_=>exact absurd (show false=true from hs) Bool.false_ne_true
 |int i=>
  obtain⟨t,rfl⟩:=rx
  cases y with
  |non=>cases ry;exact PySem.EqNone.ne_int_none (Ye I q (by simp))
  |int j=>obtain⟨t',rfl⟩:=ry;exact ne_int (Ye I q (congrArg not Io))
  |str j=>obtain⟨t',rfl⟩:=ry;exact PySem.EqMixed.ne_int_str (Ye I q (by simp))
  |_=>exact absurd (show false=true from hs) Bool.false_ne_true
 |str i=>
  obtain⟨t,rfl⟩:=rx
  cases y with
  |non=>cases ry;exact PySem.EqNone.ne_str_none (Ye I q (by simp))
  |bl j=>cases ry;exact PySem.EqMixed.ne_str_bool (Ye I q (by simp))
  |int j=>obtain⟨t',rfl⟩:=ry;exact PySem.EqMixed.ne_str_int (Ye I q (by simp))
  |str j=>obtain⟨t',rfl⟩:=ry;exact ne_str (Ye I q (congrArg not IR))
  |_=>exact absurd (show false=true from hs) Bool.false_ne_true
 |byt i=>
  obtain⟨t,rfl⟩:=rx
  cases y with
  |byt j=>obtain⟨t',rfl⟩:=ry;exact PySem.W.ne_bytes (Ye I q (congrArg not IP))
  |_=>exact absurd (show false=true from hs) Bool.false_ne_true
 |_=>cases y<;> exact absurd (show false=true from hs) Bool.false_ne_true
theorem Kk:OpR X (compareOp .Lt) (rI0 λi j=>.bl (decide (i<j))):=Wg λ_ _ _ _ _ _ _ q=>lt_int q
theorem HS:OpR X (compareOp .LtE) (rI0 λi j=>.bl (decide (i<=j))):=Wg λ_ _ _ _ _ _ _ q=>le_int q
theorem BR:OpR X (compareOp .Gt) (rI0 λi j=>.bl (decide (j<i))):=Wg λ_ _ _ _ _ _ _ q=>gt_int q
theorem WW:OpR X (compareOp .GtE) (rI0 λi j=>.bl (decide (j<=i))):=Wg λ_ _ _ _ _ _ _ q=>ge_int q
theorem Mq:OpR X (compareOp .Is) (λx y H Q=>y= .non/\Q (.bl (decide (x= .non))) H):=by
 intro aa s σ H x y v u Q I rx ry h
 obtain⟨rfl,q⟩:=h
 cases ry
 refine is_none_gen (Ye I q ?_)
 cases x<;> first
  | (cases rx;rfl)
  | (obtain⟨t,rfl⟩:=rx;rfl)
theorem Eb:OpR X (compareOp .IsNot) (λx y H Q=>y= .non/\Q (.bl (!decide (x= .non))) H):=by
 intro aa s σ H x y v u Q I rx ry h
 obtain⟨rfl,q⟩:=h
 cases ry
 refine isnot_none_gen (Ye I q ?_)
 cases x<;> first
  | (cases rx;rfl)
  | (obtain⟨t,rfl⟩:=rx;rfl)
theorem Xq (b:Expr)(h:op≠ .In:=by decide)(h2:op≠ .NotIn:=by decide):behindInMarks op b=false:=by
 have e1:(op==CmpOp.In)=false:=by cases op<;> first |rfl |exact absurd rfl h
 have e2:(op==CmpOp.NotIn)=false:=by cases op<;> first |rfl |exact absurd rfl h2
 cases b<;> simp[behindInMarks,e1,e2]
theorem X5 (ho:OpR X (compareOp op) r)(ha:PE X a ta)(hb:PE X b tb)(hm:behindInMarks op b=false):PE X (.Compare a [op] [b] pos) (tOp r ta tb):=by
 intro aa s σ H Q I h
 exact wpAny_Compare1 (WK ha hb I h λv u s2 x y H2 I2 rx ry q=>ho aa s2 σ H2 x y v u Q I2 rx ry q) hm
def NO (t:TE):TT:=λσ H Q=>t σ H λx H'=>∃ k,x= .bl k/\Q k H'
theorem Xl (ho:OpR X (compareOp op) r)(ha:PE X a ta)(hb:PE X b tb)(hm:behindInMarks op b=false):PT X (.Compare a [op] [b] pos) (NO (tOp r ta tb)):=by
 intro aa s σ H Q I h
 refine wpAny_isTrue_Compare1 (thn (ha aa s σ H _ I h) λv s1 ⟨x,H1,I1,r1,q1⟩=>thn (hb aa s1 σ H1 _ I1 q1) λu s2 ⟨y,H2,I2,r2,q2⟩=>
  thn (ho aa s2 σ H2 x y v u _ I2 r1 r2 q2) λc s3 ⟨z,H3,I3,r3,k,e,q3⟩=>?_) hm
 subst e
 cases r3
 exact wpAny_truthy_bool ⟨H3,I3,q3⟩
def MC (r r':R2)(ta tb tc:TE):TE:=λσ H Q=>ta σ H λx H1=>tb σ H1 λy H2=>r x y H2 λz H3=>∃ k,z= .bl k/\
 (if k=true then tc σ H3 λw' H4=>r' y w' H4 Q else Q (.bl false) H3)
theorem EA (ho:OpR X (compareOp op) r)(cq:OpR X (compareOp gE) r')(ha:PE X a ta)(hb:PE X b tb)(hc:PE X c tc)
  (hm:lastMarks [op,gE] [b,c]=false:=by with_unfolding_all rfl):PE X (.Compare a [op,gE] [b,c] pos) (MC r r' ta tb tc):=by
 intro aa s σ H Q I h
 refine Compare_chain (thn (ha aa s σ H _ I h) λv s1 ⟨x,H1,I1,r1,q1⟩=>chain_link (thn (hb aa s1 σ H1 _ I1 q1) λu s2 ⟨y,H2,I2,r2,q2⟩=>
  thn (ho aa s2 σ H2 x y v u _ I2 r1 r2 q2) λd s3 ⟨z,H3,I3,r3,k,e,q3⟩=>?_)) hm
 subst e
 cases r3
 refine wpAny_truthy_bool ?_
 cases k with
 |false=>exact ite_ff ⟨.bl false,H3,I3,rfl,q3⟩
 |true=>exact ite_tt (chain_last (thn (hc aa s3 σ H3 _ I3 q3) λw' s4 r9=>by obtain⟨z',H4,I4,r4,q4⟩:=r9;exact cq aa s4 σ H4 y z' u w' Q I4 r2 r4 q4))
theorem EX (ho:OpR X (compareOp op) r)(cq:OpR X (compareOp gE) r')(ha:PE X a ta)(hb:PE X b tb)(hc:PE X c tc)
  (hm:lastMarks [op,gE] [b,c]=false:=by with_unfolding_all rfl):PT X (.Compare a [op,gE] [b,c] pos) (NO (MC r r' ta tb tc)):=by
 intro aa s σ H Q I h
 refine isTrue_chain (thn (ha aa s σ H _ I h) λv s1 ⟨x,H1,I1,r1,q1⟩=>test_link (thn (hb aa s1 σ H1 _ I1 q1) λu s2 ⟨y,H2,I2,r2,q2⟩=>
  thn (ho aa s2 σ H2 x y v u _ I2 r1 r2 q2) λd s3 ⟨z,H3,I3,r3,k,e,q3⟩=>?_)) hm
 subst e
 cases r3
 refine wpAny_truthy_bool ?_
 cases k with
 |false=>
  obtain⟨k',e',q'⟩:=q3
  cases e'
  exact ite_ff ⟨H3,I3,q'⟩
 |true=>
  refine ite_tt (test_last (thn (hc aa s3 σ H3 _ I3 q3) λw' s4 ⟨z',H4,I4,r4,q4⟩=>thn (cq aa s4 σ H4 y z' u w' _ I4 r2 r4 q4) λd' s5 r9=>?_))
  obtain⟨z2,H5,I5,r5,k2,e2,q5⟩:=r9
  subst e2
  cases r5
  exact wpAny_truthy_bool ⟨H5,I5,q5⟩
theorem Hl:(sizeLine:Nat)<2^63:=by rw[sizeLine_eq];decide
theorem VD {x:V}(r:Yf [x] us):∃u,us=[u]/\Ya x u:=by
 cases r with
 |cons r1 r2=>cases r2;exact⟨_,rfl,r1⟩
theorem Ti {x y:V}(r:Yf [x,y] us):∃u w',us=[u,w']/\Ya x u/\Ya y w':=by
 cases r with
 |cons r1 r2=>
  cases r2 with
  |cons r3 r4=>cases r4;exact⟨_,_,rfl,r1,r3⟩
theorem Oc:ZZ X (.builtin "abs") (λxs H Q=>∃ i,xs=[.int i]/\Q (.int (if i<0 then-i else i)) H):=by
 intro aa s σ H xs us Q I r h
 obtain⟨i,rfl,q⟩:=h
 obtain⟨u,rfl,t,rfl⟩:=VD r
 exact call_abs_int λu tk=>⟨.int (if i<0 then-i else i),H,I.tok _,⟨_,rfl⟩,q⟩
theorem IE (hc:X.calm=true):ZZ X (.builtin "max") (λxs H Q=>∃ i j,xs=[.int i, .int j]/\Q (.int (if j > i then j else i)) H):=by
 intro aa s σ H xs us Q I r h
 obtain⟨i,j,rfl,q⟩:=h
 obtain⟨u,w',rfl,⟨t,rfl⟩,⟨t',rfl⟩⟩:=Ti r
 refine max_two_ints (I.ok.hd hc) λh' tk k=>⟨_,H,I.kept k,?_,q⟩
 by_cases hj:j > i
 ·rw[if_pos hj,if_pos hj];exact⟨_,rfl⟩
 ·rw[if_neg hj,if_neg hj];exact⟨_,rfl⟩
theorem IB (hc:X.calm=true):ZZ X (.builtin "min") (λxs H Q=>∃ i j,xs=[.int i, .int j]/\Q (.int (if j<i then j else i)) H):=by
 intro aa s σ H xs us Q I r h
 obtain⟨i,j,rfl,q⟩:=h
 obtain⟨u,w',rfl,⟨t,rfl⟩,⟨t',rfl⟩⟩:=Ti r
 refine min_two_ints (I.ok.hd hc) λh' tk k=>⟨_,H,I.kept k,?_,q⟩
 by_cases hj:j<i
 ·rw[if_pos hj,if_pos hj];exact⟨_,rfl⟩
 ·rw[if_neg hj,if_neg hj];exact⟨_,rfl⟩
theorem JJ:ZZ X (.type "int") (λxs H Q=>(∃i,xs=[.int i]/\Q (.int i) H)∨∃k,xs=[.bl k]/\Q (.int (if k then 1 else 0)) H):=by
 intro aa s σ H xs us Q I r h
 rcases h with⟨i,rfl,q⟩ | ⟨k,rfl,q⟩
 ·obtain⟨u,rfl,t,rfl⟩:=VD r
  exact call_int_int ⟨.int i,H,I,⟨_,rfl⟩,q⟩
 ·obtain⟨u,rfl,r1⟩:=VD r
  cases r1
  exact call_int_bool ⟨.int (if k then 1 else 0),H,I.tok _,⟨_,rfl⟩,q⟩
end
structure ObjM (h:Heap)(x dx C:Addr)(mA:Str->Option Value):Prop where
 obj:h.get? x=some (W.instObj C dx)
 ns:h.Ns1 dx mA
 ne:dx≠x
theorem LZ {h:Heap}{dx:Addr}{mA:Str->Option Value}(n:h.Ns1 dx mA):∃od,h.get? dx=some od/\∀name,W.lookIn name od=some (mA name):=by
 obtain⟨o,es,ep,ho,hd,hk,_,hm⟩:=n
 refine⟨o,ho,λname=>?_⟩
 have e:=hm name
 unfold nsFind findBy at e
 rw[←Array.find?_toList] at e
 unfold W.lookIn
 rw[hd]
 dsimp only
 split
 ·rename_i y q
  rw[q] at e
  exact congrArg some e
 ·rename_i q
  rw[q] at e
  have a:es.toList.any (·.refKey)=false:=by
   rw[List.any_eq_false]
   intro y hy
   obtain⟨z,t,fH⟩:=hk y (Array.mem_toList_iff.mp hy)
   simp[DictEntry.refKey,fH]
  have a':¬es.toList.any (·.refKey)=true:=by rw[a];exact Bool.false_ne_true
  rw[if_neg a']
  exact congrArg some e
theorem ObjM.look {x:Addr}(I:ObjM h x dx C mA):∃od,PySem.W.InstAt h x (W.instObj C dx) C (some od)/\∀name,W.lookIn name od=some (mA name):=
 let ⟨od,ho,hl⟩:=LZ I.ns
 ⟨od,⟨I.obj,rfl,rfl,ho⟩,hl⟩
section
variable {x dx C f:Addr}{mA:Str->Option Value}{name:Str}{v:Value}
end
theorem Ig.some_of (r:Ig (some v) o):∃u,o=some u/\Ya v u:=by
 cases o with
 |none=>exact(show False from r).elim
 |some u=>exact⟨u,rfl,r⟩
section
variable {h:Heap}{C dx:Addr}{fs fs':List (Str×V)}
theorem SJ (hok:HOk P w H h)(e:H a=some (.ins C dx fs)):∃mA,ObjM h a dx C mA/\(∀f,Ig (fs.lookup f) (mA f))/\PySem.Within mA (fs.map (·.1))/\fs.length<=1000/\H dx=some (.own a):=by
 obtain⟨d,z,ne,ob,mA,n,r,q⟩:=(show YE P w H h a (.ins C dx fs) from hok a _ e)
 exact⟨mA,⟨ob,n,ne⟩,r,q,z,d⟩
end
structure Cls (K:W.Frag)(C:Addr):Prop where
 pg:W.plainGet K C Str.empty=true
 hd:PySem.W.hasDictIn K C=true
 po:PySem.W.plainOver K C=true
 sa:W.findIn K (.ref C) "__setattr__" =some (some (.builtin "object.__setattr__"))
theorem Cls.get (c:Cls K C)(f:Str):W.plainGet K C f=true:=c.pg
section
variable {C dx:Addr}{fs:List (Str×V)}{f:Str}{v:V}
theorem Inv.made (I:Inv X aa σ H s):Inv X aa σ (upd (upd H s.heap.objs.size (.own (s.heap.objs.size+1))) (s.heap.objs.size+1) (.ins C s.heap.objs.size []))
  {s with heap:=(s.heap.push W.emptyDict).push (W.instObj C s.heap.objs.size)}:=by
 have e1:(s.heap.push W.emptyDict).get? s.heap.objs.size=some W.emptyDict:=Heap.get?_push_size s.heap rfl
 have e2:((s.heap.push W.emptyDict).push (W.instObj C s.heap.objs.size)).get? (s.heap.objs.size+1)=some (W.instObj C s.heap.objs.size):=by
  have:=Heap.get?_push_size (s.heap.push W.emptyDict) (o:=W.instObj C s.heap.objs.size) rfl
  rwa [Heap.size_push] at this
 have e3:(s.heap.push W.emptyDict).Ns s.heap.objs.size (λ_=>none):=⟨W.emptyDict, #[],_,e1,rfl,(λe he=>absurd he (by simp)),λ_=>rfl⟩
 have I1:=I.laid (a:=s.heap.objs.size) (o:=.own (s.heap.objs.size+1)) (h':=s.heap.push W.emptyDict) (t':=s.toks) (λb u q=>Heap.get?_push_of_some _ q) (Nat.le_refl _) ⟨_,e1⟩
 refine I1.laid (a:=s.heap.objs.size+1) (o:=.ins C s.heap.objs.size []) (t':=s.toks) (λb u q=>Heap.get?_push_of_some _ q) (Nat.le_of_eq (Heap.size_push _ _)) ?_
 have ne:s.heap.objs.size≠s.heap.objs.size+1:=Nat.ne_of_lt (Nat.lt_succ_self _)
 refine⟨by rw[XV ne,X7],Nat.zero_le _,ne,e2,λ_=>none,(Heap.Ns1.of_empty e3).at λo q=>Heap.get?_push_of_some _ q,λ_=>True.intro,λy hy=>absurd rfl hy⟩
end
section
variable {o value:Expr}{f:Str}{dX tpos:Pos}{tv:TE}
end
section
variable {c:Value}{b:Bool}
inductive TyOf (K:W.Frag)(H:Hp):V->Value->Prop where
 |non:TyOf K H .non (.type "NoneType")
 |bl (x:Bool):TyOf K H (.bl x) (.type "bool")
 |int (i:Int):TyOf K H (.int i) (.type "int")
 |str (x:Str):TyOf K H (.str x) (.type "str")
 |flt (x:UInt64):TyOf K H (.flt x) (.type "float")
 |lst {a:Addr}{xs:List V} (e:H a=some (.lst xs)):TyOf K H (.ref a) (.type "list")
 |frz {a:Addr}{o:Obj}{xs:List V} (e:H a=some (.frz o (.lst xs))):TyOf K H (.ref a) (.type "list")
 |tup {a:Addr}{xs:List V} (e:H a=some (.tup xs)):TyOf K H (.ref a) (.type "tuple")
 |dK {a:Addr}{kvs:List (Key×V)} (e:H a=some (.dK kvs)):TyOf K H (.ref a) (.type "dict")
 |dT {a:Addr}{kvs:List (List Key×V)} (e:H a=some (.dT kvs)):TyOf K H (.ref a) (.type "dict")
 |ins {a C dx:Addr}{fs:List (Str×V)} (e:H a=some (.ins C dx fs)) (cl:Cls K C) (ha:W.findIn K (.ref C) "__class__" =some (some (.builtin "object.__class__")))
   (hn:PySem.W.specialIn K (.builtin "object.__class__") "__get__" =some (some (.builtin "getset_descriptor.__get__"))) (htk:PySem.W.takesIn K (.builtin "object.__class__")=some true)
   (hm:PySem.W.mroIn K C (.type "object")=some true):TyOf K H (.ref a) (.ref C)
theorem MB {x:V}(I:Inv X aa σ H s)(rx:Ya x u)(ty:TyOf X.K H x t)(e:W.kitOne X.K t c=some b)(h:∀tk,Q (.bool b) {s with toks:=tk}):
  wpAny (model X.prog X.w) A (call (.builtin "isinstance") [u,c]) Q E s:=by
 cases ty with
 |non=>cases(show u=Value.none from rx);exact W.kia_one PySem.W.kitx_none I.kIn True.intro e (λz=>nomatch z) h
 |bl y=>cases(show u=Value.bool y from rx);exact W.kia_one PySem.W.kitx_bool I.kIn True.intro e (λz=>nomatch z) h
 |int i=>obtain⟨t,q⟩:=(show ∃t,u=Value.int i t from rx);cases q;exact W.kia_one PySem.W.kitx_int I.kIn True.intro e (λz=>nomatch z) h
 |str y=>obtain⟨t,q⟩:=(show ∃t,u=Value.str y t from rx);cases q;exact W.kia_one PySem.W.kitx_str I.kIn True.intro e (λz=>nomatch z) h
 |flt y=>obtain⟨t,q⟩:=(show ∃t,u=Value.float y t from rx);cases q;exact W.kia_one PySem.W.kitx_float I.kIn True.intro e (λz=>nomatch z) h
 | @lst a xs ea=>
  cases(show u=Value.ref a from rx)
  obtain⟨_,_,n,_,h1⟩:=(show YE X.prog X.w H s.heap a (.lst xs) from I.hok a _ ea)
  exact W.kia_one PySem.W.kitx_list I.kIn ⟨_,h1,rfl⟩ e (λz=>nomatch z) h
 | @frz a ob xs ea=>
  cases(show u=Value.ref a from rx)
  obtain⟨_,_,_,n,_,h1⟩:=(show YE X.prog X.w H s.heap a (.frz ob (.lst xs)) from I.hok a _ ea)
  exact W.kia_one PySem.W.kitx_list I.kIn ⟨_,h1,rfl⟩ e (λz=>nomatch z) h
 | @tup a xs ea=>
  cases(show u=Value.ref a from rx)
  obtain⟨_,_,_,p⟩:=(show YE X.prog X.w H s.heap a (.tup xs) from I.hok a _ ea)
  obtain⟨o,h1,h2,_⟩:=p
  exact W.kia_one PySem.W.kitx_tuple I.kIn ⟨o,h1,h2.1⟩ e (λz=>nomatch z) h
 | @dK a kvs ea=>
  cases(show u=Value.ref a from rx)
  obtain⟨_,_,vs,_,p⟩:=(show YE X.prog X.w H s.heap a (.dK kvs) from I.hok a _ ea)
  obtain⟨o,es,ep,h1,h2,_⟩:=p
  exact W.kia_one PySem.W.kitx_dict I.kIn ⟨o,h1,h2.1⟩ e (λz=>nomatch z) h
 | @dT a kvs ea=>
  cases(show u=Value.ref a from rx)
  obtain⟨_,_,xs,_,o,es,ep,h1,h2,_⟩:=(show YE X.prog X.w H s.heap a (.dT kvs) from I.hok a _ ea)
  exact W.kia_one PySem.W.kitx_dict I.kIn ⟨o,h1,h2.1⟩ e (λz=>nomatch z) h
 | @ins a C dx fs ea cl ha hn htk hm=>
  cases(show u=Value.ref a from rx)
  obtain⟨mA,O,_⟩:=SJ I.hok ea
  obtain⟨od,J,_⟩:=O.look
  exact W.kia_one (PySem.W.kitx_own (cl.get _) cl.hd ha hn htk hm) I.kIn J e (λz=>nomatch z) h
end
structure Room (k:Nat)(A:Around):Prop where
 hd:A.handled=none
 dp:A.depth+3*k+5<recursionLimit
 un:A.units+16*k+200<cLine
theorem Room.mono (r:Room k A)(h:j<=k):Room j A:=⟨r.hd,by have:=r.dp;omega,by have:=r.un;omega⟩
theorem Room.deeper (r:Room (k+1) A)(env:Env):Room k (A.deeper env):=
 ⟨r.hd,by have:=r.dp;show A.depth+1+3*k+5<_;omega,by have:=r.un;show A.units+3+16*k+200<_;omega⟩
theorem Room.depth (r:Room k A):A.depth<recursionLimit:=by have:=r.dp;omega
theorem Room.units (r:Room k A):A.units+64<cLine:=by have:=r.un;omega
def YK:TA:=λ_ H Q=>Q [] H
def Xv (ta:TE)(tr:TA):TA:=λσ H Q=>ta σ H λx H1=>tr σ H1 λxs H2=>Q (x::xs) H2
section
variable {t:TA}
theorem Xd:PA X [] YK:=λ_ _ _ _ H Q I h=>Calls.spliced_nil ⟨[],H,I, .nil,h⟩
theorem Xa (ha:PE X e te)(hr:PA X es t)(hs:starEach (e::es) X.env=(false,eval e X.env)::starEach es X.env:=by rfl):PA X (e::es) (Xv te t):=by
 intro pos aa s σ H Q I h
 rw[hs]
 show wpAny _ _ (spliced ((false,eval e X.env)::backTo pos (starEach es X.env))) _ _ s
 refine Calls.spliced_cons (thn (ha aa s σ H _ I h) λu s1 r9=>?_)
 obtain⟨x,H1,I1,r1,q1⟩:=r9
 exact thn (hr pos aa s1 σ H1 _ I1 q1) λus s2 r9=>by obtain⟨xs,H2,I2,r2,q2⟩:=r9;exact⟨x::xs,H2,I2, .cons r1 r2,q2⟩
def SO (t:TA):TE:=λσ H Q=>t σ H λxs H1=>xs.length<=sizeLine/\∀p,H1 p=none->Q (.ref p) (upd H1 p (.tup xs))
def M4 (t:TA):TE:=λσ H Q=>t σ H λxs H1=>xs.length<=sizeLine/\∀p,H1 p=none->Q (.ref p) (upd H1 p (.lst xs))
theorem XE {x1}(h:PA X es t):PE X (.Tuple es x1 pos) (SO t):=by
 intro aa s σ H Q I hq
 refine wpAny_Tuple_spliced (thn (h pos aa s σ H _ I hq) λus s1 ⟨xs,H1,I1,r,z,q⟩=>⟨by rw[←r.length];exact z,?_⟩)
 have hf:H1 s1.heap.objs.size=none:=I1.hok.fresh (Nat.le_refl _)
 refine⟨.ref s1.heap.objs.size,upd H1 s1.heap.objs.size (.tup xs),I1.laid (t':=s1.toks) (λb u e=>Heap.get?_push_of_some _ e) (Nat.le_refl _) ?_,rfl,q _ hf⟩
 exact⟨z,us,r,⟨_,Heap.get?_push_size _ rfl,⟨rfl,rfl⟩,_,rfl⟩⟩
theorem XL (h:PA X es t):PE X (.List es pos) (M4 t):=by
 intro aa s σ H Q I hq
 refine wpAny_List_spliced (thn (h pos aa s σ H _ I hq) λus s1 ⟨xs,H1,I1,r,z,q⟩=>⟨by rw[←r.length];exact z,?_⟩)
 have hf:H1 s1.heap.objs.size=none:=I1.hok.fresh (Nat.le_refl _)
 refine⟨.ref s1.heap.objs.size,upd H1 s1.heap.objs.size (.lst xs),I1.laid (t':=s1.toks) (λb u e=>Heap.get?_push_of_some _ e) (Nat.le_refl _) ?_,rfl,q _ hf⟩
 exact⟨z,us,0,r,Heap.get?_push_size _ rfl⟩
end
abbrev Sp:=List V->Hp->VK->XK->Prop
abbrev CXT:=List Env->Hp->Shared->XK->Value->Shared->Prop
structure Env0 (P:Program)(w:World)(K:W.Frag)(mg:Str->Option Value)(base:Heap)(A:Around)(outer:List Env)(s:Shared)(H:Hp):Prop where
 frames:A.frames=some outer
 mod:Mod K mg base
 bs:∀b o,base.get? b=some o->s.heap.get? b=some o/\H b=none
 bsz:base.objs.size<=s.heap.objs.size
 funs:s.heap.FunFrames base outer
 frf:∀b∈frs outer,H b=none
 hok:HOk P w H s.heap
 bare:AllBare s.gens
def CE (outer:List Env)(P:Program)(w:World)(H:Hp)(s:Shared)(Q:VK)(u:Value)(s':Shared):Prop:=
 ∃v H',s'.os=s.os/\AllBare s'.gens/\Un (frs outer) [] H H' s.heap s'.heap/\HOk P w H' s'.heap/\Ya v u/\Q v H'
def CR (CX:CXT)(outer:List Env)(P:Program)(w:World)(H:Hp)(s:Shared)(Q:VK)(E:XK)(r:Result)(s':Shared):Prop:=
 match r with
 | .ok (.ret u)=>CE outer P w H s Q u s'
 | .ok _=>False
 | .error e=>CX outer H s E e s'
structure FnOk (P:Program)(w:World)(K:W.Frag)(mg:Str->Option Value)(base:Heap)(CX:CXT)(k:Nat)(f:Addr)(fd:FuncData)(ps:List Str)(sp:Sp):Prop where
 len:∀vs H Q E,sp vs H Q E->vs.length=ps.length
 run:∀(A:Around) (outer:List Env) (s:Shared) (H:Hp) (args:Args) (us:List Value) (vs:List V) (Q:VK) (E:XK),Room k A->Env0 P w K mg base A outer s H->BindsTo s fd args (ps.zip us)->Yf vs us->sp vs H Q E->
  codeAny (model P w) A (.call (.ref f) args) (CR CX outer P w H s Q E) s
section
variable {s':Shared}
theorem Inv.env0 (I:Inv X aa σ H s):Env0 X.prog X.w X.K X.mg X.base X.A X.stack s H:=
 ⟨I.ok.frames,I.ok.mod,I.bs,Nat.le_trans I.ok.bsz I.sz,I.stack,I.stkFree,I.hok,I.bare⟩
theorem Inv.after {Q:VK}(I:Inv X aa σ H s)(h:CE X.stack X.prog X.w H s Q u s'):EP X aa σ Q u s':=by
 obtain⟨v,H',os,bare,un,hok,r,q⟩:=h
 obtain⟨hh,g,d,t,os'⟩:=s'
 obtain rfl:os'=s.os:=os
 exact⟨v,H',I.call (h':=hh) (g':=g) (d':=d) (t':=t) (ch:=[]) un hok bare (λb z=>absurd z (by simp)),r,q⟩
end
def Vn (sp:Sp)(fq:List V)(E:XK)(t:TA):TE:=λσ H Q=>t σ H λvs H1=>sp (vs++fq) H1 Q E
def El (K:W.Frag)(fd:FuncData)(ps:List Str)(ds:List Value):Prop:=
 ∀(s:Shared) (us:List Value),K.In s.heap->(us++ds).length=ps.length->BindsTo s fd ⟨us,[]⟩ (ps.zip (us++ds))
theorem El.all (h:∀us:List Value,us.length=ps.length->bindArgs fd ⟨us,[]⟩=pure (ps.zip us)):El K fd ps []:=λs us _ hl=>by
 rw[List.append_nil] at hl⊢
 exact .of_eq (h us hl)
def Mi (CX:CXT)(X:Cx)(E:XK):Prop:=∀ (aa:List (Addr×Obj)) (σ:St) (H:Hp) (s:Shared) (e:Value) (s':Shared),Inv X aa σ H s->CX X.stack H s E e s'->X.xe e s'
section
variable {CX:CXT}{f C:Addr}{sp:Sp}{fq:List V}{ds:List Value}{E:XK}{m:Str}{p aT:Pos}{o:Expr}{t:TA}
theorem Tj {Q:VK}(F:FnOk X.prog X.w X.K X.mg X.base CX k f fd ps sp)(hr:Room k X.A)(hb:El X.K fd ps ds)(hd:Yf fq ds)(hx:Mi CX X E)
  (I:Inv X aa σ H s)(r:Yf vs us)(h:sp (vs++fq) H Q E):wpAny (model X.prog X.w) X.A (call (.ref f) us) (EP X aa σ Q) X.xe s:=by
 have r2:Yf (vs++fq) (us++ds):=r.append hd
 have hl:(us++ds).length=ps.length:=by rw[←r2.length];exact F.len _ _ _ _ h
 refine wpAny_call (codeAny_mono (F.run X.A X.stack s H ⟨us,[]⟩ (us++ds) (vs++fq) Q E hr I.env0 (hb s us I.kIn hl) r2 h) λr s' hq=>?_)
 cases r with
 |error e=>exact hx aa σ H s e s' I hq
 |ok fl=>
  cases fl with
  |ret u=>exact I.after hq
  |next=>exact False.elim hq
  |brk=>exact False.elim hq
  |cont=>exact False.elim hq
theorem RS (F:FnOk X.prog X.w X.K X.mg X.base CX k f fd ps sp)(hr:Room k X.A)(hg:Gl X x)(hm:X.mg x=some (.ref f))(hk:W.keepIn X.K (.ref f)=true)(hb:El X.K fd ps ds)(hd:Yf fq ds)(hx:Mi CX X E)
  (ha:PA X (e::es) t)(fI:(x==("__debug__":Str))=false:=by decide)(he:starEach (e::es) X.env=(false,eval e X.env)::starEach es X.env:=by rfl)(bO:(backTo pos (starEach es X.env)).any (·.1)=false:=by rfl):
  PE X (.Call (.Name x p) (e::es) [] pos) (Vn sp fq E t):=by
 intro aa s σ H Q I h
 refine wpAny_Call_Name_kw (Lh I hg hm ?_ fI)
 refine PySem.W.callWith_K (h₀:=X.base) I.ok.mod.kin hk (thn (ha pos aa s σ H _ I h) λus s1 ⟨vs,H1,I1,r,q⟩=>⟨I1.kIn,?_⟩) he bO
 exact Tj F hr hb hd hx I1 r q
end
section
variable {CX:CXT}{f C:Addr}{ks:List Str}{sp:Sp}{E:XK}{m:Str}{p aT kpos:Pos}{o:Expr}{kws:List Keyword}{t tk:TA}{nm:Option Str}
variable {g:List Value->List Value->List Value}{gV:List V->List V->List V}
end
structure FnScope (N P:List Str)(sc:Scope):Prop where
 kind:sc.kind= .function
 co:sc.isCoroutine=false
 gen:sc.isGenerator=false
 nd:N.Nodup
 pre:N.take P.length=P
 par:∀x∈P,sc.names.lookup x=some .local∨sc.names.lookup x=some .cell
 nofree:∀y∈sc.names,y.2≠ .free
theorem Bm {kindOf:Str->Option NameKind}:∀{binds:List (Str×Value)}{m:Str->Option Value},(∀v,(x,v)∉binds)->bindL kindOf binds m x=m x
 | [],_,_=>rfl
 | (n,v)::r,m,h=>by
  unfold bindL
  rw[Bm λw hw=>h w (List.mem_cons_of_mem _ hw)]
  split
  ·have:x≠n:=by rintro rfl;exact h v List.mem_cons_self
   simp[this]
  ·rfl
theorem Cu {kindOf:Str->Option NameKind}:∀{binds:List (Str×Value)}{m:Str->Option Value},(∀v,(x,v)∉binds)->bindC kindOf binds m x=m x
 | [],_,_=>rfl
 | (n,v)::r,m,h=>by
  unfold bindC
  rw[Cu λw hw=>h w (List.mem_cons_of_mem _ hw)]
  split
  ·rfl
  ·have:x≠n:=by rintro rfl;exact h v List.mem_cons_self
   simp[this]
theorem CD {kindOf:Str->Option NameKind}{v:Value}:∀{P:List Str}{vs:List Value}{i:Nat}{m:Str->Option Value},P.Nodup->P[i]?=some x->vs[i]?=some v->kindOf x=some .local->
  bindL kindOf (P.zip vs) m x=some v
 | [],_,_,_,_,h,_,_=>by simp at h
 |_::_,[],_,_,_,_,h,_=>by simp at h
 |p::P,w::vs,0,m,nd,h1,h2,hk=>by
  simp at h1 h2;subst h1;subst h2
  show bindL kindOf ((p,w)::P.zip vs) m p=_
  unfold bindL
  rw[Bm λv hv=>(List.nodup_cons.mp nd).1 (List.of_mem_zip hv).1,if_pos hk]
  simp
 |p::P,w::vs,i+1,m,nd,h1,h2,hk=>by
  show bindL kindOf ((p,w)::P.zip vs) m x=_
  unfold bindL
  exact CD (i:=i) (List.nodup_cons.mp nd).2 (by simpa using h1) (by simpa using h2) hk
theorem Bo {kindOf:Str->Option NameKind}{v:Value}:∀{P:List Str}{vs:List Value}{i:Nat}{m:Str->Option Value},P.Nodup->P[i]?=some x->vs[i]?=some v->kindOf x≠some .local->
  bindC kindOf (P.zip vs) m x=some v
 | [],_,_,_,_,h,_,_=>by simp at h
 |_::_,[],_,_,_,_,h,_=>by simp at h
 |p::P,w::vs,0,m,nd,h1,h2,hk=>by
  simp at h1 h2;subst h1;subst h2
  show bindC kindOf ((p,w)::P.zip vs) m p=_
  unfold bindC
  rw[Cu λv hv=>(List.nodup_cons.mp nd).1 (List.of_mem_zip hv).1,if_neg hk]
  simp
 |p::P,w::vs,i+1,m,nd,h1,h2,hk=>by
  show bindC kindOf ((p,w)::P.zip vs) m x=_
  unfold bindC
  exact Bo (i:=i) (List.nodup_cons.mp nd).2 (by simpa using h1) (by simpa using h2) hk
def Ge (N:List Str)(vs:List V):St:=vs.map some++List.replicate (N.length-vs.length) none
def Ia (CX:CXT)(P:Program)(w:World)(K:W.Frag)(mg:Str->Option Value)(base:Heap)(N:List Str)(qual:Str)(scope:Scope)(f:Addr)(cd:Value)(A:Around)(outer:List Env)(s:Shared)(H:Hp)(E:XK):Cx where
 prog:=P
 w:=w
 K:=K
 mg:=mg
 base:=base
 A:=A.deeper (envOfC qual scope s.heap.objs.size f cd)
 N:=N
 s₀:=s
 H₀:=H
 env:=envOfC qual scope s.heap.objs.size f cd
 outer:=outer
 stack:=envOfC qual scope s.heap.objs.size f cd::outer
 ex:=[]
 calm:=true
 fn:=λ_=>true
 pn:=[]
 xe:=λe s'=>wpAny (model P w) (A.deeper (envOfC qual scope s.heap.objs.size f cd)) (leaving (envOfC qual scope s.heap.objs.size f cd) e) (λ_ s''=>CX outer H s E e s'') (λe' s''=>CX outer H s E e' s'') s'
theorem EZ {sc:Scope}(h:sc.names.lookup x=some .cell):∃c,(cellsFrom n sc.names []).lookup x=some c:=by
 have q:=PySem.W.cellsFrom_some sc.names n [] (.inl h)
 exact Option.isSome_iff_exists.mp q
theorem IG {CX:CXT}{qual:Str}{f:Addr}{cd:Value}{outer:List Env}{s1:Shared}{E:XK}{vs:List V}
  (S:FnScope N ps scope)(hd:A.handled=none)(e0:Env0 P w K mg base A outer s H)(hl:vs.length=ps.length)(r:Yf vs us)
  (x:InCallC s s.heap.objs.size (bindL (envOfC qual scope s.heap.objs.size f cd).kindOf (ps.zip us) λ_=>none) (cellsFrom (s.heap.objs.size+1) scope.names []) (bindC (envOfC qual scope s.heap.objs.size f cd).kindOf (ps.zip us) λ_=>none) s1):
  Inv (Ia CX P w K mg base N qual scope f cd A outer s H E) [] (Ge N vs) H s1:=by
 have bO:ps.length<=N.length:=by have:=congrArg List.length S.pre;rw[List.length_take] at this;omega
 obtain⟨h1,tk,rfl,hk⟩:=x.done
 have gF:∀b:Addr,b∉(Ia CX P w K mg base N qual scope f cd A outer s H E).ex:=λb z=>absurd (show b∈([]:List Addr) from z) (by simp)
 refine⟨⟨e0.mod,S.kind,rfl,rfl,Nat.le_refl _,λy z c h1 h2=>?_,λy hy=>?_,λy c _ h=>?_,λ_=>hd,Around.frames_deeper e0.frames, .inr ⟨rfl,rfl⟩,λb z=>absurd z (gF b),e0.bs,e0.bsz,λb _ _=>gF b,λb z=>absurd z (gF b),e0.funs,e0.frf⟩,
  rfl,e0.bare,Un.kept hk,⟨_,x.toInCall.ns,λi y v h1 h2 h3=>?_⟩,λy c h=>⟨_,x.cell y c h⟩,e0.hok.fresh (Nat.le_refl _),λy c h=>?_,λp hp=>absurd (show p∈([]:List (Addr×Obj)) from hp) (by simp),e0.hok.kept hk,?_⟩
 ·exact name_of_addr x.apart (mem_of_lookup h1) (mem_of_lookup h2)
 ·have hy:scope.names.lookup y=some .cell∨scope.names.lookup y=some .free:=hy
  rcases hy with hy |hy
  ·exact EZ hy
  ·exact absurd rfl (S.nofree _ (mem_of_lookup hy))
 ·exact Nat.le_of_lt (x.above y c (mem_of_lookup h))
 ·have hi:i<vs.length:=by
   unfold Ge at h2
   by_cases hi:i<vs.length
   ·exact hi
   ·rw[List.getElem?_append_right (by simpa using hi)] at h2
    rw[List.getElem?_replicate] at h2
    split at h2<;> cases h2
  have ha:vs[i]?=some v:=by
   unfold Ge at h2
   rw[List.getElem?_append_left (by simpa using hi),List.getElem?_map] at h2
   cases e:vs[i]? with
   |none=>rw[e] at h2;cases h2
   |some a=>rw[e] at h2;cases h2;rfl
  obtain⟨u,hu,rv⟩:=r.get ha
  have hp:ps[i]?=some y:=by
   rw[←S.pre,List.getElem?_take_of_lt (by omega)];exact h1
  have ndP:ps.Nodup:=by rw[←S.pre];exact S.nd.sublist (List.take_sublist _ _)
  refine⟨u,rv,?_⟩
  rcases S.par y (List.mem_of_getElem? hp) with k |k
  ·exact .inl ⟨k,CD ndP hp hu k⟩
  ·obtain⟨c,e⟩:=EZ (n:=s.heap.objs.size+1) k
   refine .inr ⟨.inl k,c,e,?_⟩
   have q:=x.cell y c e
   rw[Bo ndP hp hu (by show scope.names.lookup y≠_;rw[k];decide)] at q
   exact q
 ·exact e0.hok.fresh (Nat.le_of_lt (x.above y c (mem_of_lookup h)))
 ·unfold Ge
  show _=N.length
  rw[List.length_append,List.length_map,List.length_replicate]
  omega
theorem WL {CX:CXT}{f:Addr}{name qual:Str}{params:Arguments}{body:List Stmt}{dV kV doc pm am ct oc:Value}{an od:Option Addr}
  {cD:Array (Option Value)}{sp:Sp}(lk:K.lookup f=some ⟨oc,od, .func (W.fnOf name qual params body scope dV kV doc pm an am ct),cD⟩)(dW:W.codeIn K am qual=true)(S:FnScope N ps scope)
  (len:∀vs H Q E,sp vs H Q E->vs.length=ps.length)
  (cJ:∀(A:Around) (outer:List Env) (s:Shared) (H:Hp) (vs:List V) (Q:VK) (E:XK),Room k (A.deeper (envOfC qual scope s.heap.objs.size f am))->sp vs H Q E->
   ∃t,PSs (Ia CX P w K mg base N qual scope f am A outer s H E) body t/\t {nx:=λ_ H'=>Q .non H',rt:=Q} (Ge N vs) H):
  FnOk P w K mg base CX (k+1) f (W.fnOf name qual params body scope dV kV doc pm an am ct) ps sp:=by
 refine⟨len,λA outer s H args us vs Q E hr e0 hb r cK=>?_⟩
 have hl:=len _ _ _ _ cK
 have KX:K.In s.heap:=e0.mod.kin.keeps λb o e=>(e0.bs b o e).1
 have lim:s.heap.NoLimit:=e0.mod.nolimit.keeps λb o e=>(e0.bs b o e).1
 have dY:∀y∈ps.zip us,scope.names.lookup y.1=some .local∨(scope.names.lookup y.1=some .cell/\((cellsFrom (s.heap.objs.size+1) scope.names []).lookup y.1).isSome=true):=λ⟨n,v⟩ hy=>by
  rcases S.par n (List.of_mem_zip hy).1 with q |q
  ·exact .inl q
  ·exact .inr ⟨q,PySem.W.cellsFrom_some _ _ _ (.inl q)⟩
 refine codeAny_call_function hr.depth (KX _ _ lk) rfl S.co S.gen rfl (PySem.W.codeRec_of KX dW) (hb _ _ _ _ ?_)
 refine wpAny_newFunctionEnv_cells S.kind dY λenv he s1 x=>?_
 subst he
 refine⟨lim.keeps x.toInCall.keep,codeAny_func ?_⟩
 obtain⟨t,ht,hq⟩:=cJ A outer s H vs Q E (hr.deeper _) cK
 have I:Inv (Ia CX P w K mg base N qual scope f am A outer s H E) [] (Ge N vs) H s1:=IG S hr.hd e0 hl r x
 refine wpAny_mono (ht [] s1 (Ge N vs) H _ I hq) (λfl s' hs=>?_) λe s' hs=>hs
 have fin:∀{σ':St}{H':Hp}{v:V}{u:Value},Inv (Ia CX P w K mg base N qual scope f am A outer s H E) [] σ' H' s'->Ya v u->Q v H'->CE outer P w H s Q u s':=
  fun {σ' H' v u} J rv q=>⟨v,H',J.os,J.bare,J.base,J.hok,rv,q⟩
 cases fl with
 |ret u=>
  obtain⟨v,σ',H',J,rv,q⟩:=hs
  exact fin J rv q
 |next=>
  obtain⟨σ',H',J,q⟩:=hs
  exact fin (v:=V.non) (u:=Value.none) J rfl q
 |brk=>
  obtain⟨_,_,_,q⟩:=hs
  exact False.elim q
 |cont=>
  obtain⟨_,_,_,q⟩:=hs
  exact False.elim q
section
variable {p:Pos}{t:TA}{id T:String}{r:List V->Hp->VK->Prop}
def tCB (r:List V->Hp->VK->Prop)(t:TA):TE:=λσ H Q=>t σ H λvs H1=>r vs H1 Q
theorem Xo (hc:ZZ X (.builtin id) r)(hg:Gl X x)(hm:X.mg x=none)(hv:bootBuiltins x=some (.builtin id))(ha:PA X (e::es) t)(hn:x≠ "__name__":=by decide)(fI:(x==("__debug__":Str))=false:=by decide)
  (he:starEach (e::es) X.env=(false,eval e X.env)::starEach es X.env:=by rfl)(bO:(backTo pos (starEach es X.env)).any (·.1)=false:=by rfl):PE X (.Call (.Name x p) (e::es) [] pos) (tCB r t):=by
 intro aa s σ H Q I h
 refine wpAny_Call_Name_kw (UY I hg hm hv ?_ hn fI)
 exact callWith_builtin1 (thn (ha pos aa s σ H _ I h) λus s1 r9=>by obtain⟨vs,H1,I1,r1,q1⟩:=r9;exact hc aa s1 σ H1 vs us Q I1 r1 q1) he bO
theorem XJ (hc:ZZ X (.type T) r)(hg:Gl X x)(hm:X.mg x=none)(hv:bootBuiltins x=some (.type T))(ha:PA X (e::es) t)(hn:x≠ "__name__":=by decide)(fI:(x==("__debug__":Str))=false:=by decide)
  (he:starEach (e::es) X.env=(false,eval e X.env)::starEach es X.env:=by rfl)(bO:(backTo pos (starEach es X.env)).any (·.1)=false:=by rfl):PE X (.Call (.Name x p) (e::es) [] pos) (tCB r t):=by
 intro aa s σ H Q I h
 refine wpAny_Call_Name_kw (UY I hg hm hv ?_ hn fI)
 exact callWith_type1 (thn (ha pos aa s σ H _ I h) λus s1 r9=>by obtain⟨vs,H1,I1,r1,q1⟩:=r9;exact hc aa s1 σ H1 vs us Q I1 r1 q1) he bO
end
end L2
namespace HT
open PySem PyProof.Rows
section
open PySem.SeqAt
open PySem.AutoSeq1 (wpAny_loadPart')
open PySem.MeetsSeq PySem.MeetsSeq2 PySem.MeetsSeq3
end
section
theorem cat_tup (ht:IsTup s.heap t vs.toArray)(hb:IsTup s.heap b ws.toArray)(hv:vs≠ [])
  (h1:ws=[]->Q (.ref t) s)(h2:ws≠ []->Q (.ref s.heap.objs.size) {s with heap:=s.heap.push {cls:=.type "tuple",data:=.seq (vs++ws).toArray}})
  (hsz:vs.length+ws.length<=sizeLine):wpAny (model prog w) A (binaryOp .Add (.ref t) (.ref b)) Q E s:=by
 obtain⟨⟨cls,dd,data,sl⟩,ho,hc,n,hd⟩:=id ht
 obtain⟨⟨cls2,dd2,data2,sl2⟩,di,dZ,n2,eW⟩:=id hb
 simp only at hc hd dZ eW
 subst hc hd dZ eW
 have e:vs.toArray++ws.toArray=(vs++ws).toArray:=by simp
 by_cases hw:ws=[]
 ·exact concat_meets ⟨_,ho,rfl⟩ ⟨_,di,rfl⟩ noFill_tuple_add seq_tuple_add PySem.F.slot_tuple_add PySem.F.entry_tuple_add (PySem.F.args_tuple_add_2 _ _)
   (tuple_addW1 t b vs.toArray ws.toArray n n2 dd dd2 sl sl2 (by simpa using hv) (by simp[hw])) ⟨ho,di,h1 hw⟩
 ·refine concat_meets ⟨_,ho,rfl⟩ ⟨_,di,rfl⟩ noFill_tuple_add seq_tuple_add PySem.F.slot_tuple_add PySem.F.entry_tuple_add (PySem.F.args_tuple_add_2 _ _)
   (tuple_addW2 t b vs.toArray ws.toArray n n2 dd dd2 sl sl2 (by simpa using hv) (by simpa using hw) (by rw[List.size_toArray,List.size_toArray];exact hsz)) ⟨ho,di,?_⟩
  rw[e]
  exact h2 hw
def sIx (n d:Nat):Option Int->Nat
 |none=>d
 |some v=>if v<0 then(v+(n:Int)).toNat else min v.toNat n
theorem sIx_none (n d:Nat):sIx n d none=d:=rfl
theorem sIx_nat (n d k:Nat):sIx n d (some (k:Int))=min k n:=by
 show(if(k:Int)<0 then((k:Int)+(n:Int)).toNat else min (k:Int).toNat n)=min k n
 rw[if_neg (by omega),Int.toNat_natCast]
theorem sIx_le (n d:Nat)(hd:d<=n)(o:Option Int):sIx n d o<=n:=by
 cases o with
 |none=>exact hd
 |some v=>
  show(if v<0 then(v+(n:Int)).toNat else min v.toNat n)<=n
  by_cases hv:v<0
  ·rw[if_pos hv];omega
  ·rw[if_neg hv];exact Nat.min_le_right _ _
theorem I0 (v:Int)(n d:Nat):(if v<0 then max (v+(n:Int)) 0 else min v (n:Int))=((sIx n d (some v):Nat):Int):=by
 show(if v<0 then max (v+(n:Int)) 0 else min v (n:Int))=(((if v<0 then(v+(n:Int)).toNat else min v.toNat n):Nat):Int)
 by_cases hv:v<0
 ·simp only[if_pos hv];omega
 ·simp only[if_neg hv];omega
theorem HG (lo hi:Option Int)(n:Nat):Builtin.Slice.sliceAdjust lo hi 1 (n:Int)=(((sIx n 0 lo:Nat):Int),((sIx n n hi:Nat):Int)):=by
 have h1:¬((1:Int)<0):=by omega
 unfold Builtin.Slice.sliceAdjust
 simp only[h1,if_false]
 refine Prod.ext ?_ ?_
 ·cases lo with
  |none=>rfl
  |some v=>exact I0 v n 0
 ·cases hi with
  |none=>rfl
  |some v=>exact I0 v n n
theorem Hv (i j:Nat):Builtin.Slice.slicePlaces (i:Int) (j:Int) 1=j-i:=by
 unfold Builtin.Slice.slicePlaces
 have h1:(1:Int) > 0:=by omega
 simp only[h1,if_true,Int.ediv_one]
 split<;> omega
theorem Fu {Q:Option Int->Shared->Prop}(p:IsPart v o)(h:Q o s):wpAny (model prog w) A (Builtin.Slice.slicePartIndex v) Q E s:=by
 cases p with
 |none=>exact slicePart_none h
 |int i t=>exact slicePart_int h
theorem Kp {sl:Addr}{vl vu:Value}{lo hi:Option Int}{Q:Int×Int×Nat->Shared->Prop}(hs:s.heap.IsSliceOf sl vl vu .none)(pl:IsPart vl lo)(pu:IsPart vu hi)
  (h:Q (((sIx n 0 lo:Nat):Int),1,sIx n n hi-sIx n 0 lo) s):wpAny (model prog w) A (Builtin.Slice.sliceApplied (.ref sl) (pure (n:Int))) Q E s:=by
 obtain⟨os,dO,eO,fr⟩:=id hs
 unfold Builtin.Slice.sliceApplied Builtin.Slice.sliceFields
 refine wpAny_bind (wpAny_bind (wpAny_field dO fr (x:=vl) rfl (wpAny_bind (wpAny_field dO fr (x:=vu) rfl (wpAny_bind (wpAny_field dO fr (x:=.none) rfl (wpAny_pure ?_)))))))
 refine wpAny_bind (slicePart_none ?_)
 show wpAny _ _ (if((1:Int)==0)=true then _ else _) _ _ s
 rw[if_neg (by decide)]
 refine wpAny_bind (Fu pl (wpAny_bind (Fu pu (wpAny_bind (wpAny_pure ?_)))))
 show wpAny _ _ (match Builtin.Slice.sliceAdjust lo hi 1 (n:Int) with | (lo,hi)=>pure (lo,(1:Int),Builtin.Slice.slicePlaces lo hi 1)) _ _ s
 rw[HG lo hi n]
 show wpAny _ _ (pure (((sIx n 0 lo:Nat):Int),(1:Int),Builtin.Slice.slicePlaces ((sIx n 0 lo:Nat):Int) ((sIx n n hi:Nat):Int) 1)) _ _ s
 rw[Hv]
 exact wpAny_pure h
theorem Np (xs:Array Value)(i k:Nat):((List.range k).filterMap λ(m:Nat)=>xs[((i:Int)+(m:Int)*1).toNat]?).toArray=((xs.toList.drop i).take k).toArray:=by
 have e:(λ(m:Nat)=>xs[((i:Int)+(m:Int)*1).toNat]?)=λm=>xs[i+m]?:=by
  funext m
  have:((i:Int)+(m:Int)*1).toNat=i+m:=by omega
  rw[this]
 rw[e]
 have:=pick_run xs i k
 rw[List.filterMap_map] at this
 have e2:((λx=>xs[x]?)∘λx=>i+x)=λm=>xs[i+m]?:=rfl
 rw[e2] at this
 rw[this]
theorem getItem_tuple_cut {t sl:Addr}{items:Array Value}{vl vu:Value}{lo hi:Option Int}(ht:IsTup s.heap t items)(hs:s.heap.IsSliceOf sl vl vu .none)(pl:IsPart vl lo)(pu:IsPart vu hi)
  (hw:¬(sIx items.size 0 lo=0/\sIx items.size items.size hi=items.size))
  (h:Q (.ref s.heap.objs.size) {s with heap:=s.heap.push {cls:=.type "tuple",data:=.seq ((items.toList.drop (sIx items.size 0 lo)).take (sIx items.size items.size hi-sIx items.size 0 lo)).toArray}})
  (hsz:items.size<=sizeLine):wpAny (model prog w) A (getItem (.ref t) (.ref sl)) Q E s:=by
 have dk:sizeOk (.seq ((items.toList.drop (sIx items.size 0 lo)).take (sIx items.size items.size hi-sIx items.size 0 lo)).toArray):=by
  show((items.toList.drop (sIx items.size 0 lo)).take (sIx items.size items.size hi-sIx items.size 0 lo)).toArray.size<=sizeLine
  rw[List.size_toArray,List.length_take,List.length_drop,Array.length_toList]
  omega
 have hj:sIx items.size items.size hi<=items.size:=sIx_le _ _ (Nat.le_refl _) hi
 obtain⟨os,dO,eO,fr⟩:=id hs
 have hTs:s.TypeIs (.ref sl) "slice":=⟨os,dO,eO⟩
 unfold getItem
 try with_reducible refine wpAny_holding ?_
 first |refine wpAny_bind (wpAny_pure ?_) |skip
 refine wpAny_bind (wpAny_sequenceKey ht.typeIs (by decide) ?_)
 refine wpAny_bind (wpAny_callSpecial?_slot (name:=Str.ofString "__getitem__") ht.typeIs PyProof.Rows.slot_tuple_getitem
  (wpAny_call_entry PyProof.Rows.slot_tuple_getitem ht.typeIs entry_tuple_getitem ?_ (args_tuple_getitem _ _)))
 show wpAny _ _ (Builtin.Tuple.tupleItemsOf (.ref t) >>= _) _ _ s
 refine wpAny_bind (tupleItemsOf_ ht ?_)
 refine wpAny_bind (wpAny_typeOf hTs ?_)
 rw[if_pos (by decide)]
 refine wpAny_bind (Kp hs pl pu ?_)
 have hno:¬((((sIx items.size 0 lo:Nat):Int)==0&&(1:Int)==1&&(sIx items.size items.size hi-sIx items.size 0 lo)==items.size)=true):=by
  intro q
  rw[Bool.and_eq_true,Bool.and_eq_true] at q
  have q1:((sIx items.size 0 lo:Nat):Int)=0:=eq_of_beq q.1.1
  have q2:sIx items.size items.size hi-sIx items.size 0 lo=items.size:=eq_of_beq q.2
  exact hw ⟨by omega,by omega⟩
 show wpAny _ _ (if(((sIx items.size 0 lo:Nat):Int)==0&&(1:Int)==1&&(sIx items.size items.size hi-sIx items.size 0 lo)==items.size)=true then _ else _) _ _ s
 rw[if_neg hno,Np]
 first
  |exact wpAny_bind (m:=Builtin.Tuple.tupleExact _) (wpAny_newObj_type (wpAny_pure ⟨_,rfl,wpAny_pure h⟩) dk)
  |exact wpAny_bind (m:=Builtin.Tuple.tupleExact _) (wpAny_newObj_type (wpAny_bind (wpAny_pure (wpAny_pure ⟨_,rfl,wpAny_pure h⟩))) dk)
  |exact wpAny_bind (wpAny_bind (m:=Builtin.Tuple.tupleExact _) (wpAny_newObj_type (wpAny_pure (wpAny_pure ⟨_,rfl,wpAny_pure h⟩)) dk))
  |exact wpAny_bind (wpAny_bind (m:=Builtin.Tuple.tupleExact _) (wpAny_newObj_type (wpAny_pure ⟨_,rfl,wpAny_pure h⟩) dk))
end
end HT
namespace L2
open PySem PySem.Spec PyProof.Rows
abbrev TO:=St->Hp->(Option Int->Hp->Prop)->Prop
def PO (X:Cx)(e:Option Expr)(t:TO):Prop:=
 ∀(aa:List (Addr×Obj)) (s:Shared) (σ:St) (H:Hp) (Q:Option Int->Hp->Prop),Inv X aa σ H s->t σ H Q->
  wpAny (model X.prog X.w) X.A (evalPart e X.env) (λu s'=>∃ o H',Inv X aa σ H' s'/\IsPart u o/\Q o H') X.xe s
def BU:TO:=λ_ H Q=>Q none H
def Sc (t:TE):TO:=λσ H Q=>t σ H λx H1=>∃ i,x= .int i/\Q (some i) H1
section
variable {lo hi:Option Expr}{tl th:TO}{p2:Pos}
theorem Yb:PO X none BU:=by
 intro aa s σ H Q I h
 rw[evalPart_none]
 exact wpAny_pure ⟨none,H,I, .none,h⟩
theorem XM (h:PE X e te):PO X (some e) (Sc te):=by
 intro aa s σ H Q I hw
 rw[evalPart_some]
 refine thn (h aa s σ H _ I hw) λu s1 r9=>?_
 obtain⟨x,H1,I1,r1,q1⟩:=r9
 obtain⟨i,rfl,q⟩:=q1
 obtain⟨t,rfl⟩:=r1
 exact⟨some i,H1,I1, .int i t,q⟩
def SlR (X:Cx)(r:V->Option Int->Option Int->Hp->VK->Prop):Prop:=
 ∀(aa:List (Addr×Obj)) (s:Shared) (σ:St) (H:Hp) (x:V) (v vl vu:Value) (lo hi:Option Int) (sl:Addr) (Q:VK),Inv X aa σ H s->Ya x v->s.heap.IsSliceOf sl vl vu .none->IsPart vl lo->IsPart vu hi->r x lo hi H Q->
  ∃T id,typeLookup (.type T) "__getitem__" =pure (some (.builtin id))/\s.TypeIs v T/\wpAny (model X.prog X.w) X.A (getItem v (.ref sl)) (EP X aa σ Q) X.xe s
def tSl (r:V->Option Int->Option Int->Hp->VK->Prop)(te:TE)(tl th:TO):TE:=λσ H Q=>te σ H λx H1=>tl σ H1 λl H2=>th σ H2 λu H3=>r x l u H3 Q
theorem XI (hr:SlR X r)(he:PE X e te)(hl:PO X lo tl)(hu:PO X hi th):PE X (.Subscript e (.Slice lo hi none p2) pos) (tSl r te tl th):=by
 intro aa s σ H Q I h
 refine Subscript_ (thn (he aa s σ H _ I h) λv s1 r9=>?_)
 obtain⟨x,H1,I1,r1,q1⟩:=r9
 refine wpAny_Slice (thn (hl aa s1 σ H1 _ I1 q1) λvl s2 ⟨l,H2,I2,pl,q2⟩=>thn (hu aa s2 σ H2 _ I2 q2) λvu s3 r9=>?_)
 obtain⟨u,H3,I3,pu,q3⟩:=r9
 rw[evalPart_none]
 refine wpAny_pure ?_
 have I4:Inv X aa σ H3 {s3 with heap:=s3.heap.push {cls:=.type "slice",data:=.fields #[vl,vu, .none]}}:=I3.kept (t':=s3.toks) λb ob q=>Heap.get?_push_of_some _ q
 obtain⟨T,id,hT,ht,hg⟩:=hr aa {s3 with heap:=s3.heap.push {cls:=.type "slice",data:=.fields #[vl,vu, .none]}} σ H3 x v vl vu l u s3.heap.objs.size Q I4 r1 (Heap.IsSliceOf.new ..) pl pu q3
 show wpAny (model X.prog X.w) X.A (subscriptTail e (.Slice lo hi none p2) v (.ref s3.heap.objs.size)) (EP X aa σ Q) X.xe {s3 with heap:=s3.heap.push {cls:=.type "slice",data:=.fields #[vl,vu, .none]}}
 exact tail_any (ops:=[.ref s3.heap.objs.size,v]) ht hT hg (by with_unfolding_all rfl)
def Oy (xs:List V)(lo hi:Option Int):List V:=(xs.drop (HT.sIx xs.length 0 lo)).take (HT.sIx xs.length xs.length hi-HT.sIx xs.length 0 lo)
theorem K1 (xs:List V)(lo hi:Option Int):(Oy xs lo hi).length<=xs.length:=by
 unfold Oy
 rw[List.length_take,List.length_drop]
 omega
def Wl (K:W.Frag):V->Option Int->Option Int->Hp->VK->Prop:=λx lo hi H Q=>∃ a xs,x= .ref a/\SqT K H a xs/\
 ¬(HT.sIx xs.length 0 lo=0/\HT.sIx xs.length xs.length hi=xs.length)/\∀p,H p=none->Q (.ref p) (upd H p (.tup (Oy xs lo hi)))
theorem Tr:SlR X (Wl X.K):=by
 intro aa s σ H x v vl vu lo hi sl Q I rx hs pl pu h
 obtain⟨a,xs,rfl,hx,hw,q⟩:=h
 cases rx
 obtain⟨its,r,ht,hz⟩:=I.tuple hx
 have aj:its.toArray.size=xs.length:=by rw[List.size_toArray];exact r.length.symm
 refine⟨"tuple",_,PyProof.Rows.slot_tuple_getitem.lookup,ht.typeIs,?_⟩
 refine HT.getItem_tuple_cut ht hs pl pu (by rw[aj];exact hw) ?_ (by rw[aj];exact hz)
 rw[aj]
 refine⟨.ref s.heap.objs.size,_,I.laid (t':=s.toks) (o:=.tup (Oy xs lo hi)) (λb ob q=>Heap.get?_push_of_some _ q) (Nat.le_refl _) ?_,rfl,q _ (I.hok.fresh (Nat.le_refl _))⟩
 exact⟨Nat.le_trans (K1 xs lo hi) hz,_,(r.drop (HT.sIx xs.length 0 lo)).take (HT.sIx xs.length xs.length hi-HT.sIx xs.length 0 lo),V5.new _ _⟩
def WY (K:W.Frag):R2:=λx y H Q=>∃ a b xs ys,x= .ref a/\y= .ref b/\SqT K H a xs/\SqT K H b ys/\xs≠ []/\xs.length+ys.length<=sizeLine/\
 (ys=[]->Q (.ref a) H)/\(ys≠ []->∀p,H p=none->Q (.ref p) (upd H p (.tup (xs++ys))))
theorem Yf.nil_iff (r:Yf xs us):us=[]↔xs=[]:=by
 cases r with
 |nil=>simp
 |cons _ _=>simp
theorem RB:OpR X (binaryOp .Add) (WY X.K):=by
 intro aa s σ H x y v u Q I rx ry h
 obtain⟨a,b,xs,ys,rfl,rfl,ha,hb,hx,hz,q1,q2⟩:=h
 cases rx
 cases ry
 obtain⟨its,r1,p1,_⟩:=I.tuple ha
 obtain⟨aB,r2,p2,_⟩:=I.tuple hb
 refine HT.cat_tup p1 p2 (λz=>hx (r1.nil_iff.mp z)) (λz=>⟨.ref a,H,I,rfl,q1 (r2.nil_iff.mp z)⟩) (λz=>?_) (by rw[←r1.length, ←r2.length];exact hz)
 refine⟨.ref s.heap.objs.size,_,I.laid (t':=s.toks) (o:=.tup (xs++ys)) (λb ob q=>Heap.get?_push_of_some _ q) (Nat.le_refl _) ?_,rfl,q2 (λw=>z (r2.nil_iff.mpr w)) _ (I.hok.fresh (Nat.le_refl _))⟩
 exact⟨by rw[List.length_append];exact hz,_,r1.append r2,V5.new _ _⟩
end
def ixN (n:Nat)(i:Int):Option Nat:=if 0<=i then(if i<n then some i.toNat else none) else if-(n:Int)<=i then some (i+n).toNat else none
def atI (xs:List α)(i:Int):Option α:=(ixN xs.length i).bind λj=>xs[j]?
theorem MW (h:ixN n i=some j):seqIndex? i n=some j/\j<n/\ -(n:Int)<=i/\i<n:=by
 unfold ixN at h
 by_cases h0:0<=i
 ·rw[if_pos h0] at h
  by_cases h1:i<n
  ·rw[if_pos h1] at h
   have e:i.toNat=j:=Option.some.inj h
   exact⟨by rw[seqIndex_of h0 h1,e],by omega,by omega,h1⟩
  ·rw[if_neg h1] at h;cases h
 ·rw[if_neg h0] at h
  by_cases h1: -(n:Int)<=i
  ·rw[if_pos h1] at h
   have e:(i+n).toNat=j:=Option.some.inj h
   exact⟨by rw[seqIndex_neg (by omega) h1,e],by omega,h1,by omega⟩
  ·rw[if_neg h1] at h;cases h
theorem IS {xs:List α}(h:atI xs i=some v):∃j,seqIndex? i xs.length=some j/\xs[j]?=some v/\j<xs.length/\ -(xs.length:Int)<=i/\i<xs.length:=by
 unfold atI at h
 cases e:ixN xs.length i with
 |none=>rw[e] at h;cases h
 |some j=>
  rw[e] at h
  obtain⟨h1,h2,h3,h4⟩:=MW e
  exact⟨j,h1,h,h2,h3,h4⟩
def L1 (b:Expr):Prop:=∀ o i,subscripted b false o i=operate [o,i] (getItem o i)
def IxR (X:Cx)(r:R2):Prop:=
 ∀(value slice:Expr) (aa:List (Addr×Obj)) (s:Shared) (σ:St) (H:Hp) (x y:V) (v u:Value) (Q:VK),Inv X aa σ H s->Ya x v->Ya y u->r x y H Q->
  subscripted slice false v u=operate [v,u] (getItem v u)->wpAny (model X.prog X.w) X.A (subscriptTail value slice v u) (EP X aa σ Q) X.xe s
def MtR (X:Cx)(id:String)(r:V->List V->Hp->VK->Prop):Prop:=
 ∀(aa:List (Addr×Obj)) (s:Shared) (σ:St) (H:Hp) (x:V) (xs:List V) (v:Value) (us:List Value) (Q:VK),Inv X aa σ H s->Ya x v->Yf xs us->r x xs H Q->
  wpAny (model X.prog X.w) X.A (call (.builtin id) (v::us)) (EP X aa σ Q) X.xe s
section
variable {a b:Expr}
theorem X8 (hr:IxR X r)(ha:PE X a ta)(hb:PE X b tb)(hs:L1 b):PE X (.Subscript a b pos) (tOp r ta tb):=by
 intro aa s σ H Q I h
 exact Subscript_ (WK ha hb I h λv u s2 x y H2 I2 rx ry q=>hr a b aa s2 σ H2 x y v u Q I2 rx ry q (hs _ _))
def Ih (K:W.Frag):R2:=λx y H Q=>∃ p xs i v,x= .ref p/\y= .int i/\SqL K H p xs/\atI xs i=some v/\Q v H
def Ex (K:W.Frag):R2:=λx y H Q=>∃ p xs i v,x= .ref p/\y= .int i/\SqT K H p xs/\atI xs i=some v/\Q v H
theorem RL:IxR X (Ih X.K):=by
 intro value slice aa s σ H x y v u Q I rx ry h hs
 obtain⟨p,xs,i,z,rfl,rfl,hq,he,q⟩:=h
 cases rx
 obtain⟨t,rfl⟩:=ry
 obtain⟨its,r,pl,hz⟩:=I.list hq
 obtain⟨j,h1,h2,h3,h4,h5⟩:=IS he
 obtain⟨w,ew,cv⟩:=r.get h2
 have hl:=r.length
 have hn:=Hl
 have fin:EP X aa σ Q w s:=⟨z,H,I,cv,q⟩
 by_cases h0:0<=i
 ·have hj:i.toNat=j:=by
   rw[seqIndex_of h0 h5] at h1
   exact Option.some.inj h1
  exact item_listR pl.isList h0 (by omega) (by rw[hj];simpa using ew) fin hs
 ·have hj:(i+(its.toArray.size:Int)).toNat=j:=by
   rw[seqIndex_neg (by omega) h4] at h1
   rw[List.size_toArray, ←hl]
   exact Option.some.inj h1
  exact subscriptTail_builtinR (x:=w) pl.isList.typeIs slot_list_getitem.lookup
   (wpAny_getItem_list_neg (Q:=λr s'=>r=w/\EP X aa σ Q r s') pl.isList (by omega) (by rw[List.size_toArray]<;> omega) (by omega) (by rw[hj];simpa using ew) ⟨rfl,fin⟩) hs
theorem Tc:IxR X (Ex X.K):=by
 intro value slice aa s σ H x y v u Q I rx ry h hs
 obtain⟨p,xs,i,z,rfl,rfl,hq,he,q⟩:=h
 cases rx
 obtain⟨t,rfl⟩:=ry
 obtain⟨its,r,pl,hz⟩:=I.tuple hq
 obtain⟨j,h1,h2,h3,h4,h5⟩:=IS he
 obtain⟨w,ew,cv⟩:=r.get h2
 have hl:=r.length
 have hn:=Hl
 have fin:EP X aa σ Q w s:=⟨z,H,I,cv,q⟩
 exact subscriptTail_builtinR (x:=w) pl.typeIs slot_tuple_getitem.lookup
  (getItem_tuple (j:=j) (Q:=λr s'=>r=w/\EP X aa σ Q r s') pl (by omega) (by omega) (by rw[List.size_toArray, ←hl];exact h1) (by simpa using ew) ⟨rfl,fin⟩) hs
theorem Hu (its:List Value)(n j:Nat)(u:Value):Obj.mapSeq (·.setIfInBounds j u) {cls:=.type "list",data:=.seq its.toArray n}={cls:=.type "list",data:=.seq (its.set j u).toArray n}:=by
 simp[Obj.mapSeq]
theorem Inv.lst (I:Inv X aa σ H s)(h:H p=some (.lst xs)):
  ∃(its:List Value) (n:Nat),Yf xs its/\s.heap.get? p=some {cls:=.type "list",data:=.seq its.toArray n}/\xs.length<=sizeLine:=by
 obtain⟨z,its,n,r,e⟩:=I.hok p _ h
 exact⟨its,n,r,e,z⟩
theorem Inv.lstUpd (I:Inv X aa σ H s)(h:H p=some (.lst xs))
  (ho:s.heap.get? p=some {cls:=.type "list",data:=.seq its.toArray n})(hf:f {cls:=.type "list",data:=.seq its.toArray n}={cls:=.type "list",data:=.seq its'.toArray n'})(r:Yf ys its')(hz:ys.length<=sizeLine)(t:Nat):
  Inv X aa σ (upd H p (.lst ys)) {s with heap:=s.heap.update p f,toks:=t}:=by
 have e:(s.heap.update p f).get? p=some {cls:=.type "list",data:=.seq its'.toArray n'}:=by
  rw[Heap.get?_update_self f ho (by rw[hf]<;> rfl),hf]
 refine I.write (x:=p) (e:=p) (by rw[h];trivial) (.inl rfl) (λb u hb q=>(Heap.get?_update_other _ _ (Ne.symm hb)).trans q) ⟨_,e⟩ ?_
 exact⟨hz,its',n',r,e⟩
def NV:V->V->V->Hp->(Hp->Prop)->Prop:=λo i v H Q=>∃ p xs k j,o= .ref p/\i= .int k/\H p=some (.lst xs)/\ixN xs.length k=some j/\Q (upd H p (.lst (xs.set j v)))
theorem YH:Aj X NV:=by
 intro aa s σ H o i v ov iv u Q I ro ri rv h
 obtain⟨p,xs,k,j,rfl,rfl,hp,hj,q⟩:=h
 cases ro
 obtain⟨t,rfl⟩:=ri
 obtain⟨its,n,r,ho,hz⟩:=I.lst hp
 obtain⟨h1,h2,h3,h4⟩:=MW hj
 have hl:=r.length
 have hn:=Hl
 have I':Inv X aa σ (upd H p (.lst (xs.set j v))) {s with heap:=s.heap.update p (Obj.mapSeq (·.setIfInBounds j u))}:=
  I.lstUpd hp ho (Hu its n j u) (r.set rv j) (by rw[List.length_set];exact hz) s.toks
 by_cases h0:0<=k
 ·have hk:k.toNat=j:=by
   rw[seqIndex_of h0 h4] at h1
   exact Option.some.inj h1
  exact PySem.W.ki_setAt ho h0 (by omega) (by rw[List.size_toArray, ←hl];exact h4) (by rw[hk];exact⟨_,I',q⟩)
 ·have hk:(k+(its.toArray.size:Int)).toNat=j:=by
   rw[seqIndex_neg (by omega) h3] at h1
   rw[List.size_toArray, ←hl]
   exact Option.some.inj h1
  exact PySem.W.ki_setBack ho (by omega) (by rw[List.size_toArray, ←hl];exact h3) (by omega) (by rw[hk];exact⟨_,I',q⟩)
theorem U6 (lo hi:Option Int)(n:Nat):(sliceBounds lo hi none n).1=((HT.sIx n 0 lo:Nat):Int)/\(sliceBounds lo hi none n).2.1=((HT.sIx n n hi:Nat):Int)/\(sliceBounds lo hi none n).2.2=1:=by
 refine⟨?_,?_,rfl⟩
 ·cases lo with
  |none=>simp[sliceBounds,HT.sIx]
  |some i=>
   simp only[sliceBounds,HT.sIx,Option.getD_none,show(1:Int) > 0 by decide,if_true]
   by_cases h:i<0
   ·simp only[h,if_true]<;> omega
   ·simp only[h,if_false]<;> omega
 ·cases hi with
  |none=>simp[sliceBounds,HT.sIx]
  |some i=>
   simp only[sliceBounds,HT.sIx,Option.getD_none,show(1:Int) > 0 by decide,if_true]
   by_cases h:i<0
   ·simp only[h,if_true]<;> omega
   ·simp only[h,if_false]<;> omega
theorem Dq (its:List Value)(lo hi:Option Int):slicePick its.toArray lo hi none=((its.drop (HT.sIx its.length 0 lo)).take (HT.sIx its.length its.length hi-HT.sIx its.length 0 lo)).toArray:=by
 obtain⟨h1,h2,h3⟩:=U6 lo hi its.toArray.size
 unfold slicePick
 rw[h1,h2,h3]
 simp only[sliceRange_one,pick_run,List.size_toArray]<;> rfl
def T2 (K:W.Frag):V->Option Int->Option Int->Hp->VK->Prop:=λx lo hi H Q=>∃ a xs,x= .ref a/\SqL K H a xs/\∀p,H p=none->Q (.ref p) (upd H p (.lst (Oy xs lo hi)))
theorem RC:SlR X (T2 X.K):=by
 intro aa s σ H x v vl vu lo hi sl Q I rx hs pl pu h
 obtain⟨a,xs,rfl,hx,q⟩:=h
 cases rx
 obtain⟨its,r,ht,hz⟩:=I.list hx
 have aj:=r.length
 refine⟨"list",_,slot_list_getitem.lookup,ht.isList.typeIs,?_⟩
 refine wpAny_getItem_list_slice ht.isList hs pl pu .none (by simp) ?_ (by rw[List.size_toArray]<;> omega)
 rw[Dq, ←aj]
 refine⟨.ref s.heap.objs.size,_,I.laid (t':=s.toks) (o:=.lst (Oy xs lo hi)) (λb ob q=>Heap.get?_push_of_some _ q) (Nat.le_refl _) ?_,rfl,q _ (I.hok.fresh (Nat.le_refl _))⟩
 exact⟨Nat.le_trans (K1 xs lo hi) hz,_,0,(r.drop (HT.sIx xs.length 0 lo)).take (HT.sIx xs.length xs.length hi-HT.sIx xs.length 0 lo),Heap.get?_push_size _ rfl⟩
def G4:V->Bool
 | .non=>true
 | .bl _=>true
 | .int _=>true
 | .str _=>true
 |_=>false
def eqV:V->V->Bool
 | .non, .non=>true
 | .bl a, .bl b=>a==b
 | .bl a, .int b=>(if a then 1 else 0)==b
 | .int a, .bl b=>a==(if b then 1 else 0)
 | .int a, .int b=>a==b
 | .str a, .str b=>a==b
 |_,_=>false
theorem T3 {y x:V}(ry:Ya y u)(rx:Ya x v)(fy:G4 y=true)(fx:G4 x=true):SeqAt.EqAt A s u v (eqV y x):=by
 cases y with
 |non=>
  cases ry
  cases x with
  |non=>cases rx;exact SeqAt.EqAt.same _
  |bl b=>cases rx;exact SeqAt.EqAt.none_bool b
  |int b=>obtain⟨t,rfl⟩:=rx;exact SeqAt.EqAt.none_int b t
  |str b=>obtain⟨t,rfl⟩:=rx;exact SeqAt.EqAt.none_str b t
  |_=>exact absurd (show false=true from fx) Bool.false_ne_true
 |bl a=>
  cases ry
  cases x with
  |non=>cases rx;exact SeqAt.EqAt.bool_none a
  |bl b=>cases rx;exact SeqAt.EqAt.bool_bool a b
  |int b=>obtain⟨t,rfl⟩:=rx;exact SeqAt.EqAt.bool_int a b t
  |str b=>obtain⟨t,rfl⟩:=rx;exact SeqAt.EqAt.bool_str a b t
  |_=>exact absurd (show false=true from fx) Bool.false_ne_true
 |int a=>
  obtain⟨t',rfl⟩:=ry
  cases x with
  |non=>cases rx;exact SeqAt.EqAt.int_none a t'
  |bl b=>cases rx;exact SeqAt.EqAt.int_bool a t' b
  |int b=>obtain⟨t,rfl⟩:=rx;exact SeqAt.EqAt.int_int a t' b t
  |str b=>obtain⟨t,rfl⟩:=rx;exact SeqAt.EqAt.int_str a t' b t
  |_=>exact absurd (show false=true from fx) Bool.false_ne_true
 |str a=>
  obtain⟨t',rfl⟩:=ry
  cases x with
  |non=>cases rx;exact SeqAt.EqAt.str_none a t'
  |bl b=>cases rx;exact SeqAt.EqAt.str_bool a t' b
  |int b=>obtain⟨t,rfl⟩:=rx;exact SeqAt.EqAt.str_int a t' b t
  |str b=>obtain⟨t,rfl⟩:=rx;exact SeqAt.EqAt.str_str a t' b t
  |_=>exact absurd (show false=true from fx) Bool.false_ne_true
 |_=>exact absurd (show false=true from fy) Bool.false_ne_true
def eqU (x:V)(u:Value):Bool:=match u with
 | .none=>eqV .non x
 | .bool b=>eqV (.bl b) x
 | .int i _=>eqV (.int i) x
 | .str z _=>eqV (.str z) x
 |_=>false
theorem O7 {x y:V}(r:Ya y u)(f:G4 y=true):eqU x u=eqV y x:=by
 cases y with
 |non=>cases r;rfl
 |bl b=>cases r;rfl
 |int i=>obtain⟨t,rfl⟩:=r;rfl
 |str z=>obtain⟨t,rfl⟩:=r;rfl
 |_=>exact absurd (show false=true from f) Bool.false_ne_true
theorem K3 {x:V}:∀{xs:List V}{us:List Value},Yf xs us->xs.all G4=true->us.any (eqU x)=xs.any λy=>eqV y x
 |_,_, .nil,_=>rfl
 |y::xs,u::us, .cons r t,f=>by
  rw[List.all_cons,Bool.and_eq_true] at f
  rw[List.any_cons,List.any_cons,O7 r f.1,K3 t f.2]
theorem V3 {x:V}(rx:Ya x v)(fx:G4 x=true):∀{xs:List V}{us:List Value},Yf xs us->xs.all G4=true->∀u∈us,SeqAt.EqAt A s u v (eqU x u)
 |_,_, .nil,_=>λu hu=>by cases hu
 |y::xs,u::us, .cons r t,f=>λu' hu=>by
  rw[List.all_cons,Bool.and_eq_true] at f
  rcases List.mem_cons.mp hu with rfl |hu
  ·rw[O7 r f.1];exact T3 r rx f.1 fx
  ·exact V3 rx fx t f.2 u' hu
def inV (x:V)(xs:List V):Bool:=xs.any λy=>eqV y x
def rIn (K:W.Frag)(neg:Bool):R2:=λx y H Q=>∃ p xs,y= .ref p/\(SqL K H p xs∨SqT K H p xs)/\G4 x=true/\xs.all G4=true/\Q (.bl (if neg then !inV x xs else inV x xs)) H
theorem Gp:OpR X (compareOp .In) (rIn X.K false):=by
 intro aa s σ H x y v u Q I rx ry h
 obtain⟨p,xs,rfl,hq,fx,fs,q⟩:=h
 cases ry
 rcases hq with hq |hq
 ·obtain⟨its,r,pl,hz⟩:=I.list hq
  refine SeqAt.in_listAt (eqU x) pl.isList (λw hw=>V3 rx fx r fs w (by simpa using hw)) ⟨.bl _,H,I,rfl,?_⟩
  rw[show its.toArray.any (eqU x)=its.any (eqU x) by simp,K3 r fs]
  exact q
 ·obtain⟨its,r,pl,hz⟩:=I.tuple hq
  refine SeqAt.in_tupleAt (eqU x) pl (λw hw=>V3 rx fx r fs w (by simpa using hw)) ⟨.bl _,H,I,rfl,?_⟩
  rw[show its.toArray.any (eqU x)=its.any (eqU x) by simp,K3 r fs]
  exact q
theorem Q7:OpR X (compareOp .NotIn) (rIn X.K true):=by
 intro aa s σ H x y v u Q I rx ry h
 obtain⟨p,xs,rfl,hq,fx,fs,q⟩:=h
 cases ry
 rcases hq with hq |hq
 ·obtain⟨its,r,pl,hz⟩:=I.list hq
  refine SeqAt.notIn_listAt (eqU x) pl.isList (λw hw=>V3 rx fx r fs w (by simpa using hw)) ⟨.bl _,H,I,rfl,?_⟩
  rw[show its.toArray.any (eqU x)=its.any (eqU x) by simp,K3 r fs]
  exact q
 ·obtain⟨its,r,pl,hz⟩:=I.tuple hq
  refine SeqAt.notIn_tupleAt (eqU x) pl (λw hw=>V3 rx fx r fs w (by simpa using hw)) ⟨.bl _,H,I,rfl,?_⟩
  rw[show its.toArray.any (eqU x)=its.any (eqU x) by simp,K3 r fs]
  exact q
theorem Bf:ZZ X (.builtin "len") (λxs H Q=>∃ p ys,xs=[.ref p]/\(SqL X.K H p ys∨SqT X.K H p ys)/\Q (.int ys.length) H):=by
 intro aa s σ H xs us Q I r h
 obtain⟨p,ys,rfl,hq,q⟩:=h
 obtain⟨u,rfl,rx⟩:=VD r
 cases rx
 have hn:=Hl
 rcases hq with hq |hq
 ·obtain⟨its,r',pl,hz⟩:=I.list hq
  have aj:=r'.length
  exact Calls.call_len_list pl.isList (by simp only[List.size_toArray]<;> omega) ⟨.int ys.length,H,I.tok _,⟨s.toks+1,by rw[List.size_toArray,aj]⟩,q⟩
 ·obtain⟨its,r',pl,hz⟩:=I.tuple hq
  have aj:=r'.length
  exact len_tuple pl (by simp only[List.size_toArray]<;> omega) ⟨.int ys.length,H,I.tok _,⟨s.toks+1,by rw[List.size_toArray,aj]⟩,q⟩
theorem Bg:ZZ X (.type "list") (λxs H Q=>∃ p ys,xs=[.ref p]/\(SqL X.K H p ys∨SqT X.K H p ys)/\∀l,H l=none->Q (.ref l) (upd H l (.lst ys))):=by
 intro aa s σ H xs us Q I r h
 obtain⟨p,ys,rfl,hq,q⟩:=h
 obtain⟨u,rfl,rx⟩:=VD r
 cases rx
 have fin:∀(its:List Value),Yf ys its->ys.length<=sizeLine->∀(h':Heap) (c':Nat),(∀b o',s.heap.get? b=some o'->h'.get? b=some o')->
   h'.get? s.heap.objs.size=some {cls:=.type "list",dict:=none,data:=.seq its.toArray c',slots:=#[]}->EP X aa σ Q (.ref s.heap.objs.size) {s with heap:=h'}:=λits r' hz h' c' kp e=>
  ⟨.ref s.heap.objs.size,_,I.laid (t':=s.toks) kp (Nat.le_refl _) (show YE X.prog X.w _ h' _ (.lst ys) from⟨hz,its,c',r',e⟩),rfl,q _ (I.hok.fresh (Nat.le_refl _))⟩
 rcases hq with hq |hq
 ·obtain⟨its,r',pl,hz⟩:=I.list hq
  have aj:=r'.length
  obtain⟨o,ho,hc,n,hd⟩:=pl.isList
  exact call_list_seq p (.inl rfl) ho hc hd (λh' c' kp e=>fin its r' hz h' c' kp e) (by simp only[List.size_toArray]<;> omega)
 ·obtain⟨its,r',pl,hz⟩:=I.tuple hq
  have aj:=r'.length
  obtain⟨o,ho,hc,n,hd⟩:=pl
  exact call_list_seq p (.inr rfl) ho hc hd (λh' c' kp e=>fin its r' hz h' c' kp e) (by simp only[List.size_toArray]<;> omega)
theorem DX:ZZ X (.type "tuple") (λxs H Q=>∃ p ys,xs=[.ref p]/\((SqL X.K H p ys/\∀l,H l=none->Q (.ref l) (upd H l (.tup ys)))∨(SqT X.K H p ys/\Q (.ref p) H))):=by
 intro aa s σ H xs us Q I r h
 obtain⟨p,ys,rfl,h⟩:=h
 obtain⟨u,rfl,rx⟩:=VD r
 cases rx
 rcases h with⟨hq,q⟩ | ⟨hq,q⟩
 ·obtain⟨its,r',pl,hz⟩:=I.list hq
  have aj:=r'.length
  refine call_tuple_list pl.isList (λh' kp=>?_) (by simp only[List.size_toArray]<;> omega)
  have I1:Inv X aa σ H {s with heap:=h'}:=I.kept (t':=s.toks) kp
  have I2:Inv X aa σ (upd H h'.objs.size (.tup ys)) {s with heap:=h'.push {cls:=.type "tuple",data:=.seq its.toArray}}:=
   I1.laid (t':=s.toks) (λb o e=>Heap.get?_push_of_some _ e) (Nat.le_refl _) (show YE X.prog X.w _ _ _ (.tup ys) from⟨hz,its,r',V5.new _ _⟩)
  exact⟨.ref h'.objs.size,_,I2,rfl,q _ (I1.hok.fresh (Nat.le_refl _))⟩
 ·obtain⟨its,r',pl,hz⟩:=I.tuple hq
  exact call_tuple_same pl ⟨.ref p,H,I,rfl,q⟩
def tyV (K:W.Frag)(T:String)(x:V)(H:Hp):Prop:=match x with
 | .str _=>T= "str"
 | .int _=>T= "int"
 | .ref p=>(T= "list" /\∃xs,SqL K H p xs)∨(T= "tuple" /\∃o,K.lookup p=some o/\o.cls= .type "tuple" /\o.dict=none)∨
   (T= "dict" /\((∃kvs,H p=some (.dK kvs))∨∃kvs,H p=some (.dT kvs)))∨(T= "set" /\∃S n,H p=some (.set S n))
 |_=>False
theorem S4 {x:V}(I:Inv X aa σ H s)(r:Ya x v)(ty:tyV X.K T x H):
  s.TypeIs v T/\∀a,v= .ref a->∃ob,s.heap.get? a=some ob/\ob.dict=none:=by
 cases x with
 |str z=>
  obtain⟨t,rfl⟩:=r
  cases(show T= "str" from ty)
  exact⟨typeIs_str s z t,λ_ e=>nomatch e⟩
 |int i=>
  obtain⟨t,rfl⟩:=r
  cases(show T= "int" from ty)
  exact⟨typeIs_int s i t,λ_ e=>nomatch e⟩
 |ref p=>
  cases r
  rcases ty with⟨rfl,xs,hq⟩ | ⟨rfl,o,hk,hc,hd⟩ | ⟨rfl,hk⟩ | ⟨rfl,S,n,hk⟩
  ·obtain⟨its,_,pl,_⟩:=I.list hq
   refine⟨pl.isList.typeIs,λa e=>?_⟩
   cases e
   obtain⟨o,n,e,c,hd,_⟩:=pl
   exact⟨o,e,hd⟩
  ·refine⟨⟨o,I.kIn p o hk,hc⟩,λa e=>?_⟩
   cases e
   exact⟨o,I.kIn _ o hk,hd⟩
  ·have z:∃o,s.heap.get? p=some o/\o.ExactDict:=by
    rcases hk with⟨kvs,hk⟩ | ⟨kvs,hk⟩
    ·obtain⟨_,_,_,_,o,_,_,e,ex,_⟩:=I.hok p _ hk
     exact⟨o,e,ex⟩
    ·obtain⟨_,_,_,_,o,_,_,e,ex,_⟩:=I.hok p _ hk
     exact⟨o,e,ex⟩
   obtain⟨o,e,ex⟩:=z
   refine⟨⟨o,e,ex.1⟩,λa e2=>?_⟩
   cases e2
   exact⟨o,e,ex.2.1⟩
  ·obtain⟨o,_,_,_,e,ex,_⟩:=I.hok p _ hk
   refine⟨⟨o,e,ex.1⟩,λa e2=>?_⟩
   cases e2
   exact⟨o,e,ex.2.1⟩
 |_=>exact False.elim ty
def tBM (K:W.Frag)(T:String)(r:V->List V->Hp->VK->Prop)(to:TE)(t:TA):TE:=λσ H Q=>to σ H λx H1=>tyV K T x H1/\t σ H1 λxs H2=>r x xs H2 Q
variable {o:Expr}{to:TE}{t:TA}{name:Str}{aT aF:Pos}{T id:String}{r:V->List V->Hp->VK->Prop}
theorem VS (pa:PlainAttrs T)(slot:Slot T name id)(hty:typeOf (.builtin id)=pure (.type "method_descriptor"))(hm:MtR X id r)(ho:PE X o to)(ha:PA X (e::es) t)
  (d3:attributeBase o name X.env (eval o X.env)=eval o X.env:=by rfl)
  (hfew:((backTo aF (starEach (e::es) X.env)).all (λx=>!x.1)&&(backToKw aF (keywordEach [] X.env)).all (λx=>x.1.isSome)
   &&decide ((e::es).length+([]:List Keyword).length+(if([]:List Keyword).isEmpty then 0 else 1)<30))=true:=by rfl)
  (d6:(aT.endLine==aF.line)=true:=by rfl)(hs:starEach (e::es) X.env=(false,eval e X.env)::starEach es X.env:=by rfl)(fJ:(backTo aF (starEach es X.env)).any (·.1)=false:=by rfl):
  PE X (.Call (.Attribute o name aT) (e::es) [] aF) (tBM X.K T r to t):=by
 intro aa s σ H Q I h
 refine wpAny_Call_method_late d3 hfew d6 rfl (thn (ho aa s σ H _ I h) λv s1 r9=>?_)
 obtain⟨x,H1,I1,r1,ty,q1⟩:=r9
 obtain⟨h1,h2⟩:=S4 I1 r1 ty
 refine⟨T,id,pa,slot,hty,h1,h2,?_⟩
 have hA:=ha aF aa s1 σ H1 _ I1 q1
 rw[hs] at hA⊢
 refine Calls.callWith_builtin (by show(false || (backTo aF (starEach es X.env)).any (·.1))=false;rw[fJ]<;> rfl) (Calls.evalArgs_plain ?_)
 exact thn hA λus s2 r9=>by obtain⟨vs,H2,I2,r2,q2⟩:=r9;exact hm aa s2 σ H2 x vs v us Q I2 r1 r2 q2
/- xs.append(e), list.index on a module's tuple .. are MtR facts of 06m -/
end
def MtM (X:Cx)(id:String)(r:V->List V->Hp->VK->Prop):Prop:=
 ∀(aa:List (Addr×Obj)) (s:Shared) (σ:St) (H:Hp) (x:V) (xs:List V) (v:Value) (us:List Value) (Q:VK),Inv X aa σ H s->Ya x v->Yf xs us->r x xs H Q->
  wpAny (model X.prog X.w) X.A (call (.builtin id) (v::us)) (EP X aa σ Q) X.xe s
theorem Yf.one:∀{x:V}{us:List Value},Yf [x] us->∃u,us=[u]/\Ya x u:=fun {x us} h=>by
 cases h with
 |cons r t=>
  cases t
  exact⟨_,rfl,r⟩
theorem Yf.two:∀{x y:V}{us:List Value},Yf [x,y] us->∃u v,us=[u,v]/\Ya x u/\Ya y v:=fun {x y us} h=>by
 cases h with
 |cons r t=>
  cases t with
  |cons q t=>
   cases t
   exact⟨_,_,rfl,r,q⟩
theorem Yf.eraseIdx:∀{xs:List V}{us:List Value} (i:Nat),Yf xs us->Yf (xs.eraseIdx i) (us.eraseIdx i)
 |_,_,_, .nil=>.nil
 |_,_,0, .cons _ t=>t
 |_,_,i+1, .cons r t=>.cons r (Yf.eraseIdx i t)
theorem Yf.reverse (h:Yf xs us):Yf xs.reverse us.reverse:=by
 induction h with
 |nil=>exact .nil
 |cons r t ih=>rw[List.reverse_cons,List.reverse_cons];exact Yf.append ih (.cons r .nil)
theorem Yf.rep (h:Yf xs us):∀k:Nat,Yf (List.replicate k xs).flatten (List.replicate k us).flatten
 |0=>.nil
 |k+1=>by
  rw[List.replicate_succ,List.replicate_succ,List.flatten_cons,List.flatten_cons]
  exact Yf.append h (Yf.rep h k)
theorem C8:∀(l:List α) (i:Nat),(l.eraseIdx i).length<=l.length
 | [],_=>Nat.le_refl _
 |_::_,0=>Nat.le_succ _
 |_::r,i+1=>Nat.succ_le_succ (C8 r i)
theorem Co (its:List Value):∀(k:Nat) (acc:List Value),
  List.foldl (λx1 x2=>x1++x2) acc.toArray (List.replicate k its.toArray)=(acc++(List.replicate k its).flatten).toArray
 |0,acc=>by simp
 |k+1,acc=>by
  have e:acc.toArray++its.toArray=(acc++its).toArray:=by simp
  have e2:(acc++its)++(List.replicate k its).flatten=acc++(List.replicate (k+1) its).flatten:=by
   rw[List.replicate_succ,List.flatten_cons,List.append_assoc]
  rw[←e2, ←Co its k (acc++its), ←e,List.replicate_succ,List.foldl_cons]
section
variable {l:Addr}{ys zs:List V}
theorem Inv.lset {t':Nat}(I:Inv X aa σ H s)(hH:H l=some (.lst xs))
  (e:s.heap.get? l=some {cls:=.type "list",data:=.seq its.toArray n})(hf:f its.toArray=its'.toArray)(hv:Yf ys its')(hz:ys.length<=sizeLine):
  Inv X aa σ (upd H l (.lst ys)) {s with heap:=s.heap.update l (Obj.mapSeq f),toks:=t'}:=by
 have q:=PySem.IsL.update e f
 rw[hf] at q
 refine I.write (x:=l) (e:=l) (by rw[hH];exact trivial) (.inl rfl) (λb' u hb hu=>(Heap.get?_update_other s.heap (Obj.mapSeq f) (Ne.symm hb)).trans hu) ⟨_,q⟩ ?_
 exact⟨hz,its',_,hv,q⟩
theorem Inv.lnew {t':Nat}(I:Inv X aa σ H s)(hv:Yf ys its)(hz:ys.length<=sizeLine):
  Inv X aa σ (upd H s.heap.objs.size (.lst ys)) {s with heap:=s.heap.push {cls:=.type "list",data:=.seq its.toArray},toks:=t'}:=
 I.laid (λ_ _ q=>Heap.get?_push_of_some _ q) (Nat.le_refl _) ⟨hz,its,0,hv,Heap.get?_push_size _ rfl⟩
theorem Inv.fresh (I:Inv X aa σ H s):H s.heap.objs.size=none:=I.hok.fresh (Nat.le_refl _)
theorem Inv.lstM (I:Inv X aa σ H s)(hH:H l=some (.lst xs)):xs.length<=sizeLine/\∃(its:List Value) (n:Nat),Yf xs its/\xs.length=its.length/\s.heap.get? l=some {cls:=.type "list",data:=.seq its.toArray n}:=by
 obtain⟨z,its,n,r,e⟩:=I.hok l _ hH
 exact⟨z,its,n,r,r.length,e⟩
theorem Ky (h:n<=sizeLine):Builtin.List.listTooLong n=false:=by
 unfold Builtin.List.listTooLong
 exact decide_eq_false (by omega)
end
section
def FK:V->List V->Hp->VK->Prop:=λx vs H Q=>∃ l xs y,x= .ref l/\vs=[y]/\H l=some (.lst xs)/\xs.length<sizeLine/\Q .non (upd H l (.lst (xs++[y])))
theorem Yx:MtM X "list.append" FK:=by
 intro aa s σ H x vs v us Q I rx rv h
 obtain⟨l,xs,y,rfl,rfl,hH,hz,q⟩:=h
 cases rx
 obtain⟨u,rfl,ru⟩:=rv.one
 obtain⟨z,its,n,r,hl,e⟩:=I.lstM hH
 refine call_meets F.slot_list_append ⟨_,e,rfl⟩ F.entry_list_append (F.args_list_append_2 _ _) (PySem.list_append l its.toArray n u (by rw[List.size_toArray];omega)) ⟨e,?_⟩
 refine⟨.non,_,I.lset (its':=its++[u]) hH e (by simp) (r.append (.cons ru .nil)) ?_,rfl,q⟩
 rw[List.length_append,List.length_singleton]
 omega
def BX:V->List V->Hp->VK->Prop:=λx vs H Q=>∃ l b xs zs,x= .ref l/\vs=[.ref b]/\H l=some (.lst xs)/\H b=some (.lst zs)/\xs.length+zs.length<=sizeLine/\Q .non (upd H l (.lst (xs++zs)))
theorem MA:MtM X "list.extend" BX:=by
 intro aa s σ H x vs v us Q I rx rv h
 obtain⟨l,b,xs,zs,rfl,rfl,hH,hB,hz,q⟩:=h
 cases rx
 obtain⟨u,rfl,ru⟩:=rv.one
 cases ru
 obtain⟨z,its,n,r,hl,e⟩:=I.lstM hH
 obtain⟨z2,aB,n2,r2,ft,e2⟩:=I.lstM hB
 have hsz:its.toArray.size+aB.toArray.size<=sizeLine:=by rw[List.size_toArray,List.size_toArray];omega
 have d7:¬(!its.toArray.isEmpty&&Builtin.List.listTooLong (its.toArray.size+aB.toArray.size))=true:=by
  rw[Ky hsz,Bool.and_false]
  exact Bool.false_ne_true
 refine call_meets F.slot_list_extend ⟨_,e,rfl⟩ F.entry_list_extend (F.args_list_extend_2 _ _)
  (AutoSeq1.list_extend_list_list_0 l its.toArray n b aB.toArray n2 d7 (by rw[List.size_toArray];omega) (by omega)) ⟨e,e2,?_⟩
 refine⟨.non,_,I.lset (its':=its++aB) hH e (by simp) (r.append r2) ?_,rfl,q⟩
 rw[List.length_append]
 omega
def Hj:V->List V->Hp->VK->Prop:=λx vs H Q=>∃ l xs i k y,x= .ref l/\vs=[.int i]/\H l=some (.lst xs)/\ -(2^63)<=i/\i<2^63/\seqIndex? i xs.length=some k/\xs[k]?=some y/\Q y (upd H l (.lst (xs.eraseIdx k)))
theorem Nl:MtM X "list.pop" Hj:=by
 intro aa s σ H x vs v us Q I rx rv h
 obtain⟨l,xs,i,k,y,rfl,rfl,hH,h1,h2,hk,hy,q⟩:=h
 cases rx
 obtain⟨u,rfl,ru⟩:=rv.one
 obtain⟨t,rfl⟩:=ru
 obtain⟨z,its,n,r,hl,e⟩:=I.lstM hH
 obtain⟨w,hw,cv⟩:=r.get hy
 refine call_meets F.slot_list_pop ⟨_,e,rfl⟩ F.entry_list_pop (F.args_list_pop_2 _ _)
  (MeetsSeq.list_pop_at l its.toArray n i t k w (fitsIndex_both h1 h2) (by rw[List.size_toArray, ←hl];exact hk) (by rw[←Array.getElem?_toList];exact hw) (by rw[List.size_toArray];omega)) ⟨e,?_⟩
 refine⟨y,_,I.lset (its':=its.eraseIdx k) hH e ?_ (r.eraseIdx k) ?_,cv,q⟩
 ·show its.toArray.eraseIdxIfInBounds k=(its.eraseIdx k).toArray
  rw[List.eraseIdxIfInBounds_toArray]
 ·have:=C8 xs k
  omega
def Wk:R2:=λx y H Q=>∃ l b xs zs,x= .ref l/\y= .ref b/\H l=some (.lst xs)/\H b=some (.lst zs)/\xs.length+zs.length<=sizeLine/\∀p,H p=none->Q (.ref p) (upd H p (.lst (xs++zs)))
theorem Z2:OpR X (binaryOp .Add) Wk:=by
 intro aa s σ H x y v u Q I rx ry h
 obtain⟨l,b,xs,zs,rfl,rfl,hH,hB,hz,q⟩:=h
 cases rx
 cases ry
 obtain⟨z,its,n,r,hl,e⟩:=I.lstM hH
 obtain⟨z2,aB,n2,r2,ft,e2⟩:=I.lstM hB
 refine PySem.P.add_list e e2 ?_ (by rw[List.size_toArray,List.size_toArray];omega)
 have ea:its.toArray++aB.toArray=(its++aB).toArray:=by simp
 rw[ea]
 exact⟨.ref _,_,I.lnew (t':=s.toks) (r.append r2) (by rw[List.length_append];omega),rfl,q _ I.fresh⟩
def WS:R2:=λx y H Q=>∃ l k xs,x= .ref l/\y= .int k/\H l=some (.lst xs)/\ -(2^63)<=k/\k<2^63/\xs.length*k.toNat<=sizeLine/\
 ∀p,H p=none->Q (.ref p) (upd H p (.lst (List.replicate k.toNat xs).flatten))
theorem RE (xs:List α)(k:Nat):(List.replicate k xs).flatten.length=k*xs.length:=by
 induction k with
 |zero=>simp
 |succ k ih=>rw[List.replicate_succ,List.flatten_cons,List.length_append,ih,Nat.succ_mul,Nat.add_comm]
theorem Mp:OpR X (binaryOp .Mult) WS:=by
 intro aa s σ H x y v u Q I rx ry h
 obtain⟨l,k,xs,rfl,rfl,hH,h1,h2,hz,q⟩:=h
 cases rx
 obtain⟨t,rfl⟩:=ry
 obtain⟨z,its,n,r,hl,e⟩:=I.lstM hH
 have aj:its.toArray.size*k.toNat<=sizeLine:=by rw[List.size_toArray, ←hl];exact hz
 have hcap:¬its.toArray.size*k.toNat > (2^63-1)/8:=by
  have:(sizeLine:Nat)<=(2^63-1)/8:=by decide
  omega
 have d8:¬(!Builtin.List.listFitsIndex k)=true:=by
  rw[fitsIndex_both h1 h2]
  exact Bool.false_ne_true
 have d7:¬Builtin.List.listTooLong (its.toArray.size*k.toNat)=true:=by
  rw[Ky aj]
  exact Bool.false_ne_true
 have d9:List.foldl (λx1 x2=>x1++x2) #[] (List.replicate (if its.toArray.isEmpty=true then 0 else k.toNat) its.toArray)=(List.replicate k.toNat its).flatten.toArray:=by
  have f0:∀m:Nat,List.foldl (λx1 x2=>x1++x2) #[] (List.replicate m its.toArray)=(List.replicate m its).flatten.toArray:=λm=>by
   have:=Co its m []
   rw[List.nil_append] at this
   exact this
  rw[f0]
  cases its with
  |nil=>simp
  |cons a r'=>rw[if_neg (by simp)]
 refine wpAny_binaryOp_repeat_ref (T:="list") (U:="int") (by decide) ⟨_,e,rfl⟩ (λs'=>typeIs_int s' k t) noFill_list_mul F.fills_int_mul F.slot_int_rmul repeat_list F.slot_int_index.lookup
  (call_meets F.slot_int_rmul (typeIs_int s k t) F.entry_int_rmul (F.args_int_rmul_2 _ _) (int___rmul___int_list k t l its.toArray n)
   ⟨e,rfl,⟨_,e,rfl⟩,call_meets F.slot_list_mul ⟨_,e,rfl⟩ F.entry_list_mul (F.args_list_mul_2 _ _) (AutoListH.list___mul___list_int_3 l its.toArray n k t d8 hcap d7) ⟨e,?_⟩⟩)
 rw[d9]
 exact⟨.ref _,_,I.lnew (t':=s.toks) (r.rep k.toNat) (by rw[RE,Nat.mul_comm];exact hz),rfl,q _ I.fresh⟩
end
section
theorem IU (its aB:List Value)(a c:Nat):its.toArray.extract 0 a++aB.toArray++its.toArray.extract c its.toArray.size=(its.take a++aB++its.drop c).toArray:=by
  apply Array.toList_inj.mp
  first
    | (simp
       exact List.take_of_length_le (by simp))
    |simp[List.take_of_length_le]
    |simp
end
section
end
end L2
namespace Att
open PySem PySem.W PySem.Calls PyProof.Rows
theorem GG {P:Params}:∀(ns:List Int) (vs:List Value),WellAll P h vs (ns.map WData.int)->IntsAre vs ns:=by
 intro ns
 induction ns with
 |nil=>
  intro vs w
  rw[List.map_nil] at w
  cases w
  exact .nil
 |cons n ns ih=>
  intro vs w
  rw[List.map_cons] at w
  cases w with
  |cons a b=>
   cases a
   exact .cons _ _ (ih _ b)
theorem Lq {l:OpenLaw}(hn:l.most=some n){P:Params}{h:Heap}{args:List WData}{fK:List Value}
  (eX:l.row.toRowW.claim.pre args=true)(hwl:WellAll P h fK args):
  ∃a vs ns,fK=[Value.ref a]/\args=[WData.list (ns.map WData.int)]/\h.get? a=some {cls:=.type "list",data:=.seq vs.toArray}/\IntsAre vs ns/\ns.length<=n:=by
 have hsh:WShape.hasAll [] args [.list .int]=true:=(pre_splitW eX).1
 have hc:l.pre.holds [] {args:=args}=true:=(pre_splitW eX).2
 obtain⟨d,r,rfl,h1,h2⟩:=hasAllW_cons hsh
 obtain rfl:=hasAllW_nil h2
 obtain⟨xs,rfl,h3⟩:=hasW_list h1
 obtain⟨ns,rfl⟩:=items_int h3
 have aj:ns.length<=n:=by
  unfold OpenLaw.pre at hc
  have h4:(WTm.not (.lt (.lit (.int (n:Int))) (.len (.arg 0)))).holds [] {args:=[.list (ns.map .int)]}=true:=by
   have h4:=(holds_andW hc).1
   rw[hn] at h4
   exact h4
  have h5:=condW_of h4 (w_not (w_lt w_lit (w_len_list (w_arg rfl))))
  rw[List.length_map] at h5
  refine Nat.le_of_not_lt λq=>?_
  have q':(n:Int)<((ns.length:Nat):Int):=by omega
  first
   | (rw[decide_eq_true q'] at h5;exact absurd h5 (by decide))
   | (simp at h5;omega)
 cases hwl with
 |cons w1 w2=>
  cases w2
  cases w1 with
  |list ho aP=>exact⟨_,_,ns,rfl,rfl,ho,GG ns _ aP,aj⟩
theorem LA (l:OpenLaw)(args:List WData):l.row.toRowW.claim.post args (.bool true) args=true:=
 postW_of (r:=l.row.toRowW) (X:=(true==true))
  (show WShape.has [] (.bool true) .bool=true by first |rfl |decide |simp[WShape.has,WShape.arms,WShape.armsAll])
  (show(WTm.eq .res (.lit (.bool true))).value [] {args:=args,res:=some (.bool true),after:=args}=some (.bool (true==true)) from w_eq_bool (w_res rfl) w_lit) rfl
theorem attach_call {l:OpenLaw}{q:Program}{cm:List Str}{XP:(Str->Option Value)->Heap->Prop}{YP:World->Heap->Prop}{d:DefRec}
  (hn:l.most=some n)(gG:d.params.defaults=[])
  (call:∀(w:World) (s₀ s₁:Shared) (mg mb:Str->Option Value) (fa:Addr) (o:Obj) (pm cd doc:Value) (a:Addr) (vs:List Value) (ns:List Int),
   Ground q cm [] XP w s₀ mg mb s₁.heap->YP w s₁.heap->
   s₁.heap.get? fa=some o->o.data= .func (docDef d.name d.params d.body d.scope pm cd doc)->s₁.heap.CodeRec cd d.name->mg d.name=some (.ref fa)->
   s₁.heap.get? a=some {cls:=.type "list",data:=.seq vs.toArray}->IntsAre vs ns->ns.length<=n->s₁.gens= #[]->
   codeAny (model l.prog w) callerA (.call (.ref fa) ⟨[.ref a],[]⟩) (λr s'=>r= .ok (.ret (.bool true))/\OldK s₁.heap s'.heap/\s'.os=s₁.os/\AllBare s'.gens) s₁):
  WalkO q cm XP YP l.row.toRowW d [] (λf vs=>PySem.call f vs):=by
 intro w s₀ s₁ mg mb G Y fa o pm cd doc dV kV ho hd dW hD hmg hg args fK as eX hlay hrd hwl hlo
 obtain rfl:dV= .none:=Dflts.none hD gG
 obtain rfl:kV= .none:=Dflts.noKw hD
 obtain⟨a,vs,ns,rfl,rfl,fL,eA,aj⟩:=Lq hn eX hwl
 refine enter_call (codeAny_mono (call w s₀ s₁ mg mb fa o pm cd doc a vs ns G Y ho (fd_plain hd) dW hmg fL eA aj hg) λr s' hq=>?_)
 obtain⟨rfl,h2,h3,h4⟩:=hq
 exact⟨.inl ⟨.bool true, .bool true,[],rfl,λ_=>rfl, .bool true,LA l _,λ_=>⟨List.Pairwise.nil,λ_ hm=>(nomatch hm)⟩⟩,h2,h3,h4⟩
section
variable {K:Frag}
def Ad (h:Heap)(L d:Addr):List (Addr×Obj):=(List.range h.objs.size).filterMap λa=>if a=L∨a=d then none else(h.get? a).map λo=>(a,o)
end
end Att
namespace L2
open PySem PySem.Spec PyProof.Rows
theorem GU:∀{vs:List Value}{ns:List Int},IntsAre vs ns->Yf (ns.map V.int) vs:=λp=>by
 induction p with
 |nil=>exact .nil
 |cons n t _ ih=>exact .cons ⟨t,rfl⟩ ih
def W4 (H:Hp):Prop:=∀ b,H b=none∨∃o xs,H b=some (.frz o (.lst xs))
theorem Nr
  (KX:K.In s₁.heap)(dP:s₁.heap.Ns mainGlobals mg)(hb:s₁.heap.Ns builtinsNs mb)(hbb:∀x:Str,x≠ "__name__" ->mb x=bootBuiltins x)(hlim:s₁.heap.NoLimit)(hg:s₁.gens= #[])
  (ha:s₁.heap.get? a=some {cls:=.type "list",data:=.seq vs.toArray})(hi:IntsAre vs ns)(hl:ns.length<=sizeLine)(hr:Room k callerA)
  (F:∀base:Heap,K.In base->base.Ns mainGlobals mg->FnOk P w K mg base CX k fa fd [x] sp)(gH:∀(s:Shared) (u:Value),BindsTo s fd ⟨[u],[]⟩ [(x,u)])
  (cK:∀H:Hp,W4 H->SqL K H a (ns.map V.int)->sp [.ref a] H (λv _=>v= .bl true) λ_ _ _=>False)
  (hCX:∀H e s',CX [] H s₁ (λ_ _ _=>False) e s'->False):
  codeAny (model P w) callerA (.call (.ref fa) ⟨[.ref a],[]⟩) (λr s'=>r= .ok (.ret (.bool true))/\OldK s₁.heap s'.heap/\s'.os=s₁.os/\AllBare s'.gens) s₁:=by
 have rv:=GU hi
 have lenV:=hi.length
 -- from an abstract heap in which nothing but df script may be cr
 have gI:∀H:Hp,W4 H->SqL K H a (ns.map V.int)->HOk P w H s₁.heap->(∀b,H b≠none->b=a)->(H a≠none->K.lookup a=none)->
   codeAny (model P w) callerA (.call (.ref fa) ⟨[.ref a],[]⟩) (λr s'=>r= .ok (.ret (.bool true))/\OldK s₁.heap s'.heap/\s'.os=s₁.os/\AllBare s'.gens) s₁:=by
  intro H hO hS hok hA hK
  have dl:∀{b:Addr}{o:Obj},s₁.heap.get? b=some o->H b=none->(NH s₁.heap H).get? b=some o:=λe n=>Nu e n
  have gF:∀{b:Addr}{o:Obj}{es:Array DictEntry}{ep:Nat},s₁.heap.get? b=some o->o.data= .dict es ep->H b=none:=fun {b o es ep} e d=>by
   cases q:H b with
   |none=>rfl
   |some u=>
    have e':b=a:=hA b (by rw[q];simp)
    subst e'
    rw[ha] at e;cases e
    have d':Data.seq vs.toArray _=Data.dict es ep:=d
    cases d'
  have nsK:∀{b:Addr}{m:Str->Option Value},s₁.heap.Ns b m->(NH s₁.heap H).Ns b m:=fun {b m} ⟨o,es,ep,e,d,r⟩=>⟨o,es,ep,dl e (gF e d),d,r⟩
  have hKb:K.In (NH s₁.heap H):=λb o e=>dl (KX b o e) (by
   cases q:H b with
   |none=>rfl
   |some u=>
    have e':b=a:=hA b (by rw[q];simp)
    subst e'
    rw[hK (by rw[q];simp)] at e;cases e)
  have hM:Mod K mg (NH s₁.heap H):=⟨hKb,nsK dP,⟨mb,nsK hb,hbb⟩,let ⟨mc,h1,h2⟩:=hlim;⟨mc,nsK h1,h2⟩⟩
  have e0:Env0 P w K mg (NH s₁.heap H) callerA [] s₁ H:=⟨rfl,hM,λb o e=>RH e,Nat.le_of_eq (LP _ _),trivial,λb hb=>absurd (show b∈([]:List Addr) from hb) (by simp),hok, .of_eq hg⟩
  refine codeAny_mono ((F _ hKb (nsK dP)).run callerA [] s₁ H ⟨[.ref a],[]⟩ [.ref a] [.ref a] _ _ hr e0 (gH s₁ (.ref a)) (.cons rfl .nil) (cK H hO hS)) λr s' h=>?_
  cases r with
  |error e=>exact(hCX H e s' h).elim
  |ok fl=>
   cases fl with
   |next=>exact False.elim h
   |brk=>exact False.elim h
   |cont=>exact False.elim h
   |ret u=>
    obtain⟨v,H',os,bare,un,hok',r',q⟩:=h
    have q':v= .bl true:=q
    subst q'
    obtain rfl:u=Value.bool true:=r'
    refine⟨rfl,OldK.of_keep λb o e=>?_,os,bare⟩
    cases q:H b with
    |none=>exact un.keep b o e q (by intro z;exact absurd (show b∈([]:List Addr) from z) (by simp)) (by simp)
    |some u=>
     rcases hO b with z | ⟨ob,xs,z⟩
     ·rw[q] at z;cases z
     ·have z2:=un.frzs b ob _ z
      obtain⟨e1,_⟩:=hok b _ z
      obtain⟨e2,_⟩:=hok' b _ z2
      rw[e] at e1;cases e1
      exact e2
 cases hk:K.lookup a with
 |some o=>
  -- df script is one of df module's own objects
  have e:=KX a o hk
  rw[ha] at e
  cases e
  refine gI (λ_=>none) (λ_=>.inl rfl) (.inr ⟨_,vs.toArray,_,hk,rfl,rfl,rfl,by rw[List.size_toArray,lenV];exact hl,by simpa using rv⟩) (λb u z=>by have z':(none:Option HO)=some u:=z;cases z') (λb z=>absurd rfl z) λz=>absurd rfl z
 |none=>
  refine gI (λb=>if b=a then some (.frz {cls:=.type "list",data:=.seq vs.toArray} (.lst (ns.map V.int))) else none) (λb=>?_) (.inl (.inr ⟨{cls:=.type "list",data:=.seq vs.toArray},if_pos rfl⟩)) (λb u z=>?_) (λb z=>?_) λ_=>hk
  ·by_cases hb:b=a
   ·exact .inr ⟨_,_,if_pos hb⟩
   ·exact .inl (if_neg hb)
  ·by_cases hb:b=a
   ·have z':=(if_pos hb).symm.trans z
    cases z'
    subst hb
    exact⟨ha,by rw[List.length_map];exact hl,vs,_,rv,ha⟩
   ·have z':=(if_neg hb).symm.trans z
    cases z'
  ·by_cases hb:b=a
   ·exact hb
   ·exact absurd (if_neg hb) z
theorem SI {l:PySem.W.OpenLaw}{q:Program}{cm:List Str}{XP:(Str->Option Value)->Heap->Prop}{YP:World->Heap->Prop}{d:DefRec}{K:Params->W.Frag}{CX:World->CXT}{sp:World->Sp}
  (hn:l.most=some n)(hn2:n<=sizeLine)(gG:d.params.defaults=[])(hr:Room k callerA)
  (hY:∀(w:World) (h:Heap),YP w h->(K w.params).In h)
  (F:∀(w:World) (mg:Str->Option Value) (fa:Addr) (h:Heap),(K w.params).In h->h.Ns mainGlobals mg->mg d.name=some (.ref fa)->
   ∃fd:FuncData,(∀(s:Shared) (u:Value),BindsTo s fd ⟨[u],[]⟩ [(x,u)])/\
    ∀base:Heap,(K w.params).In base->base.Ns mainGlobals mg->FnOk l.prog w (K w.params) mg base (CX w) k fa fd [x] (sp w))
  (cK:∀(w:World) (H:Hp) (a:Addr) (ns:List Int),ns.length<=n->W4 H->SqL (K w.params) H a (ns.map V.int)->sp w [.ref a] H (λv _=>v= .bl true) λ_ _ _=>False)
  (hCX:∀(w:World) (H:Hp) (s:Shared) (e:Value) (s':Shared),CX w [] H s (λ_ _ _=>False) e s'->False):
  PySem.W.WalkO q cm XP YP l.row.toRowW d [] (λf vs=>PySem.call f vs):=by
 refine Att.attach_call hn gG λw s₀ s₁ mg mb fa o pm cd doc a vs ns G Y ho hd dW hmg fL eA aj hg=>?_
 have KX:=hY w _ Y
 obtain⟨fd,hb,hF⟩:=F w mg fa _ KX G.T.g hmg
 exact Nr KX G.T.g G.T.b G.T.builtins G.T.nolimit hg fL eA (Nat.le_trans aj hn2) hr hF hb (λH hO hS=>cK w H a ns aj hO hS) λH e s'=>hCX w H s₁ e s'
def YM (s:Stmt):Arguments:=match s with
 | .FunctionDef _ a _ _ _ _ _ _ _ _=>a
 |_=>{posonlyargs:=[],args:=[],vararg:=none,kwonlyargs:=[],kw_defaults:=[],kwarg:=none,defaults:=[]}
def Yj (s:Stmt):List Stmt:=match s with
 | .FunctionDef _ _ b _ _ _ _ _ _ _=>b
 |_=>[]
def Xg (s:Stmt):Scope:=match s with
 | .FunctionDef _ _ _ _ _ _ sc _ _ _=>sc
 |_=>{kind:=.function,names:=[],isGenerator:=false,isCoroutine:=false}
abbrev CX0:CXT:=λ_ _ _ _ _ _=>False
abbrev E0:XK:=λ_ _ _=>False
theorem WC:Mi CX0 X E0:=λ_ _ _ _ _ _ _ h=>h.elim
structure Fun (K:W.Frag)(x qual:Str)(st:Stmt)(f:Addr)(fd:FuncData):Prop where
 ex:∃(oc:Value) (od:Option Addr) (kV doc pm:Value) (an:Option Addr) (am ct:Value) (cD:Array (Option Value)),
  fd=W.fnOf x qual (YM st) (Yj st) (Xg st) .none kV doc pm an am ct/\K.lookup f=some ⟨oc,od, .func fd,cD⟩/\W.codeIn K am qual=true
 kp:W.keepIn K (.ref f)=true
section
theorem Fun.ok {qual:Str}{st:Stmt}{f:Addr}{sp:Sp}(F:Fun K x qual st f fd)(S:FnScope N ps (Xg st))(len:∀vs H Q E,sp vs H Q E->vs.length=ps.length)
  (cJ:∀(am:Value) (A:Around) (outer:List Env) (s:Shared) (H:Hp) (vs:List V) (Q:VK) (E:XK),Room k (A.deeper (envOfC qual (Xg st) s.heap.objs.size f am))->sp vs H Q E->
   ∃t,PSs (Ia CX0 P w K mg base N qual (Xg st) f am A outer s H E).nox (Yj st) t/\t {nx:=λ_ H'=>Q .non H',rt:=Q} (Ge N vs) H):FnOk P w K mg base CX0 (k+1) f fd ps sp:=by
 obtain⟨oc,od,kV,doc,pm,an,am,ct,cD,rfl,lk,dW⟩:=F.ex
 refine WL lk dW S len λA outer s H vs Q E hr cK=>?_
 obtain⟨t,h,q⟩:=cJ am A outer s H vs Q E hr cK
 exact⟨t,h.nox,q⟩
theorem Fun.binds {qual:Str}{st:Stmt}{f:Addr}(F:Fun K x qual st f fd)
  (h:∀(kV doc pm:Value) (an:Option Addr) (am ct:Value) (us:List Value),us.length=ps.length->bindArgs (W.fnOf x qual (YM st) (Yj st) (Xg st) .none kV doc pm an am ct) ⟨us,[]⟩=pure (ps.zip us)):El K fd ps []:=by
 obtain⟨oc,od,kV,doc,pm,an,am,ct,cD,rfl,lk,dW⟩:=F.ex
 exact .all (h kV doc pm an am ct)
theorem Jy {qual:Str}{st:Stmt}{f:Addr}{oc:Value}{od an:Option Addr}{cD:Array (Option Value)}{kV doc pm am ct:Value}(l:K.lookup f=some ⟨oc,od, .func (W.fnOf x qual (YM st) (Yj st) (Xg st) .none kV doc pm an am ct),cD⟩)
  (c:W.codeIn K am qual=true)(k:W.keepIn K (.ref f)=true):Fun K x qual st f (W.fnOf x qual (YM st) (Yj st) (Xg st) .none kV doc pm an am ct):=⟨⟨oc,od,kV,doc,pm,an,am,ct,cD,rfl,l,c⟩,k⟩
end
theorem UO (hr:Room k A):A.units+1<cLine:=Nat.lt_of_le_of_lt (Nat.add_le_add_left (by decide:1<=64) _) hr.units
theorem M0 (h:n<=1000):n<sizeLine:=Nat.lt_of_le_of_lt h (by decide)
section
theorem pv (i:Nat)(hN:X.N[i]?=some x:=by rfl)(hv:Vis X.env.scope x:=by first |exact Or.inl rfl |exact Or.inr (Or.inl rfl) |exact Or.inr (Or.inr rfl))(hd:(x==("__debug__":Str))=false:=by decide)
  (dW:(x==("__classdict__":Str))=false:=by decide):PE X (.Name x pos) (VI i):=S8 hN hv hd dW
end
def Xx (H H':Hp):Prop:=∀ b o,H b=some o->H' b=some o
theorem Xx.refl (H:Hp):Xx H H:=λ_ _ h=>h
theorem Xx.trans (a:Xx H H1)(b:Xx H1 H2):Xx H H2:=λc o h=>b c o (a c o h)
theorem Xx.seq (e:Xx H H')(h:SqL K H a xs):SqL K H' a xs:=by
 rcases h with(h | ⟨o,h⟩) |h
 ·exact .inl (.inl (e _ _ h))
 ·exact .inl (.inr ⟨o,e _ _ h⟩)
 ·exact .inr h
section
variable {κ:Type}[DecidableEq κ]
def Bp (kvs:List (κ×V))(k:κ):Option V:=(kvs.find? λkv=>decide (kv.1=k)).map (·.2)
def Uj (kvs:List (κ×V))(k:κ)(v:V):List (κ×V):=
 if(kvs.any λkv=>decide (kv.1=k))=true then kvs.map (λkv=>if kv.1=k then(kv.1,v) else kv) else kvs++[(k,v)]
def Gc (kvs:List (κ×V))(k:κ):List (κ×V):=kvs.filter λkv=>decide (kv.1≠k)
theorem VU {p:κ×V}{k:κ}(e:p.1=k):Bp (p::r) k=some p.2:=by simp[Bp,List.find?_cons,e]
theorem VP {p:κ×V}{k:κ}(e:¬p.1=k):Bp (p::r) k=Bp r k:=by simp[Bp,List.find?_cons,e]
theorem He (k:κ):∀kvs:List (κ×V),(kvs.any λkv=>decide (kv.1=k))=(Bp kvs k).isSome
 | []=>rfl
 |p::r=>by
  rw[List.any_cons]
  by_cases e:p.1=k
  ·simp only[VU e,decide_eq_true e,Bool.true_or,Option.isSome_some]
  ·rw[VP e,decide_eq_false e,Bool.false_or];exact He k r
theorem VA (kvs:List (κ×V))(k:κ)(v:V):(Uj kvs k v).length<=kvs.length+1:=by
 unfold Uj
 split
 ·rw[List.length_map];omega
 ·rw[List.length_append,List.length_cons,List.length_nil];omega
theorem Ig.isSome_eq {u:Option Value}(r:Ig o u):o.isSome=u.isSome:=by
 cases o with
 |none=>cases u with
  |none=>rfl
  |some _=>exact(show False from r).elim
 |some _=>cases u with
  |none=>exact(show False from r).elim
  |some _=>rfl
theorem KV.val {kvs:List (κ×V)}(r:KV kvs vs)(k:κ):Ig (Bp kvs k) (valueAt vs k):=by
 unfold KV at r
 induction r with
 |nil=>exact True.intro
 | @cons p q ps qs h t ih=>
  obtain⟨h1,h2⟩:=h
  by_cases e:p.1=k
  ·have e':q.1=k:=h1.symm.trans e
   have b:valueAt (q::qs) k=some q.2:=by simp[valueAt,List.find?_cons,e']
   rw[VU e,b];exact h2
  ·have e':¬q.1=k:=λz=>e (h1.trans z)
   have b:valueAt (q::qs) k=valueAt qs k:=by simp[valueAt,List.find?_cons,e']
   rw[VP e,b];exact ih
theorem KV.any {kvs:List (κ×V)}(r:KV kvs vs)(k:κ):(kvs.any λkv=>decide (kv.1=k))=vs.any λkv=>decide (kv.1=k):=by
 unfold KV at r
 induction r with
 |nil=>rfl
 |cons h t ih=>rw[List.any_cons,List.any_cons,ih,h.1]
theorem KV.repl {kvs:List (κ×V)}(r:KV kvs vs)(k:κ){y:V}(ry:Ya y u):
  KV (kvs.map λkv=>if kv.1=k then(kv.1,y) else kv) (vs.map λkv=>if kv.1=k then(kv.1,u) else kv):=by
 unfold KV at r⊢
 induction r with
 |nil=>exact .nil
 | @cons p q ps qs h t ih=>
  rw[List.map_cons,List.map_cons]
  refine .cons ?_ ih
  obtain⟨h1,h2⟩:=h
  by_cases e:p.1=k
  ·rw[if_pos e,if_pos (h1.symm.trans e)];exact⟨h1,ry⟩
  ·rw[if_neg e,if_neg (λz=>e (h1.trans z))];exact⟨h1,h2⟩
theorem KV.put {kvs:List (κ×V)}(r:KV kvs vs)(k:κ){y:V}(ry:Ya y u):KV (Uj kvs k y) (stored vs k u):=by
 unfold Uj stored
 rw[r.any k]
 by_cases e:(vs.any λkv=>decide (kv.1=k))=true
 ·rw[if_pos e,if_pos e];exact r.repl k ry
 ·rw[if_neg e,if_neg e];exact Paired.snoc r ⟨rfl,ry⟩
theorem KV.drop {kvs:List (κ×V)}(r:KV kvs vs)(k:κ):KV (Gc kvs k) (without vs k):=by
 unfold KV at r⊢
 unfold Gc without
 induction r with
 |nil=>exact .nil
 | @cons p q ps qs h t ih=>
  obtain⟨h1,h2⟩:=h
  rw[List.filter_cons,List.filter_cons]
  by_cases e:p.1=k
  ·have a:¬decide (p.1≠k)=true:=by simp[e]
   have b:¬decide (q.1≠k)=true:=by simp[h1.symm.trans e]
   rw[if_neg a,if_neg b];exact ih
  ·have e':¬q.1=k:=λz=>e (h1.trans z)
   have a:decide (p.1≠k)=true:=by simp[e]
   have b:decide (q.1≠k)=true:=by simp[e']
   rw[if_pos a,if_pos b];exact .cons ⟨h1,h2⟩ ih
theorem KV.length {kvs:List (κ×V)}(r:KV kvs vs):kvs.length=vs.length:=Paired.length r
theorem Nj (kvs:List (κ×V))(k:κ):(Gc kvs k).length<=kvs.length:=List.length_filter_le _ _
end
theorem Bx {k:Key}(r:Ya (kV k) u):(Yi P w).is k u=true:=by
 cases k with
 |inl i=>obtain⟨t,e⟩:=(show ∃t,u=Value.int i t from r);subst e;exact B7 P w i t
 |inr x=>obtain⟨t,e⟩:=(show ∃t,u=Value.str x t from r);subst e;exact Et P w x t
theorem Ce:∀{ks:List Key}{us:List Value},Yf (ks.map kV) us->ItemsAre (Yi P w) ks us
 | [],_,r=>by rw[List.map_nil] at r;cases r;exact .nil
 |k::ks,_,r=>by
  rw[List.map_cons] at r
  cases r with
  |cons h t=>exact .cons (Bx h) (Ce t)
abbrev KT (H:Hp):List (List Key×V)->List (List Key×Addr×Value)->Prop:=Paired λp q=>p.1=q.1/\H q.2.1=some (.tup (p.1.map kV))/\Ya p.2 q.2.2
theorem KT.val {kvs:List (List Key×V)}{xs:List (List Key×Addr×Value)}(r:KT H kvs xs)(k:List Key):Ig (Bp kvs k) ((atKey xs k).map (·.2)):=by
 induction r with
 |nil=>exact True.intro
 | @cons p q ps qs h t ih=>
  obtain⟨h1,_,h2⟩:=h
  by_cases e:p.1=k
  ·have e':q.1=k:=h1.symm.trans e
   have b:atKey (q::qs) k=some q.2:=by simp[atKey,List.find?_cons,e']
   rw[VU e,b];exact h2
  ·have e':¬q.1=k:=λz=>e (h1.trans z)
   have b:atKey (q::qs) k=atKey qs k:=by simp[atKey,List.find?_cons,e']
   rw[VP e,b];exact ih
theorem KT.repl {kvs:List (List Key×V)}{xs:List (List Key×Addr×Value)}(r:KT H kvs xs)(k:List Key){y:V}(ry:Ya y u):
  KT H (kvs.map λkv=>if kv.1=k then(kv.1,y) else kv) (xs.map (putAt k u)):=by
 induction r with
 |nil=>exact .nil
 | @cons p q ps qs h t ih=>
  rw[List.map_cons,List.map_cons]
  refine .cons ?_ ih
  obtain⟨h1,h2,h3⟩:=h
  unfold putAt
  by_cases e:p.1=k
  ·rw[if_pos e,if_pos (h1.symm.trans e)];exact⟨h1,h2,ry⟩
  ·rw[if_neg e,if_neg (λz=>e (h1.trans z))];exact⟨h1,h2,h3⟩
theorem KT.put {kvs:List (List Key×V)}{xs:List (List Key×Addr×Value)}(r:KT H kvs xs)(k:List Key){y:V}(hb:H b=some (.tup (k.map kV)))(ry:Ya y u):
  KT H (Uj kvs k y) (storedH xs k b u):=by
 have e:(kvs.any λkv=>decide (kv.1=k))=(atKey xs k).isSome:=by
  rw[He,(r.val k).isSome_eq,Option.isSome_map]
 unfold Uj storedH
 rw[e]
 by_cases q:(atKey xs k).isSome=true
 ·rw[if_pos q,if_pos q];exact r.repl k ry
 ·rw[if_neg q,if_neg q];exact Paired.snoc r ⟨rfl,hb,ry⟩
theorem KT.keeps {kvs:List (List Key×V)}{xs:List (List Key×Addr×Value)}(r:KT H kvs xs)(ht:∀b ys,H b=some (.tup ys)->H' b=some (.tup ys)):KT H' kvs xs:=
 Paired.mapP r λ_ _ z=>⟨z.1,ht _ _ z.2.1,z.2.2⟩
section
variable {h:Heap}
theorem TH {u:HO}(ok:HOk P w H h)(e:Rd H a u):YE P w H h a u:=e.ok ok
theorem LW (ok:HOk P w H h)(e:Rd H a (.dK kvs)):kvs.length<=sizeLine/\(a==sysModules)=false/\∃vs,KV kvs vs/\h.DictOf (Yi P w) a vs:=
 show YE P w H h a (.dK kvs) from TH ok e
theorem SF (ok:HOk P w H h)(e:H a=some (.dK kvs)):kvs.length<=sizeLine/\(a==sysModules)=false/\∃vs,KV kvs vs/\h.DictOf (Yi P w) a vs:=LW ok (.inl e)
theorem E4 (ok:HOk P w H h)(e:H a=some (.tup (ks.map kV))):(tupleKind (Yi P w)).is h ks a:=by
 obtain⟨_,its,r,o,h1,h2,n,h3⟩:=(show YE P w H h a (.tup (ks.map kV)) from ok a _ e)
 exact⟨o,its.toArray,n,h1,h2.1,h3,by simpa using Ce r⟩
theorem Mw {kvs:List (List Key×V)}(ok:HOk P w H h)(e:Rd H a (.dT kvs)):kvs.length<=sizeLine/\(a==sysModules)=false/\
  ∃xs,KT H kvs xs/\h.DictOfH (tupleKind (Yi P w)) a xs:=by
 obtain⟨z,y,xs,r,o,es,ep,h1,h2,h3,h4,h5⟩:=(show YE P w H h a (.dT kvs) from TH ok e)
 refine⟨z,y,xs,r,o,es,ep,h1,h2,h3,h4,λx hx=>?_,h5⟩
 have all:∀{l:List (List Key×V)}{m:List (List Key×Addr×Value)},KT H l m->∀x∈m,(tupleKind (Yi P w)).is h x.1 x.2.1:=by
  intro l m q
  induction q with
  |nil=>intro x hx;exact nomatch hx
  | @cons p q ps qs hq t ih=>
   intro x hx
   rcases List.mem_cons.mp hx with e |hx
   ·subst e
    exact E4 ok (by rw[←hq.1];exact hq.2.1)
   ·exact ih x hx
 exact all r x hx
theorem WZ {kvs:List (List Key×V)}(ok:HOk P w H h)(e:H a=some (.dT kvs)):kvs.length<=sizeLine/\(a==sysModules)=false/\
  ∃xs,KT H kvs xs/\h.DictOfH (tupleKind (Yi P w)) a xs:=Mw ok (.inl e)
end
def S3 (H:Hp)(a:Addr)(y:V)(r:Option V):Prop:=
 (∃kvs k,Rd H a (.dK kvs)/\y=kV k/\r=Bp kvs k)∨∃kvs k b,Rd H a (.dT kvs)/\y= .ref b/\H b=some (.tup (k.map kV))/\r=Bp kvs k
def Ar (H:Hp)(a:Addr)(y v:V)(H':Hp):Prop:=
 (∃kvs k,H a=some (.dK kvs)/\y=kV k/\kvs.length<sizeLine/\H'=upd H a (.dK (Uj kvs k v)))∨
 ∃kvs k b,H a=some (.dT kvs)/\y= .ref b/\H b=some (.tup (k.map kV))/\kvs.length<sizeLine/\H'=upd H a (.dT (Uj kvs k v))
section
variable {y v:V}{r:Value}{o:Option V}
theorem Inv.big (I:Inv X aa σ H s):sysModules<s.heap.objs.size:=by
 have h:mainGlobals<s.heap.objs.size:=(I.mod.glob.keeps I.bk).lt
 exact Nat.lt_trans (by decide) h
theorem Ma (hu:A.units+1<cLine)(I:Inv X aa σ H s)(g:S3 H a y (some v))(ry:Ya y u)(h:∀w' s',Inv X aa σ H s'->Ya v w'->Q w' s'):
  wpAny (model X.prog X.w) A (getItem (.ref a) u) Q E s:=by
 rcases g with⟨kvs,k,e,ey,l⟩ | ⟨kvs,k,b,e,ey,eb,l⟩
 ·subst ey
  obtain⟨z,hd,vs,bH,dd⟩:=LW I.hok e
  obtain⟨w',hw,cv⟩:=Ig.some_of (v:=v) (o:=valueAt vs k) (by rw[l];exact bH.val k)
  exact wpAny_getItem_of (Bx ry) dd.mapOf hw (h w' _ (I.tok _) cv)
 ·subst ey
  cases(show u=Value.ref b from ry)
  obtain⟨z,hd,xs,bH,dd⟩:=Mw I.hok e
  obtain⟨w',hw,cv⟩:=Ig.some_of (v:=v) (o:=(atKey xs k).map (·.2)) (by rw[l];exact bH.val k)
  obtain⟨p,hp,dm⟩:=Option.map_eq_some_iff.mp hw
  refine wpAny_getItem_heap (tupleKind_room_in1 hu) (E4 I.hok eb) dd hp ?_
  rw[dm]
  exact h w' _ (I.tok _) cv
theorem AG (hu:A.units+1<cLine)(I:Inv X aa σ H s)(g:S3 H a y o)(ry:Ya y u)(h:∀s',Inv X aa σ H s'->Q (.bool o.isSome) s'):
  wpAny (model X.prog X.w) A (compareOp .In u (.ref a)) Q E s:=by
 rcases g with⟨kvs,k,e,ey,l⟩ | ⟨kvs,k,b,e,ey,eb,l⟩
 ·subst ey
  obtain⟨z,hd,vs,bH,dd⟩:=LW I.hok e
  refine wpAny_in_of (Bx ry) hd dd.mapOf ?_
  rw[←(bH.val k).isSome_eq, ←l]
  exact h _ (I.tok _)
 ·subst ey
  cases(show u=Value.ref b from ry)
  obtain⟨z,hd,xs,bH,dd⟩:=Mw I.hok e
  refine wpAny_in_heap (tupleKind_room_in1 hu) (E4 I.hok eb) hd dd ?_
  have q:=(bH.val k).isSome_eq
  rw[Option.isSome_map] at q
  rw[←q, ←l]
  exact h _ (I.tok _)
theorem DI {t':Nat}(I:Inv X aa σ H s)(mu:Mut (H a))(hs:Heap.SameBut a s.heap h')(he:∃q,h'.get? a=some q)(new:YE X.prog X.w (upd H a ob) h' a ob):
  Inv X aa σ (upd H a ob) {s with heap:=h',toks:=t'}:=
 I.write (x:=a) (e:=a) mu (.inl rfl) (λb q hb z=>(hs.2 b hb).trans z) he new
theorem Mh (z:kvs.length<=sizeLine)(hd:(a==sysModules)=false)(bH:KV kvs vs)(dd:h'.DictOf (Yi P w) a vs):
  YE P w H' h' a (.dK kvs):=⟨z,hd,vs,bH,dd⟩
theorem L5 {Q:Unit->Shared->Prop}(hu:A.units+1<cLine)(I:Inv X aa σ H s)(g:Ar H a y v H')(ry:Ya y u)(rv:Ya v r)(h:∀s',Inv X aa σ H' s'->Q () s'):
  wpAny (model X.prog X.w) A (setItem (.ref a) u r) Q E s:=by
 rcases g with⟨kvs,k,e,ey,l,eH⟩ | ⟨kvs,k,b,e,ey,eb,l,eH⟩
 ·subst ey eH
  obtain⟨z,hd,vs,bH,dd⟩:=SF I.hok e
  have hz:vs.length<=sizeLine:=by rw[←bH.length];exact z
  have hl:(Uj kvs k v).length<=sizeLine:=by have:=VA kvs k v;omega
  refine wpAny_setItem_pairs (hsz:=hz) (Bx ry) dd λh' dd' hs=>h _ ?_
  have he:∃q,h'.get? a=some q:=let ⟨q,_,_,hq,_⟩:=dd';⟨q,hq⟩
  exact DI I (by rw[e];exact True.intro) hs he (Mh hl hd (bH.put k rv) dd')
 ·subst ey eH
  cases(show u=Value.ref b from ry)
  obtain⟨z,hd,xs,bH,dd⟩:=WZ I.hok e
  have hz:xs.length<=sizeLine:=by rw[←Paired.length bH];exact z
  have hl:(Uj kvs k v).length<=sizeLine:=by have:=VA kvs k v;omega
  refine wpAny_setItem_heap (hsz:=hz) (tupleKind_room_in1 hu) (E4 I.hok eb) dd λh' dd' hs=>h _ ?_
  obtain⟨q,es,ep,hq,h2,h3,h4,_,h5⟩:=dd'
  refine DI I (by rw[e];exact True.intro) hs ⟨q,hq⟩ ⟨hl,hd,_,(bH.put k eb rv).keeps λc ys ec=>?_,q,es,ep,hq,h2,h3,h4,h5⟩
  rw[XV (WO ec e (λz=>nomatch z))]
  exact ec
end
section
variable {k:Key}
theorem W3 (I:Inv X aa σ H s)(e:H a=some (.dK kvs))(ry:Ya (kV k) u)(l:Bp kvs k=some v)(hm:more=[]∨∃x,more=[x])
  (h:∀w' s',Inv X aa σ (upd H a (.dK (Gc kvs k))) s'->Ya v w'->Q w' s'):wpAny (model X.prog X.w) A (call (.builtin "dict.pop") (.ref a::u::more)) Q E s:=by
 obtain⟨z,hd,vs,bH,dd⟩:=SF I.hok e
 obtain⟨w',hw,cv⟩:=Ig.some_of (v:=v) (o:=valueAt vs k) (by rw[←l];exact bH.val k)
 have hp:(keyPart u).isSome=true:=by
  cases k with
  |inl i=>obtain⟨t,q⟩:=(show ∃t,u=Value.int i t from ry);subst q;rfl
  |inr x=>obtain⟨t,q⟩:=(show ∃t,u=Value.str x t from ry);subst q;rfl
 have ha:argsOk "dict.pop" ⟨.ref a::u::more,[]⟩:=by
  rcases hm with q | ⟨x,q⟩
  ·subst q;exact PySem.F.args_dict_pop_2 _ _
  ·subst q;exact PySem.F.args_dict_pop_3 _ _ _
 refine call_meetsIn PySem.F.slot_dict_pop dd.typeIs PySem.F.entry_dict_pop ha (meets_dict_pop_there (Yi X.prog X.w) a (Bx ry) more hm hp)
  ⟨vs,w',dd,by rw[←bH.length];exact z,hw,λh' dd' hs=>h w' _ ?_ cv⟩
 have he:∃q,h'.get? a=some q:=let ⟨q,_,_,hq,_⟩:=dd';⟨q,hq⟩
 exact DI I (by rw[e];exact True.intro) hs he (Mh (Nat.le_trans (Nj kvs k) z) hd (bH.drop k) dd')
end
def At (i:Expr):Prop:=∀ ov iv,subscripted i false ov iv=operate [ov,iv] (getItem ov iv)
theorem RA {env:Env}{value slice:Expr}{T id:String}
  (hl:typeLookup (.type T) "__getitem__" =pure (some (.builtin id)))(hs:At slice)
  (h:wpAny (model prog w) A (eval value env) (λo s₁=>wpAny (model prog w) A (eval slice env) (λi s₂=>s₂.TypeIs o T/\wpAny (model prog w) A (getItem o i) Q E s₂) E s₁) E s):
  wpAny (model prog w) A (eval (.Subscript value slice pos) env) Q E s:=by
 refine Subscript_ (wpAny_mono h (λo s₁ h₁=>wpAny_mono h₁ (λi s₂ h₂=>?_) λ_ _ x=>x) λ_ _ x=>x)
 obtain⟨hT,h₂⟩:=h₂
 unfold subscriptTail
 refine wpAny_bind ?_
 rw[getitemInPython_of_ne hT.not_modules]
 refine wpAny_bind (wpAny_specialOf hT hl ?_)
 have fin:wpAny (model prog w) A (subscripted slice false o i) (λr s₃=>wpAny (model prog w) A (letTemporaryGo value o r >>= λ_=>pure r) Q E s₃) E s₂:=by
  rw[hs o i]
  exact wpAny_operating (wpAny_mono h₂ (λr s₃ h₃=>wpAny_bind (wpAny_letTemporaryGo (wpAny_pure h₃))) λ_ _ x=>x)
 first
  |exact wpAny_pure (wpAny_bind fin)
  |exact wpAny_bind (wpAny_pure (wpAny_bind fin))
  |exact wpAny_bind fin
theorem BQ {y:V}(I:Inv X aa σ H s)(g:S3 H a y o):s.TypeIs (.ref a) "dict":=by
 rcases g with⟨kvs,k,e,_,_⟩ | ⟨kvs,k,b,e,_,_,_⟩
 ·obtain⟨_,_,vs,_,dd⟩:=LW I.hok e
  exact dd.typeIs
 ·obtain⟨_,_,xs,_,dd⟩:=Mw I.hok e
  exact dd.typeIs
def SM (td ty:TE):TE:=λσ H Q=>td σ H λx H1=>ty σ H1 λy H2=>∃ a v,x= .ref a/\S3 H2 a y (some v)/\Q v H2
def Ac (ty td:TE):TE:=λσ H Q=>ty σ H λy H1=>td σ H1 λx H2=>∃ a o,x= .ref a/\S3 H2 a y o/\Q (.bl o.isSome) H2
def R4 (td ty tv:TE):TS:=λD σ H=>tv σ H λv H1=>td σ H1 λx H2=>ty σ H2 λy H3=>∃ a H4,x= .ref a/\Ar H3 a y v H4/\D.nx σ H4
section
variable {o i value:Expr}{dX tpos:Pos}{ty tv:TE}
theorem K0 (hu:X.A.units+1<cLine)(ho:PE X o td)(hi:PE X i ty)(hs:At i):PE X (.Subscript o i pos) (SM td ty):=by
 intro aa s σ H Q I h
 refine RA PySem.F.slot_dict_getitem.lookup hs (thn (ho aa s σ H _ I h) λu s1 ⟨x,H1,I1,rx,q1⟩=>thn (hi aa s1 σ H1 _ I1 q1) λiv s2 r9=>?_)
 obtain⟨y,H2,I2,ry,a,v,ex,g,q2⟩:=r9
 subst ex
 obtain rfl:u=Value.ref a:=rx
 exact⟨BQ I2 g,Ma hu I2 g ry λw' s3 I3 cv=>⟨v,H2,I3,cv,q2⟩⟩
theorem IT (hu:X.A.units+1<cLine)(hi:PE X i ty)(ho:PE X o td):PC X .In i o (Ac ty td):=by
 intro aa s σ H Q I h
 refine thn (hi aa s σ H _ I h) λiv s1 ⟨y,H1,I1,ry,q1⟩=>thn (ho aa s1 σ H1 _ I1 q1) λu s2 r9=>?_
 obtain⟨x,H2,I2,rx,a,ov,ex,g,q2⟩:=r9
 subst ex
 obtain rfl:u=Value.ref a:=rx
 exact AG hu I2 g ry λs3 I3=>⟨.bl ov.isSome,H2,I3,rfl,q2⟩
theorem GF (hu:X.A.units+1<cLine)(ho:PE X o td)(hi:PE X i ty)(hv:PE X value tv)(hs:swapsWith value (some (.Subscript o i dX)) pos.line X.env=pure false):
  PS X (.Assign [.Subscript o i dX] value pos) (R4 td ty tv):=by
 intro aa s σ H D I h
 refine wpAny_Assign_Subscript (thn (hv aa s σ H _ I h) λr s1 ⟨v,H1,I1,rv,q1⟩=>thn (ho aa s1 σ H1 _ I1 q1) λu s2 ⟨x,H2,I2,rx,q2⟩=>thn (hi aa s2 σ H2 _ I2 q2) λiv s3 r9=>?_) hs
 obtain⟨y,H3,I3,ry,a,H4,ex,g,q3⟩:=r9
 subst ex
 obtain rfl:u=Value.ref a:=rx
 exact L5 hu I3 g ry rv λs4 I4=>⟨σ,H4,I4,q3⟩
end
theorem EM (h:Heap)(hb:sysModules<h.objs.size):YE P w H (h.push {cls:=.type "dict",data:=.dict #[]}) h.objs.size (.dK []):=
 ⟨Nat.zero_le _,beq_eq_false_iff_ne.mpr (Ne.symm (Nat.ne_of_lt hb)),[], .nil,Heap.DictOf.new h⟩
def O3:TE:=λ_ H Q=>∀ p,H p=none->Q (.ref p) (upd H p (.dK []))
section
theorem Na:PE X (.Dict [] [] pos) O3:=λaa s σ H Q I h=>
 wpAny_Dict_empty ⟨.ref s.heap.objs.size,_,I.laid (a:=s.heap.objs.size) (o:=.dK []) (t':=s.toks) (λ_ _ q=>Heap.get?_push_of_some _ q) (Nat.le_refl _) (EM s.heap I.big),rfl,h _ (I.hok.fresh (Nat.le_refl _))⟩
end
def EF:List (TE×TE)->St->Hp->(List (V×V)->Hp->Prop)->Prop
 | [],_,H,Q=>Q [] H
 | (tk,tv)::r,σ,H,Q=>tk σ H λx H1=>tv σ H1 λy H2=>EF r σ H2 λps H3=>Q ((x,y)::ps) H3
abbrev VV:List (V×V)->List (Value×Value)->Prop:=Paired λp q=>Ya p.1 q.1/\Ya p.2 q.2
def PPs (X:Cx)(pos:Pos)(bN:List (Option Expr))(cw:List Expr)(fM:List (TE×TE)):Prop:=
 ∀(aa:List (Addr×Obj)) (s:Shared) (σ:St) (H:Hp) (Q:List (V×V)->Hp->Prop),Inv X aa σ H s->EF fM σ H Q->
  wpAny (model X.prog X.w) X.A (evalPairs (pairTrees bN cw X.env pos)) (λvs s'=>∃ ps H',Inv X aa σ H' s'/\VV ps vs/\Q ps H') X.xe s
theorem PU:PPs X pos [] [] []:=λaa s σ H Q I h=>pairTrees_nil_walk ⟨[],H,I, .nil,h⟩
theorem J1 {k:Expr}(hk:PE X k tk)(hv:PE X v tv)(hr:PPs X pos ks vs fM):
  PPs X pos (some k::ks) (v::vs) ((tk,tv)::fM):=λaa s σ H Q I h=>
 pairTrees_cons_walk (thn (hk aa s σ H _ I h) λu s1 ⟨x,H1,I1,rx,q1⟩=>thn (hv aa s1 σ H1 _ I1 q1) λw2 s2 ⟨y,H2,I2,ry,q2⟩=>
  thn (hr aa s2 σ H2 _ I2 q2) λws s3 r9=>by obtain⟨ps,H3,I3,bH,q3⟩:=r9;exact⟨(x,y)::ps,H3,I3, .cons ⟨rx,ry⟩ bH,q3⟩)
def Kg (kvs more:List (Key×V)):List (Key×V):=more.foldl (λacc kv=>Uj acc kv.1 kv.2) kvs
theorem KV.merge:∀{more:List (Key×V)}{rs:List (Key×Value)}{kvs:List (Key×V)}{vs:List (Key×Value)},KV more rs->KV kvs vs->KV (Kg kvs more) (merged vs rs):=by
 intro more rs kvs vs r
 unfold KV at r
 induction r generalizing kvs vs with
 |nil=>intro q;exact q
 | @cons p q ps qs h t ih=>
  intro r0
  have e:KV (Uj kvs p.1 p.2) (stored vs q.1 q.2):=by
   have:=r0.put p.1 h.2
   rw[←h.1];exact this
  exact ih e
theorem VJ:∀(more kvs:List (Key×V)),(Kg kvs more).length<=kvs.length+more.length
 | [],kvs=>by show kvs.length<=kvs.length+0;omega
 |p::r,kvs=>by
  have h1:=VJ r (Uj kvs p.1 p.2)
  have h2:=VA kvs p.1 p.2
  show(Kg (Uj kvs p.1 p.2) r).length<=_
  rw[List.length_cons];omega
theorem Fx {P:Program}{w:World}:∀{kvs:List (Key×V)}{ws:List (Value×Value)},VV (kvs.map λkv=>(kV kv.1,kv.2)) ws->∃rs,Carries (Yi P w) ws rs/\KV kvs rs
 | [],_,r=>by rw[List.map_nil] at r;cases r;exact⟨[],True.intro, .nil⟩
 |p::kvs,_,r=>by
  rw[List.map_cons] at r
  cases r with
  | @cons a b as bs h t=>
   obtain⟨rs,c,q⟩:=Fx (P:=P) (w:=w) t
   obtain⟨b1,b2⟩:=b
   exact⟨(p.1,b2)::rs,⟨Bx h.1,rfl,c⟩, .cons ⟨rfl,h.2⟩ q⟩
def TZ (fM:List (TE×TE)):TE:=λσ H Q=>∀ p,H p=none->EF fM σ (upd H p (.dK [])) λps H2=>H2 p=some (.dK [])/\∃kvs:List (Key×V),ps=kvs.map (λkv=>(kV kv.1,kv.2))/\kvs.length<=15/\Q (.ref p) (upd H2 p (.dK (Kg [] kvs)))
theorem PR (h:PPs X pos bN cw fM)(aP:bN.all (·.isSome)=true)(hl:bN.length=cw.length)(h0:bN≠ [])
  (h15:bN.length<=15):PE X (.Dict bN cw pos) (TZ fM):=by
 intro aa s σ H Q I q
 have hn:=I.hok.fresh (Nat.le_refl s.heap.objs.size)
 have I1:=I.laid (a:=s.heap.objs.size) (o:=.dK []) (h':=s.heap.push {cls:=.type "dict",data:=.dict #[]}) (t':=s.toks) (λ_ _ q=>Heap.get?_push_of_some _ q) (Nat.le_refl _) (EM s.heap I.big)
 refine wpAny_Dict_walk (knd:=Yi X.prog X.w) aP hl h0 h15 (thn (h aa _ σ _ _ I1 (q _ hn)) λws s2 r9=>?_)
 obtain⟨ps,H2,I2,bH,e,kvs,ep,lk,q2⟩:=r9
 subst ep
 obtain⟨rs,c,rk⟩:=Fx (P:=X.prog) (w:=X.w) bH
 obtain⟨z,hd,vs0,r0,dd⟩:=SF I2.hok e
 cases r0
 refine⟨rs,c,dd,λh' dd' hs=>⟨.ref s.heap.objs.size,_,?_,rfl,q2⟩⟩
 have hz:(Kg [] kvs).length<=sizeLine:=by
  have h1:=VJ kvs []
  rw[List.length_nil] at h1
  rw[sizeLine_eq];omega
 have he:∃q,h'.get? s.heap.objs.size=some q:=let ⟨q,_,_,hq,_⟩:=dd';⟨q,hq⟩
 exact DI I2 (by rw[e];exact True.intro) hs he (Mh hz hd (rk.merge .nil) dd')
structure M1 (X:Cx)(o:Expr)(m:Str)(aT:Pos)(e:Expr)(aF:Pos):Prop where
 base:attributeBase o m X.env (eval o X.env)=eval o X.env
 few:((backTo aF (starEach [e] X.env)).all (λx=>!x.1)&&(backToKw aF (keywordEach [] X.env)).all (λx=>x.1.isSome)
  &&decide (([e]:List Expr).length+([]:List Keyword).length+(if([]:List Keyword).isEmpty then 0 else 1)<30))=true
 line:(aT.endLine==aF.line)=true
 trees:backTo aF (starEach [e] X.env)=[(false,eval e X.env)]
def IsD (H:Hp)(a:Addr):Prop:=(∃kvs,Rd H a (.dK kvs))∨∃kvs,Rd H a (.dT kvs)
theorem Wd (I:Inv X aa σ H s)(d:IsD H a):
  s.TypeIs (.ref a) "dict" /\(∀b,Value.ref a= .ref b->∃ob,s.heap.get? b=some ob/\ob.dict=none)/\(a==sysModules)=false:=by
 rcases d with⟨kvs,e⟩ | ⟨kvs,e⟩
 ·obtain⟨_,hd,vs,_,dd⟩:=LW I.hok e
  refine⟨dd.typeIs,λb q=>?_,hd⟩
  cases q
  obtain⟨ob,_,_,h1,h2,_⟩:=dd
  exact⟨ob,h1,h2.2.1⟩
 ·obtain⟨_,hd,xs,_,dd⟩:=Mw I.hok e
  refine⟨dd.typeIs,λb q=>?_,hd⟩
  cases q
  obtain⟨ob,_,_,h1,h2,_⟩:=dd
  exact⟨ob,h1,h2.2.1⟩
section
variable {y d:V}{r:Value}{o:Option V}
end
def Oj (td ty:TE):TE:=λσ H Q=>td σ H λx H1=>∃ a,x= .ref a/\IsD H1 a/\ty σ H1 λy H2=>∃ kvs k v,H2 a=some (.dK kvs)/\y=kV k/\Bp kvs k=some v/\Q v (upd H2 a (.dK (Gc kvs k)))
section
variable {o f:Expr}{aT aF:Pos}{ty tx:TE}
theorem Dk (ho:PE X o td)(he:PE X e ty)(m:M1 X o "pop" aT e aF):PE X (.Call (.Attribute o "pop" aT) [e] [] aF) (Oj td ty):=by
 intro aa s σ H Q I h
 refine wpAny_Call_method m.base m.few m.line PySem.F.plainAttrs_dict PySem.F.slot_dict_pop PySem.F.type_dict_pop (thn (ho aa s σ H _ I h) λu s1 r9=>?_)
 obtain⟨x,H1,I1,rx,a,ex,d,q1⟩:=r9
 subst ex
 obtain rfl:u=Value.ref a:=rx
 obtain⟨t1,t2,_⟩:=Wd I1 d
 refine⟨t1,t2,?_⟩
 rw[m.trees]
 refine Calls.callWith_builtin rfl (Calls.evalArgs_plain (Calls.spliced_cons (thn (he aa s1 σ H1 _ I1 q1) λiv s2 ⟨y,H2,I2,ry,kvs,k,v,ea,ey,l,q2⟩=>Calls.spliced_nil ?_)))
 subst ey
 exact W3 I2 ea ry l (.inl rfl) λw' s3 I3 cv=>⟨v,_,I3,cv,q2⟩
end
section
end
section
variable {y:V}
end
section
end
section
variable {κ:Type}[DecidableEq κ]
end
theorem Im:∀(names:List (Str×NameKind)),(∀x∈names,x.2=NameKind.free->∃c,env.cells.lookup x.1=some c)->
  ∀cs:List (Str×Addr),(∀x c,cs.lookup x=some c->env.cells.lookup x=some c)->
  ∃cl:List (Str×Addr),(forIn names cs (λ(x:Str×NameKind) (r:List (Str×Addr))=>(if(x.2==NameKind.free)=true then do let a ←cellOf env x.1;pure (ForInStep.yield ((x.1,a)::r)) else pure (ForInStep.yield r):Sem (ForInStep (List (Str×Addr))))))=(pure cl:Sem (List (Str×Addr)))/\
   (∀x c,cl.lookup x=some c->env.cells.lookup x=some c)/\(∀x,((x,NameKind.free)∈names∨∃c,cs.lookup x=some c)->∃c,cl.lookup x=some c)
 | [],_,cs,hs=>⟨cs,by rw[List.forIn_nil],hs,λx h=>h.elim (λz=>nomatch z) id⟩
 | (n,k)::r,hf,cs,hs=>by
  have hr:∀x∈r,x.2=NameKind.free->∃c,env.cells.lookup x.1=some c:=λx hx=>hf x (List.mem_cons_of_mem _ hx)
  by_cases hk:k=NameKind.free
  ·subst hk
   obtain⟨a,ha⟩:=hf (n,NameKind.free) List.mem_cons_self rfl
   have dz:∀x c,((n,a)::cs).lookup x=some c->env.cells.lookup x=some c:=λx c h=>by
    rw[List.lookup_cons] at h
    by_cases hx:x=n
    ·subst hx
     simp only[beq_self_eq_true] at h
     rw[←h];exact ha
    ·have:(x==n)=false:=beq_eq_false_iff_ne.mpr hx
     rw[this] at h
     exact hs x c h
   obtain⟨cl,e,h1,h2⟩:=Im r hr ((n,a)::cs) dz
   refine⟨cl,?_,h1,λx h=>h2 x ?_⟩
   ·rw[List.forIn_cons]
    have e1:cellOf env n=pure a:=by unfold cellOf;rw[show env.cells.lookup n=some a from ha]
    simp only[beq_self_eq_true,if_true,e1]
    exact e
   ·rcases h with h | ⟨c,h⟩
    ·rcases List.mem_cons.mp h with h |h
     ·have:x=n:=congrArg Prod.fst h
      subst this
      exact .inr ⟨a,by rw[List.lookup_cons];simp⟩
     ·exact .inl h
    ·by_cases hx:x=n
     ·subst hx;exact .inr ⟨a,by rw[List.lookup_cons];simp⟩
     ·exact .inr ⟨c,by rw[List.lookup_cons,beq_eq_false_iff_ne.mpr hx];exact h⟩
  ·obtain⟨cl,e,h1,h2⟩:=Im r hr cs hs
   refine⟨cl,?_,h1,λx h=>h2 x ?_⟩
   ·rw[List.forIn_cons]
    have hb:(k==NameKind.free)=false:=by simpa using hk
    simp only[hb,Bool.false_eq_true,if_false]
    exact e
   ·rcases h with h |h
    ·rcases List.mem_cons.mp h with h |h
     ·exact absurd (congrArg Prod.snd h).symm hk
     ·exact .inl h
    ·exact .inr h
theorem Ek (hf:∀x∈scope.names,x.2=NameKind.free->∃c,env.cells.lookup x.1=some c):
  ∃cl:List (Str×Addr),closureFor scope env=pure cl/\(∀x c,cl.lookup x=some c->env.cells.lookup x=some c)/\(∀x,(x,NameKind.free)∈scope.names->∃c,cl.lookup x=some c):=by
 obtain⟨cl,e,h1,h2⟩:=Im scope.names hf [] (λx c h=>by simp at h)
 refine⟨cl,?_,h1,λx h=>h2 x (.inl h)⟩
 unfold closureFor
 show((forIn scope.names [] (λ(x:Str×NameKind) (r:List (Str×Addr))=>(if(x.2==NameKind.free)=true then do let a ←cellOf env x.1;pure (ForInStep.yield ((x.1,a)::r)) else pure (ForInStep.yield r):Sem (ForInStep (List (Str×Addr)))))) >>= λs=>pure s)=pure cl
 rw[e]
 rfl
theorem VH {env:Env}:∀{names:List (Str×NameKind)}{x:Str}{k:NameKind},(∀y∈names,y.2≠NameKind.cell)->
  (names.map λ(n,k)=>if(k==NameKind.free&&env.scope.kind== .function&&env.kindOf n==some .cell) then(n,NameKind.cell) else(n,k)).lookup x=some k->(k= .cell∨k= .free)->(x,NameKind.free)∈names
 | [],_,_,_,h,_=>by simp at h
 | (n,kk)::r,x,k,hc,h,hk=>by
  have ih:=@VH env r x k (λy hy=>hc y (List.mem_cons_of_mem _ hy))
  have hh:=hc (n,kk) List.mem_cons_self
  simp only[List.map_cons] at h
  by_cases aZ:(kk==NameKind.free&&env.scope.kind== .function&&env.kindOf n==some .cell)=true
  ·rw[if_pos aZ,List.lookup_cons] at h
   have ck:kk=NameKind.free:=by
    rw[Bool.and_eq_true,Bool.and_eq_true] at aZ
    simpa using aZ.1.1
   cases hx:x==n with
   |true=>
    have:x=n:=by simpa using hx
    subst this;subst ck
    exact List.mem_cons_self
   |false=>rw[hx] at h;exact List.mem_cons_of_mem _ (ih h hk)
  ·rw[if_neg aZ,List.lookup_cons] at h
   cases hx:x==n with
   |true=>
    rw[hx] at h
    have eY:kk=k:=Option.some.inj h
    have:x=n:=by simpa using hx
    subst this;subst eY
    rcases hk with z |z
    ·exact absurd z hh
    ·subst z;exact List.mem_cons_self
   |false=>rw[hx] at h;exact List.mem_cons_of_mem _ (ih h hk)
theorem Q9 {env:Env}:∀{names:List (Str×NameKind)}{x:Str},names.lookup x=some .free->
  let l:=(names.map λ(n,k)=>if(k==NameKind.free&&env.scope.kind== .function&&env.kindOf n==some .cell) then(n,NameKind.cell) else(n,k))
  l.lookup x=some .cell∨l.lookup x=some .free
 | [],_,h=>by simp at h
 | (n,kk)::r,x,h=>by
  have ih:=@Q9 env r x
  simp only[List.map_cons]
  rw[List.lookup_cons] at h
  by_cases aZ:(kk==NameKind.free&&env.scope.kind== .function&&env.kindOf n==some .cell)=true
  ·rw[if_pos aZ,List.lookup_cons]
   cases hx:x==n with
   |true=>exact .inl rfl
   |false=>rw[hx] at h;exact ih h
  ·rw[if_neg aZ,List.lookup_cons]
   cases hx:x==n with
   |true=>rw[hx] at h;exact .inr h
   |false=>rw[hx] at h;exact ih h
abbrev Cx.comp (X:Cx)(N:List Str)(scope:Scope)(cl:List (Str×Addr))(C:Addr)(s:Shared)(H:Hp)(ex:List Addr)(E:Value->Shared->Prop):Cx:=
 {X with N:=N,s₀:=s,H₀:=H,env:=compEnvC scope cl C X.env,outer:=X.stack,ex:=ex,fn:=λ_=>false,pn:=[],xe:=E}
def PTs (X:Cx)(bd:List Expr)(t:TT):Prop:=
 ∀(aa:List (Addr×Obj)) (s:Shared) (σ:St) (H:Hp) (Q:Bool->Hp->Prop),Inv X aa σ H s->t σ H Q->
  wpAny (model X.prog X.w) X.A (forIn bd true λc r=>if r=true then do let ok ←isTrue c X.env (eval c X.env);pure (ForInStep.yield ok) else pure (ForInStep.yield r)) (TP X aa σ Q) X.xe s
def Dl:TT:=λ_ H Q=>Q true H
theorem TB {A B:Hp->Prop}(h:A H):Dl σ H λc H5=>if c=true then A H5 else B H5:=by
 show if true=true then A H else B H
 rw[if_pos rfl]
 exact h
theorem Y3:PTs X [] Dl:=λ_ _ _ H _ I h=>wpAny_tests_nil ⟨H,I,h⟩
theorem KW (h:PT X c t):PTs X [c] t:=λaa s σ H Q I hw=>wpAny_tests_one (h aa s σ H Q I hw)
def Ki (n:Nat)(g:TG):Prop:=∀ x σ H Q,g x σ H Q->g x σ H λσ2 H2=>Q σ2 H2/\σ2.length=σ.length/\∀i,n<=i->σ2[i]?=σ[i]?
theorem YB (h:i<n):Ki n (YY i):=λx σ H Q q=>⟨q,by simp,λj hj=>by rw[List.getElem?_set_ne (by lia)]⟩
theorem Ra (hi:i<n)(hj:j<n):Ki n (O4 K 2 (QP (YY i) (QP (YY j) RW))):=λx σ H Q q=>by
 obtain⟨a,xs,e1,hq,hl,v,r,e2,w,r2,e3,e4,q⟩:=q
 exact⟨a,xs,e1,hq,hl,v,r,e2,w,r2,e3,e4,q,by simp,λk hk=>by rw[List.getElem?_set_ne (by lia),List.getElem?_set_ne (by lia)]⟩
def Yt (n:Nat)(caps:List (Nat×Str))(σ:St):St:=List.replicate n none++caps.map λp=>(σ[p.1]?).join
def N1 (g:TG)(tt:TT)(te:TE)(σ:St)(Q:VK)(J:It)(W:Nat->Nat->List V->Hp->Prop):Prop:=
 ∀i m ys H2,W i m ys H2->ys.length<=sizeLine/\
  ((J.stop i H2/\∀p,H2 p=none->Q (.ref p) (upd H2 p (.lst ys)))∨
  (J.go i H2/\∃N:List V->Hp->Prop,(∀ys' H',N ys' H'->∃m',m'<m/\W (i+1) m' ys' H')/\∀x H3,J.yld i H2 x H3->g x σ H3 λσ4 H4=>tt σ4 H4 λc H5=>
   if c=true then te σ4 H5 λv H6=>N (ys++[v]) H6 else N ys H5))
def OF (n:Nat)(caps:List (Nat×Str))(g:TG)(tt:TT)(te:TE)(σ:St)(Q:VK)(J:It)(H1:Hp):Prop:=
 ∃W:Nat->Nat->List V->Hp->Prop,(∃m,W 0 m [] H1)/\N1 g tt te (Yt n caps σ) Q J W
def B1 (n:Nat)(caps:List (Nat×Str))(wi:TI)(g:TG)(tt:TT)(te:TE):TE:=λσ H Q=>wi σ H λJ H1=>OF n caps g tt te σ Q J H1
def Cr (sc scope:Scope)(N0 tns:List Str)(caps:List (Nat×Str)):Bool:=
 scope.kind== .function&&scope.names.all (λy=>!(y.2== .cell))&&scope.names.all (λy=>!(y.2== .local) || scope.names.lookup y.1==some .local)&&
 scope.names.all (λy=>!(y.2== .free) || sc.names.lookup y.1==some .cell)&&caps.all (λp=>N0[p.1]?==some p.2&&sc.names.lookup p.2==some .cell&&scope.names.lookup p.2==some .free)
theorem CF {p:α}{P:Prop}(h:p∈([]:List α)):P:=nomatch h
def T1 (M:Model)(A:Around)(ba tg:Expr)(bd:List Expr)(acc:Value)(env:Env)(E:Value->Shared->Prop)(K:Shared->Prop)(v:Value)(s:Shared):Prop:=
 wpAny M A (assign tg env v) (λ_ s₂=>wpAny M A (forIn bd true λc r=>if r=true then do let ok ←isTrue c env (eval c env);pure (ForInStep.yield ok) else pure (ForInStep.yield r)) (λok s₃=>
  if ok=true then wpAny M A (eval ba env) (λx s₄=>wpAny M A (call (.builtin "list.append") [acc,x]) (λ_ s₅=>K s₅) E s₄) E s₃ else K s₃) E s₂) E s
def WR (M:Model)(A:Around)(ba tg:Expr)(bd:List Expr)(it acc:Value)(env:Env)(E:Value->Shared->Prop)(Rn K:Shared->Prop)(s:Shared):Prop:=
 wpAny M A (pyNext it) (λr s₁=>r=none/\Rn s₁∨∃v,r=some v/\wpAny M A (letOwnedTupleGo tg it v) (λ_ s₁=>T1 M A ba tg bd acc env E K v s₁) E s₁) E s
section
theorem Ba (I:Nat->Shared->Prop)(hE:(notedBy (model prog w) A env λe s'=>R (.error e) s')=E)
  (turn:∀n s,I n s->WR (model prog w) A ba cu bd it acc env E (λs=>R (.ok .next) s) (λs=>∃ m,m<n/\I m s) s)(n:Nat)(h:I n s):
  codeAny (model prog w) A (.compLoop (.ListComp ba [⟨cu,iter,bd,0⟩] scope pos) 0 it acc env) R s:=by
 subst hE
 refine codeAny_loop rfl I (λn s hI=>?_) n h
 show wpAny _ A ((compTurn (.ListComp ba [⟨cu,iter,bd,0⟩] scope pos) 0 it acc env).onRaise (λx=>do noteFrame x env;theTreesLotGoes x)) _ _ s
 refine wpAny_noted ?_
 rw[compTurn_list]
 refine wpAny_bind (wpAny_standAt (wpAny_bind (thn (turn n s hI) λr s₁ h₁=>?_)))
 rcases h₁ with⟨rfl,h₁⟩ | ⟨v,rfl,h₁⟩
 ·exact wpAny_pure h₁
 ·refine wpAny_bind (thn h₁ λ_ s₁' h₁'=>wpAny_bind (thn h₁' λ_ s₂ h₂=>wpAny_bind (thn h₂ λok s₃ h₃=>?_)))
  cases ok with
  |false=>exact wpAny_pure ⟨rfl,h₃⟩
  |true=>exact wpAny_bind (wpAny_bind (thn h₃ λx s₄ h₄=>wpAny_bind (thn h₄ λ_ s₅ h₅=>wpAny_pure (wpAny_pure ⟨rfl,h₅⟩))))
end
def lob (its:List Value)(k:Nat):Obj:={cls:=.type "list",data:=.seq (List.toArray its) k}
structure CIn (Y:Cx)(tn:Nat->Heap->Prop)(fp:List Addr)(D:Addr)(σ:St)(i:Nat)(H:Hp)(o:Obj)(s:Shared):Prop where
 I:Inv Y [] σ H s
 t:tn i s.heap
 f:∀b∈fp,H b=none
 l:s.heap.get? D=some o
 n:H D=none
inductive CI (Y:Cx)(tn:Nat->Heap->Prop)(fp:List Addr)(D:Addr)(σ:St)(W:Nat->Nat->List V->Hp->Prop)(m:Nat)(s:Shared):Prop
 |mk (i:Nat) (H:Hp) (ys:List V) (its:List Value) (k:Nat) (c:CIn Y tn fp D σ i H (lob its k) s) (r:Yf ys its) (w:W i m ys H)
structure CAt (Y:Cx)(fp:List Addr)(D:Addr):Prop where
 calm:Y.calm=true
 pn:Y.pn=[]
 ne:D≠Y.env.locals
 fs:D∉Y.fs
 sz:Y.s₀.heap.objs.size<=D
 cl:∀x c,Y.env.cells.lookup x=some c->c≠D
 fpn:∀b∈fp,b≠D
 ok:∀b∈fp,∀H:Hp,H b=none->Br Y [] H b
section
variable {Y:Cx}{tn:Nat->Heap->Prop}{fp:List Addr}{D it:Addr}{ba iter:Expr}{J:It}{g:TG}{tt:TT}{i:Nat}{o:Obj}{Kn:Shared->Prop}
theorem CAt.pns (c:CAt Y fp D)(hn:∀b∈fp,H b=none):∀b∈fp,Br Y [(D,o)] H b:=λb hb=>
 have z:=c.ok b hb H (hn b hb)
 ⟨z.1,z.2.1,z.2.2.1,z.2.2.2.1,z.2.2.2.2.1,λp hp e=>by
  rw[c.pn] at hp
  cases List.mem_singleton.mp hp
  exact c.fpn b hb e.symm⟩
theorem E6 (T:Turn Y.prog Y.w Y.K tg J fp it tn)(t:tn i h5)(I:Inv Y ([(D,o)]++Bc fp h5) σ H s):CIn Y tn fp D σ i H o s:=
 have p:=I.pin (D,o) (List.mem_append_right _ (.head _))
 have q:∀b∈fp,∀o',h5.get? b=some o'->s.heap.get? b=some o'/\H b=none:=λb hb o' e=>have z:=I.pin (b,o') (List.mem_append_right _ (.tail _ (UF hb e)));⟨z.1,z.2.1⟩
 ⟨I.pins_of (pins':=[]) λ_ h=>CF h,T.keep _ _ _ t λb hb o' e=>(q b hb o' e).1,λb hb=>(T.obj _ _ t b hb).elim λo' e=>(q b hb o' e.1).2,p.1,p.2.1⟩
theorem AA (T:Turn Y.prog Y.w Y.K tg J fp it tn)(a:CAt Y fp D)(c:CIn Y tn fp D σ i H (lob its k) s)(hz:its.length<=sizeLine)
  (hQ:∀k' s',CIn Y tn fp D σ i H (lob (its++[v]) k') s'->Kn s'):wpAny (model Y.prog Y.w) Y.A (call (.builtin "list.append") [.ref D,v]) (λ_ s=>Kn s) E s:=by
 refine call_meets F.slot_list_append ⟨_,c.l,rfl⟩ F.entry_list_append (F.args_list_append_2 _ _) (PySem.list_append D (List.toArray its) k v hz) ⟨c.l,?_⟩
 have q:∃k',PySem.IsL (s.heap.update D (Obj.mapSeq (·.push v))) D ((List.toArray its).push v) k':=⟨_,PySem.IsL.update c.l (·.push v)⟩
 rw[List.push_toArray] at q
 obtain⟨k',q⟩:=q
 exact hQ k' _ ⟨c.I.turned (t':=s.toks) (h':=s.heap.update D (Obj.mapSeq (·.push v))) (it:=D) (λb o dA e=>(Heap.get?_update_other s.heap _ (Ne.symm dA)).trans e) c.n a.ne (.inr a.sz) a.cl (λp hp=>by rw[a.pn] at hp;exact CF hp),
  T.keep _ _ _ c.t λb hb o e=>(Heap.get?_update_other s.heap _ (Ne.symm (a.fpn b hb))).trans e,c.f,q,c.n⟩
theorem NT {N:List V->Hp->Prop}{x:V}(hg:PG Y tg g)(ht:PTs Y bd tt)(he:PE Y ba te)(hG:Ki n g)(h0:∀(j:Nat) v,σ[j]?=some (some v)->n<=j)
  (I:Inv Y aa σ H s)(r:Ya x u)(st:g x σ H λσ4 H4=>tt σ4 H4 λc H5=>if c=true then te σ4 H5 λv H6=>N (ys++[v]) H6 else N ys H5)
  (hF:∀H7 s7,Inv Y aa σ H7 s7->N ys H7->Kn s7)(hT:∀H8 s8 y v,Inv Y aa σ H8 s8->Ya y v->N (ys++[y]) H8->wpAny (model Y.prog Y.w) Y.A (call (.builtin "list.append") [acc,v]) (λ_ s=>Kn s) Y.xe s8):
  T1 (model Y.prog Y.w) Y.A ba tg bd acc Y.env Y.xe Kn u s:=by
 refine thn (hg _ s _ H x u _ I r (hG _ _ _ _ st)) λ_ s6 r9=>?_
 obtain⟨σ6,H6,I6,q6,l6,k6⟩:=r9
 have wk:∀(j:Nat) v,σ[j]?=some (some v)->σ6[j]?=some (some v):=λj v e=>(k6 j (h0 j v e)).trans e
 refine thn (ht _ s6 σ6 H6 _ I6 q6) λc s7 r9=>?_
 obtain⟨H7,I7,q7⟩:=r9
 cases c with
 |false=>exact hF _ _ (I7.weak l6.symm wk) q7
 |true=>exact thn (he _ s7 σ6 H7 _ I7 q7) λv8 s8 r9=>by obtain⟨y8,H8,I8,r8,n8⟩:=r9;exact hT _ _ _ _ (I8.weak l6.symm wk) r8 n8
theorem Ff {Q:V->Hp->Prop}(hE:(notedBy (model Y.prog Y.w) Y.A Y.env λe s'=>R (.error e) s')=Y.xe)
  (T:Turn Y.prog Y.w Y.K tg J fp it tn)(hG:Ki n g)(hg:PG Y tg g)(ht:PTs Y bd tt)(he:PE Y ba te)(a:CAt Y fp D)(h0:∀(j:Nat) v,σ[j]?=some (some v)->n<=j)
  (turn:N1 g tt te σ Q J W)
  (hEnd:∀ys its k H3 s4,Inv Y [(D,lob its k)] σ H3 s4->Yf ys its->ys.length<=sizeLine->Q (.ref D) (upd H3 D (.lst ys))->R (.ok .next) s4)(hi:CI Y tn fp D σ W m0 s):
  codeAny (model Y.prog Y.w) Y.A (.compLoop (.ListComp ba [⟨tg,iter,bd,0⟩] scope pos) 0 (.ref it) (.ref D) Y.env) R s:=by
 refine Ba (CI Y tn fp D σ W) hE (λm s3 c=>?_) m0 hi
 cases c with
 |mk i H3 ys its k c rv w3=>
 have I3:Inv Y [(D,lob its k)] σ H3 s3:=c.I.pins_of λp hp=>List.mem_singleton.mp hp▸⟨c.l,c.n,a.ne,a.fs,λ_ z=>by cases z⟩
 have t:=turn i m ys H3 w3
 refine t.2.elim (λq=>?_) λq=>?_
 ·exact thn (T.done Y rfl rfl rfl a.calm i _ s3 _ H3 Y.xe I3 (a.pns c.f) c.t q.1) λr s4 h=>.inl ⟨h.1,hEnd ys its k H3 s4 h.2 rv t.1 (q.2 D c.n)⟩
 ·refine q.2.elim λNN h=>?_
  refine thn (T.item Y rfl rfl rfl a.calm i _ s3 _ H3 Y.xe I3 (a.pns c.f) c.t q.1) λr s4 h4=>.inr (h4.elim λu h4=>⟨u,h4.1,thn h4.2 λ_ s5 h5=>h5.elim λx h5=>h5.elim λH5 h5=>?_⟩)
  exact NT hg ht he hG h0 (h5.1.pinned (a.pns h5.2.2.2.2) (T.obj _ _ h5.2.2.2.1)) h5.2.1 (h.2 x H5 h5.2.2.1)
   (λH7 s7 I7 q7=>(h.1 _ _ q7).elim λm' z=>⟨m',z.1, .mk (i+1) H7 ys its k (E6 T h5.2.2.2.1 I7) rv z.2⟩)
   λH8 s8 y v I8 r8 q8=>(h.1 _ _ q8).elim λm' z=>AA T a (E6 T h5.2.2.2.1 I8) (rv.length▸t.1) λk' s' c'=>⟨m',z.1, .mk (i+1) H8 (ys++[y]) (its++[v]) k' c' (rv.append (.cons r8 .nil)) z.2⟩
end
section
variable {ba iter:Expr}{sc:Scope}{tns:List Str}{wi:TI}{g:TG}{tt:TT}
structure CompEnd (X:Cx)(aa:List (Addr×Obj))(σ:St)(H3:Hp)(D C:Addr)(ys:List V)(s':Shared):Prop where
 inv:Inv X aa σ (upd H3 D (.lst ys)) s'
 fresh:H3 D=none
 fp:Br X aa (upd H3 D (.lst ys)) C
 ns:∃m,s'.heap.Ns C m
theorem Hm {D:Addr}(I:Inv X aa σ H s)(hf:∀b∈fp,Br X aa H b)(hD:s.heap.objs.size<=D)(b9:D<C)
  (I4:Inv Y [(D,lob its k)] σ' H3 s4)(dO:s4.os=s.os)(u:Un (frs X.stack) fp H H3 s.heap s4.heap)(hok:HOk X.prog X.w H3 s4.heap)(hC:Y.env.locals=C)(rv:Yf ys its)(hz:ys.length<=sizeLine):CompEnd X aa σ H3 D C ys s4:=by
 subst hC
 have p:=I4.pin (D,lob its k) (List.mem_append_right _ (.head _))
 have hDn:H3 D=none:=p.2.1
 have up:∀{b:Addr}{o:HO},H3 b=some o->upd H3 D (.lst ys) b=some o:=λe=>(XV (X2 e hDn)).trans e
 refine⟨I.call' (ch:=fp) dO ⟨u.keep,u.slot,λb o e nn hx=>(XV (Nat.ne_of_lt (Nat.lt_of_lt_of_le (Heap.lt_size e) hD))).trans (u.free b o e nn hx),u.there,λb xs e=>up (u.tups b xs e),λb o xs e=>up (u.frzs b o xs e),λb ps e=>(u.tbls b ps e).elim λmore z=>⟨more,up z⟩⟩ (λa o e=>?_) I4.bare λb hb=>have z:=hf b hb;⟨z.2.2.2.1,z.2.1,z.2.2.2.2.1,z.2.2.2.2.2⟩,hDn,I.fpOk (Nat.le_trans hD (Nat.le_of_lt b9)) ((XV (Nat.ne_of_gt b9)).trans I4.free),I4.loc.elim λm z=>⟨m,z.1⟩⟩
 by_cases ha:a=D
 ·subst ha
  rw[X7] at e;cases e
  exact⟨hz,its,k,rv,p.1⟩
 ·rw[XV ha] at e
  exact(hok a o e).stay (λb u _ q=>q) (λb q=>up q) λb xs q=>up q
def AH (X:Cx)(ba tg iter:Expr)(bd:List Expr)(scope:Scope)(pos:Pos)(it:Value)(cl:List (Str×Addr))(RR:Value->Addr->Result->Shared->Prop)(E:Value->Shared->Prop)(s:Shared):Prop:=
 wpAny (model X.prog X.w) X.A (newList []) (λacc s₃=>wpAny (model X.prog X.w) X.A (newFunctionEnv scope X.env.globals cl [] X.env.qual none .none (some X.env)) (λeB s₄=>
   codeAny (model X.prog X.w) X.A (.compStart (.ListComp ba [⟨tg,iter,bd,0⟩] scope pos) 0 it acc {eB with scope:=relabel scope X.env}) (RR acc eB.locals) s₄) E s₃) E s
theorem Gg (e:(Yt n caps σ)[i]?=some (some v)):n<=i/\∃p,caps[i-n]?=some p/\σ[p.1]?=some (some v):=by
 unfold Yt at e
 by_cases h:i<n
 ·rw[List.getElem?_append_left (by simpa using h),List.getElem?_replicate,if_pos h] at e
  cases e
 ·have hi:=Nat.le_of_not_lt h
  rw[List.getElem?_append_right (by simpa using hi),List.length_replicate,List.getElem?_map] at e
  refine⟨hi,?_⟩
  cases ge:caps[i-n]? with
  |none=>rw[ge] at e;cases e
  |some p=>
   rw[ge] at e
   exact⟨p,rfl,Option.join_eq_some_iff.mp (Option.some.inj e)⟩
structure COk (X:Cx)(scope:Scope)(caps:List (Nat×Str)):Prop where
 kind:scope.kind= .function
 cell:∀y∈scope.names,y.2≠NameKind.cell
 loc:∀y∈scope.names,y.2= .local->scope.names.lookup y.1=some .local
 free:∀y∈scope.names,y.2= .free->X.env.scope.names.lookup y.1=some .cell
 caps:∀p∈caps,(X.N[p.1]?=some p.2/\X.env.scope.names.lookup p.2=some .cell)/\scope.names.lookup p.2=some .free
theorem COk.of (dq:X.env.scope=sc)(dB:X.N=N0)(ok:Cr sc scope N0 tns caps=true):COk X scope caps:=by
 subst dq
 subst dB
 unfold Cr at ok
 simp only[Bool.and_eq_true,List.all_eq_true,beq_iff_eq,Bool.or_eq_true,Bool.not_eq_true',beq_eq_false_iff_ne] at ok
 exact⟨ok.1.1.1.1,ok.1.1.1.2,λy hy e=>(ok.1.1.2 y hy).resolve_left (absurd e),λy hy e=>(ok.1.2 y hy).resolve_left (absurd e),ok.2⟩
section
variable {fp:List Addr}{cl:List (Str×Addr)}{C:Addr}{h₁:Heap}
theorem Rq (ok:COk X scope caps)(I:Inv X aa σ H s)(hf:∀b∈fp,Br X aa H b)(av:∀b∈fp,b<s.heap.objs.size)
  (ar:∀x c,cl.lookup x=some c->X.env.cells.lookup x=some c)(aP:∀x,(x,NameKind.free)∈scope.names->∃c,cl.lookup x=some c)(hC:s.heap.objs.size<C):(X.comp N scope cl C s H fp E).Ok:=
 ⟨I.ok.mod,ok.kind,I.ok.glob,I.ok.blt,Nat.le_of_lt hC,λx y c h1 h2=>I.ok.inj x y c (ar x c h1) (ar y c h2),λx hx=>aP x (hx.elim (λz=>VH ok.cell z (.inl rfl)) λz=>VH ok.cell z (.inr rfl)),(λx c hx=>by cases hx),I.ok.hd,I.ok.frames, .inl rfl,
  λb hb=>⟨Nat.ne_of_lt (Nat.lt_trans (av b hb) hC),λx c e=>(hf b hb).2.2.2.2.1 x c (ar x c e)⟩,I.bs,Nat.le_trans I.ok.bsz I.sz,λb o e hb=>(hf b hb).2.2.2.1.elim (I.ok.noex b o e) λz=>absurd (Nat.lt_of_lt_of_le (Heap.lt_size e) (Nat.le_trans I.ok.bsz z)) (Nat.lt_irrefl _),
  λb hb hz=>(List.mem_cons.mp (I.stkSub b hz)).elim (hf b hb).2.1 (hf b hb).2.2.1,I.stack,I.stkFree⟩
theorem NQ (eC:COk X scope caps)(hn:tns.length=n)(ok:(X.comp (tns++caps.map (·.2)) scope cl C s H fp E).Ok)(I:Inv X aa σ H s)
  (ar:∀x c,cl.lookup x=some c->X.env.cells.lookup x=some c)(aP:∀x,(x,NameKind.free)∈scope.names->∃c,cl.lookup x=some c)(hC:s.heap.objs.size<C)(dP:h₁.Ns C λ_=>none)(bP:∀b o,s.heap.get? b=some o->h₁.get? b=some o){tk:Nat}:
  Inv (X.comp (tns++caps.map (·.2)) scope cl C s H fp E) [] (Yt n caps σ) H {s with heap:=h₁,toks:=tk}:=by
 refine⟨ok,rfl,I.bare,Un.kept bP,⟨_,dP,λi x v e1 e2 _=>?_⟩,λx c e=>(I.cell x c (ar x c e)).elim λv z=>z.elim λo z=>⟨v,o,bP _ _ z.1,z.2⟩,I.hok.fresh (Nat.le_of_lt hC),λx c e=>I.freeC x c (ar x c e),λp hp=>CF (α:=Addr×Obj) hp,I.hok.kept bP,by simp[Yt,hn]⟩
 obtain⟨hi,p,hp,hσ⟩:=Gg e2
 have fN:(tns++caps.map (·.2))[i]?=some x:=e1
 rw[List.getElem?_append_right (hn▸hi),hn,List.getElem?_map,hp] at fN
 cases Option.some.inj fN
 have p5:=eC.caps p (List.mem_of_getElem? hp)
 obtain⟨m,hm,hl⟩:=I.loc
 obtain⟨u,r,l⟩:=hl p.1 p.2 v p5.1.1 hσ (.inr (.inl p5.1.2))
 refine⟨u,r, .inr ?_⟩
 rcases l with⟨k,_⟩ | ⟨k,c,e,z⟩
 ·cases p5.1.2.symm.trans k
 ·obtain⟨c',e'⟩:=aP p.2 (mem_of_lookup p5.2)
  cases e.symm.trans (ar _ _ e')
  exact⟨Q9 (env:=X.env) p5.2,c,e',z.elim λo z=>⟨o,bP _ _ z.1,z.2⟩⟩
variable {J:It}{it:Addr}{tn:Nat->Heap->Prop}{Q:V->Hp->Prop}{RR:Value->Addr->Result->Shared->Prop}{W:Nat->Nat->List V->Hp->Prop}{m0:Nat}
theorem RY (ok:COk X scope caps)(hc:X.calm=true)(hn:tns.length=n)(hG:Ki n g)
  (hb:∀cl C s H ex E,PG (X.comp (tns++caps.map (·.2)) scope cl C s H ex E) tg g/\PTs (X.comp (tns++caps.map (·.2)) scope cl C s H ex E) bd tt/\PE (X.comp (tns++caps.map (·.2)) scope cl C s H ex E) ba te)
  (I:Inv X aa σ H s)(T:Turn X.prog X.w X.K tg J fp it tn)(t0:tn 0 s.heap)(hf:∀b∈fp,Br X aa H b)
  (ar:∀x c,cl.lookup x=some c->X.env.cells.lookup x=some c)(aP:∀x,(x,NameKind.free)∈scope.names->∃c,cl.lookup x=some c)
  (w0:W 0 m0 [] H)(turn:N1 g tt te (Yt n caps σ) Q J W)
  (gJ:∀D C ys H3 s',CompEnd X aa σ H3 D C ys s'->Q (.ref D) (upd H3 D (.lst ys))->RR (.ref D) C (.ok .next) s')
  (hC:s.heap.objs.size<C)(dP:h₁.Ns C λ_=>none)(bP:∀b o,s.heap.get? b=some o->h₁.get? b=some o)(dC:h₁.get? s.heap.objs.size=some (lob [] 0)){tk:Nat}:
  codeAny (model X.prog X.w) X.A (.compStart (.ListComp ba [⟨tg,iter,bd,0⟩] scope pos) 0 (.ref it) (.ref s.heap.objs.size) (compEnvC scope cl C X.env)) (RR (.ref s.heap.objs.size) C) {s with heap:=h₁,toks:=tk}:=by
 have av:∀b∈fp,b<s.heap.objs.size:=λb hb=>(T.obj _ _ t0 b hb).elim λo e=>Heap.lt_size e.1
 have okY:∀E,(X.comp (tns++caps.map (·.2)) scope cl C s H fp E).Ok:=λE=>Rq ok I hf av ar aP hC
 have t1:tn 0 h₁:=T.keep _ _ _ t0 λb _ o e=>bP b o e
 have cQ:∀tk,codeAny (model X.prog X.w) X.A (.compLoop (.ListComp ba [⟨tg,iter,bd,0⟩] scope pos) 0 (.ref it) (.ref s.heap.objs.size) (compEnvC scope cl C X.env)) (RR (.ref s.heap.objs.size) C) {s with heap:=h₁,toks:=tk}:=λtk=>
  have z:=hb cl C s H fp (notedBy (model X.prog X.w) X.A (compEnvC scope cl C X.env) λe s'=>RR (.ref s.heap.objs.size) C (.error e) s')
  Ff (Y:=X.comp (tns++caps.map (·.2)) scope cl C s H fp _) rfl T hG z.1 z.2.1 z.2.2
   ⟨hc,rfl,Nat.ne_of_lt hC,λhz=>(I.stack.mem hz).2.elim λo ho=>absurd (Heap.lt_size ho.1) (Nat.lt_irrefl _),Nat.le_refl _,λx c e=>(I.cell x c (ar x c e)).elim λv z=>Nat.ne_of_lt z.lt,λb hb=>Nat.ne_of_lt (av b hb),
    λb hb H' h'=>⟨h',Nat.ne_of_lt (Nat.lt_trans (av b hb) hC),(okY λ_ _=>True).exfs b hb, .inl hb,λx c e=>(hf b hb).2.2.2.2.1 x c (ar x c e),λp hp=>CF (α:=Addr×Obj) hp⟩⟩
   (λj v e=>(Gg e).1) turn (λys its k H3 s4 I4 rv hz q=>gJ _ C ys H3 s4 (Hm I hf (Nat.le_refl _) hC I4 I4.os I4.base I4.hok rfl rv hz) q)
   (.mk 0 H [] [] 0 ⟨NQ ok hn (okY _) I ar aP hC dP bP,t1,λb hb=>(hf b hb).1,dC,I.hok.fresh (Nat.le_refl _)⟩ .nil w0)
 exact codeAny_compStart_list (cQ _) (T.self _ 0 _ _ _ t1 (cQ _))
theorem Fb (ok:COk X scope caps)(hc:X.calm=true)(hn:tns.length=n)(hG:Ki n g)
  (hb:∀cl C s H ex E,PG (X.comp (tns++caps.map (·.2)) scope cl C s H ex E) tg g/\PTs (X.comp (tns++caps.map (·.2)) scope cl C s H ex E) bd tt/\PE (X.comp (tns++caps.map (·.2)) scope cl C s H ex E) ba te)
  (h:PIE X aa σ tg (λJ H1=>OF n caps g tt te σ Q J H1) fF s)
  (ar:∀x c,cl.lookup x=some c->X.env.cells.lookup x=some c)(aP:∀x,(x,NameKind.free)∈scope.names->∃c,cl.lookup x=some c)
  (gJ:∀D C ys H3 s',CompEnd X aa σ H3 D C ys s'->Q (.ref D) (upd H3 D (.lst ys))->RR (.ref D) C (.ok .next) s'):
  AH X ba tg iter bd scope pos fF cl RR E s:=by
 obtain⟨it,fp,tn,J,H',rfl,I,T,t0,hf,W,⟨m0,w0⟩,turn⟩:=h
 refine wpAny_newObj_type (wpAny_newFunctionEnv ok.cell (by intro y hy;simp at hy) (λh₁ eD cR=>?_) ok.kind)
 have hs:∀o,(s.heap.push o).objs.size=s.heap.objs.size+1:=λo=>Heap.size_push ..
 exact RY ok hc hn hG hb I T t0 hf ar aP w0 turn gJ (Nat.lt_of_lt_of_eq (Nat.lt_succ_self _) (hs _).symm) eD
  (λb o e=>cR.extBut b o (Nat.ne_of_lt (Nat.lt_trans (Heap.lt_size e) (Nat.lt_of_lt_of_eq (Nat.lt_succ_self _) (hs _).symm))) (Heap.get?_push_of_some _ (Heap.get?_push_of_some _ e)))
  (cR.extBut _ _ (Nat.ne_of_lt (Nat.lt_of_lt_of_eq (Nat.lt_succ_self _) (hs _).symm)) (Heap.get?_push_of_some _ (Heap.get?_push_size _ rfl)))
end
theorem RQ (sc:Scope)(N0:List Str)(tns:List Str)(caps:List (Nat×Str))(hc:X.calm=true)(hi:PI X tg iter wi)(hG:Ki tns.length g)
  (hb:∀cl C s H ex E,PG (X.comp (tns++caps.map (·.2)) scope cl C s H ex E) tg g/\PTs (X.comp (tns++caps.map (·.2)) scope cl C s H ex E) bd tt/\PE (X.comp (tns++caps.map (·.2)) scope cl C s H ex E) ba te)
  (dq:X.env.scope=sc:=by rfl)(dB:X.N=N0:=by rfl)(ok:Cr sc scope N0 tns caps=true:=by decide+kernel)
  (hs:∀x,foldedSetIterable iter X.env x=pure x:=by intro _;rfl):
  PE X (.ListComp ba [⟨tg,iter,bd,0⟩] scope pos) (B1 tns.length caps wi g tt te):=by
 intro aa s σ H Q I h
 have eC:=COk.of dq dB ok
 obtain⟨cl,gK,ar,aP⟩:=Ek (scope:=scope) (env:=X.env) λx hx dD=>I.ok.has x.1 (.inl (eC.free x hx dD))
 rw[eval_ListComp]
 exact wpAny_comprehension_free (use:=none) rfl hs gK eC.kind eC.loc (thn (hi aa s σ H _ I h) λxv s₁ h₁=>thn h₁ λfF s₂ h₂=>
  Fb (RR:=λacc C=>compPost (model X.prog X.w) X.A X.xe none (EP X aa σ Q) acc C) eC hc rfl hG hb h₂ ar aP λD C ys H3 s' ce q=>ce.ns.elim λmm dP=>
   ⟨mm,dP,λh' dz=>⟨.ref D,_,ce.inv.turned (t':=s'.toks) (λb o dA e=>(dz.extBut b o dA e)) ce.fp.1 ce.fp.2.1 ce.fp.2.2.2.1 ce.fp.2.2.2.2.1 ce.fp.2.2.2.2.2,rfl,q⟩⟩)
theorem Q6 (j:Nat)(sc:Scope)(N0:List Str)(tns:List Str)(caps:List (Nat×Str))(hc:X.calm=true)(hN:X.N.Nodup)(hj:X.N[j]?=some x)(hx:X.env.scope.names.lookup x=some .local)(hi:PI X tg iter wi)(hG:Ki tns.length g)
  (hb:∀cl C s H ex E,PG (X.comp (tns++caps.map (·.2)) scope cl C s H ex E) tg g/\PTs (X.comp (tns++caps.map (·.2)) scope cl C s H ex E) bd tt/\PE (X.comp (tns++caps.map (·.2)) scope cl C s H ex E) ba te)
  (dq:X.env.scope=sc:=by rfl)(dB:X.N=N0:=by rfl)(ok:Cr sc scope N0 tns caps=true:=by decide+kernel)
  (hsw:swapsWith (.ListComp ba [⟨tg,iter,bd,0⟩] scope pos) (some (.Name x px)) spos.line X.env=pure true:=by rfl)
  (hs:∀x,foldedSetIterable iter X.env x=pure x:=by intro _;rfl):
  PS X (.Assign [.Name x px] (.ListComp ba [⟨tg,iter,bd,0⟩] scope pos) spos) (Ha (B1 tns.length caps wi g tt te) (YY j)):=by
 intro aa s σ H D I h
 have eC:=COk.of dq dB ok
 obtain⟨cl,gK,ar,aP⟩:=Ek (scope:=scope) (env:=X.env) λx hx dD=>I.ok.has x.1 (.inl (eC.free x hx dD))
 rw[exec_Assign_Name_used _ _ _ _ hsw]
 refine wpAny_bind (wpAny_standAt (wpAny_bind ?_))
 show wpAny _ _ (do let _ ←comprehension (.ListComp ba [⟨tg,iter,bd,0⟩] scope pos) scope X.env _ (newList []) false (eval iter X.env) (some (assign (.Name x px) X.env))) _ _ s
 refine wpAny_bind (thn (wpAny_comprehension_free (use:=some (assign (.Name x px) X.env)) (Q:=λ_ s'=>SP X aa D .next s') rfl hs gK eC.kind eC.loc
  (thn (hi aa s σ H _ I h) λxv s₁ h₁=>thn h₁ λfF s₂ h₂=>?_)) λ_ s' hq=>wpAny_pure (wpAny_pure hq))
 refine Fb (Q:=λv H1=>YY j v σ H1 D.nx) (RR:=λacc C=>compPost (model X.prog X.w) X.A X.xe (some (assign (.Name x px) X.env)) (λ_ s'=>SP X aa D .next s') acc C) eC hc rfl hG hb h₂ ar aP ?_
 intro DD C ys H3 s' ce q
 obtain⟨mm,dP⟩:=ce.ns
 obtain⟨c0,c1,c2,c3,c4,c5⟩:=ce.fp
 show wpAny _ _ (assign (.Name x px) X.env (.ref DD)) _ _ _
 refine wpAny_assign_Name (Cq ce.inv hN hj (.inl hx) (v:=.ref DD) rfl (λs2 I2 chg=>?_) (.inr hx))
 obtain⟨c,hsb,hcc⟩:=chg
 have hCc:C≠c:=by
  rcases hcc with z |z
  ·rw[z];exact c1
  ·exact λe=>c4 x c z e.symm
 refine⟨mm,?_,λh' dz=>?_⟩
 ·obtain⟨o,es,ep,ho,r⟩:=dP
  exact⟨o,es,ep,(hsb.2 C hCc).trans ho,r⟩
 ·exact⟨_,_,I2.turned (t':=s2.toks) (λb o dA e=>(dz.extBut b o dA e)) c0 c1 c3 c4 c5,q⟩
end
section
variable {g:TG}{tt:TT}{Q:V->Hp->Prop}
end
section
def F8 (K:W.Frag):List V->Hp->VK->Prop:=λxs H Q=>∃ p ys,xs=[.ref p]/\(SqL K H p ys∨SqT K H p ys)/\∀l,H l=none->Q (.ref l) (upd H l (.lst ys))
def K6 (K:W.Frag):List V->Hp->VK->Prop:=λxs H Q=>∃ p ys,xs=[.ref p]/\(SqL K H p ys∨SqT K H p ys)/\Q (.int ys.length) H
theorem XQ (K:W.Frag)(h:X.K=K):ZZ X (.type "list") (F8 K):=by subst h;exact Bg
theorem Xj (K:W.Frag)(h:X.K=K):ZZ X (.builtin "len") (K6 K):=by subst h;exact Bf
theorem X1 (K:W.Frag)(h:X.K=K):IxR X (Ih K):=by subst h;exact RL
theorem XX (K:W.Frag)(h:X.K=K):IxR X (Ex K):=by subst h;exact Tc
theorem YC (K:W.Frag)(h:X.K=K):SlR X (T2 K):=by subst h;exact RC
theorem Rx (K:W.Frag)(h:X.K=K)(hc:X.calm=true)(hh:PGs X es t)
  (hn:(assignEach es X.env).length=n:=by rfl)(gD:(assignEach es X.env).findIdx? (·.1)=none:=by rfl):PG X (.Tuple es k pos) (O4 K n t):=by subst h;exact VX hc hh hn gD
end
structure Fn (P:Program)(w:World)(K:W.Frag)(mg:Str->Option Value)(base:Heap)(k:Nat)(x:Str)(ps:List Str)(sp:Sp):Prop where
 ex:∃f fd,FnOk P w K mg base CX0 k f fd ps sp/\El K fd ps []/\W.keepIn K (.ref f)=true/\mg x=some (.ref f)
section
variable {sp:Sp}{t:TA}{p:Pos}
theorem Xt (G:Fn X.prog X.w X.K X.mg X.base k x ps sp)(hr:Room j X.A)(hj:k<=j)(ha:PA X (e::es) t)(hg:Gl X x:=by rfl)(fI:(x==("__debug__":Str))=false:=by decide)
  (he:starEach (e::es) X.env=(false,eval e X.env)::starEach es X.env:=by rfl)(bO:(backTo pos (starEach es X.env)).any (·.1)=false:=by rfl):
  PE X (.Call (.Name x p) (e::es) [] pos) (Vn sp [] E0 t):=by
 obtain⟨f,fd,F,b,kp,m⟩:=G.ex
 exact RS F (hr.mono hj) hg m kp b .nil WC ha fI he bO
end
def Def (K:W.Frag)(mg:Str->Option Value)(x:Str)(st:Stmt)(ps:List Str):Prop:=∃ f fd,Fun K x x st f fd/\El K fd ps []/\mg x=some (.ref f)
theorem Kl {st:Stmt}{sp:Sp}(D:Def K mg x st ps)(S:FnScope N ps (Xg st))(len:∀vs H Q E,sp vs H Q E->vs.length=ps.length)
  (cJ:∀(f:Addr) (am:Value) (A:Around) (outer:List Env) (s:Shared) (H:Hp) (vs:List V) (Q:VK) (E:XK),Room k (A.deeper (envOfC x (Xg st) s.heap.objs.size f am))->sp vs H Q E->
   ∃t,PSs (Ia CX0 P w K mg base N x (Xg st) f am A outer s H E).nox (Yj st) t/\t {nx:=λ_ H'=>Q .non H',rt:=Q} (Ge N vs) H):Fn P w K mg base (k+1) x ps sp:=by
 obtain⟨f,fd,F,b,m⟩:=D
 exact⟨f,fd,F.ok S len (cJ f),b,F.kp,m⟩
theorem Km {a d:Nat}(h:d<=8)(hu:a+8<c):a+d<c:=by omega
theorem XH (h:H p=none)(o:HO):Xx H (upd H p o):=λb u q=>by rw[XV (X2 q h)];exact q
theorem Xx.seqT (e:Xx H H')(h:SqT K H a xs):SqT K H' a xs:=by
 rcases h with(h | ⟨o,h⟩) |h
 ·exact .inl (.inl (e _ _ h))
 ·exact .inl (.inr ⟨o,e _ _ h⟩)
 ·exact .inr h
theorem hu8 (hr:Room k A):A.units+8<cLine:=Nat.lt_of_le_of_lt (Nat.add_le_add_left (by decide:8<=64) _) hr.units
abbrev Enc (α:Type):=W.Frag->Hp->V->α->Prop
def Xf:Enc Int:=λ_ _ v i=>v= .int i
def rL (r:Enc α):Enc (List α):=λK H v as=>∃ a xs,v= .ref a/\SqL K H a xs/\Paired (r K H) xs as
def rT2 (r:Enc α)(q:Enc β):Enc (α×β):=λK H v p=>∃ a x y,v= .ref a/\SqT K H a [x,y]/\r K H x p.1/\q K H y p.2
theorem Paired.getL:∀{l:List α}{m:List β}{i:Nat}{a:α},Paired F l m->l[i]?=some a->∃b,m[i]?=some b/\F a b
 |_,_,_,_, .nil,e=>by simp at e
 |_,_,0,_, .cons r _,e=>by simp at e;subst e;exact⟨_,rfl,r⟩
 |_,_,i+1,a, .cons _ t,e=>by
  obtain⟨b,h1,h2⟩:=Paired.getL (i:=i) (a:=a) t (by simpa using e)
  exact⟨b,by simpa using h1,h2⟩
theorem Paired.getR:∀{l:List α}{m:List β}{i:Nat}{b:β},Paired F l m->m[i]?=some b->∃a,l[i]?=some a/\F a b
 |_,_,_,_, .nil,e=>by simp at e
 |_,_,0,_, .cons r _,e=>by simp at e;subst e;exact⟨_,rfl,r⟩
 |_,_,i+1,b, .cons _ t,e=>by
  obtain⟨a,h1,h2⟩:=Paired.getR (i:=i) (b:=b) t (by simpa using e)
  exact⟨a,by simpa using h1,h2⟩
theorem Paired.len (h:Paired F l m):l.length=m.length:=Paired.length h
theorem Paired.app:∀{l l':List α}{m m':List β},Paired F l m->Paired F l' m'->Paired F (l++l') (m++m'):=λp h=>by
 induction p with
 |nil=>exact h
 |cons r _ ih=>exact .cons r ih
theorem BS (ns:List Int):∀{K:W.Frag}{H:Hp},Paired (Xf K H) (ns.map V.int) ns:=by
 intro K H
 induction ns with
 |nil=>exact .nil
 |cons n r ih=>exact .cons rfl ih
theorem Ga:∀{xs:List V}{ns:List Int}{K:W.Frag}{H:Hp},Paired (Xf K H) xs ns->xs=ns.map V.int
 |_,_,_,_, .nil=>rfl
 |_,_,_,_, .cons r t=>by
  have r':_=V.int _:=r
  rw[r',Ga t];rfl
structure EqOk {α:Type}[DecidableEq α](r:Enc α)(d:Nat):Prop where
 uniq:∀{X:Cx}{aa:List (Addr×Obj)}{σ:St}{H:Hp}{s:Shared}{x:V}{a b:α},Inv X aa σ H s->r X.K H x a->r X.K H x b->a=b
 eq:∀{X:Cx}{aa:List (Addr×Obj)}{σ:St}{H:Hp}{s:Shared}{x y:V}{v u:Value}{a b:α}{A:Around},Inv X aa σ H s->Ya x v->Ya y u->r X.K H x a->r X.K H y b->A.units+d<cLine->SeqAt.EqAt A s v u (decide (a=b))
 rc:∀{X:Cx}{aa:List (Addr×Obj)}{σ:St}{H:Hp}{s:Shared}{x y:V}{v u:Value}{a b:α}{A:Around},Inv X aa σ H s->Ya x v->Ya y u->r X.K H x a->r X.K H y b->A.units+d<cLine->SeqAt.RcAt A s v u (decide (a=b))
 ne:∀{X:Cx}{aa:List (Addr×Obj)}{σ:St}{H:Hp}{s:Shared}{x y:V}{v u:Value}{a b:α}{A:Around},Inv X aa σ H s->Ya x v->Ya y u->r X.K H x a->r X.K H y b->A.units+d<cLine->SeqAt.RcNeAt A s v u (!decide (a=b))
 keep:∀{K:W.Frag}{H H':Hp}{x:V}{a:α},Xx H H'->r K H x a->r K H' x a
theorem ZN (A:Around):A.in1.units=A.units+1:=rfl
theorem Nk {a b:Int}:(a==b)=decide (a=b):=by rw[Bool.eq_iff_iff];simp
theorem eq_int:EqOk Xf 0 where
 uniq:=λ_ h1 h2=>by
  have bB:_=V.int _:=h1
  have bv:_=V.int _:=h2
  rw[bB] at bv;injection bv
 eq:=fun {X aa σ H s x y v u a b A} I rx ry h1 h2 _=>by
  have bB:x=V.int a:=h1
  have bv:y=V.int b:=h2
  subst bB bv
  obtain⟨t,rfl⟩:=rx
  obtain⟨t',rfl⟩:=ry
  rw[←Nk];exact SeqAt.EqAt.int_int a t b t'
 rc:=fun {X aa σ H s x y v u a b A} I rx ry h1 h2 _=>by
  have bB:x=V.int a:=h1
  have bv:y=V.int b:=h2
  subst bB bv
  obtain⟨t,rfl⟩:=rx
  obtain⟨t',rfl⟩:=ry
  rw[←Nk];exact SeqAt.RcAt.int_int a t b t'
 ne:=fun {X aa σ H s x y v u a b A} I rx ry h1 h2 _=>by
  have bB:x=V.int a:=h1
  have bv:y=V.int b:=h2
  subst bB bv
  obtain⟨t,rfl⟩:=rx
  obtain⟨t',rfl⟩:=ry
  rw[←Nk];exact SeqAt.RcNeAt.int_int a t b t'
 keep:=λ_ h=>h
theorem BW [DecidableEq α](h:as.length=bs.length):(List.range as.length).all (λj=>decide (as[j]?=bs[j]?))=decide (as=bs):=by
 rw[Bool.eq_iff_iff]
 simp only[List.all_eq_true,List.mem_range,decide_eq_true_eq]
 constructor
 ·intro hh
  apply List.ext_getElem?
  intro i
  by_cases hi:i<as.length
  ·exact hh i hi
  ·rw[List.getElem?_eq_none (by omega),List.getElem?_eq_none (by omega)]
 ·rintro rfl;intros;rfl
theorem Paired.uniq (hu:∀a b c,F a b->F a c->b=c):∀{l:List α}{m m':List β},Paired F l m->Paired F l m'->m=m':=fun {l m m'} p=>by
 induction p generalizing m' with
 |nil=>intro q;cases q;rfl
 |cons r _ ih=>intro q;cases q with |cons r' t'=>rw[hu _ _ _ r r',ih t']
theorem Paired.imp2 (h:∀a b,F a b->G a b):∀{l:List α}{m:List β},Paired F l m->Paired G l m:=λp=>by
 induction p with
 |nil=>exact .nil
 |cons r _ ih=>exact .cons (h _ _ r) ih
section
variable [DecidableEq α]{r:Enc α}{d:Nat}
theorem FE (E:EqOk r d)(I:Inv X aa σ H s)(hu:A.units+(d+1)<cLine)
  (r1:Yf xs its)(r2:Yf ys aB)(p1:Paired (r X.K H) xs as)(p2:Paired (r X.K H) ys bs):
  ∀j (h1:j<its.toArray.size) (h2:j<aB.toArray.size),SeqAt.EqAt A.in1 s its.toArray[j] aB.toArray[j] (decide (as[j]?=bs[j]?)):=by
 intro j h1 h2
 have bB:j<its.length:=by simpa using h1
 have bv:j<aB.length:=by simpa using h2
 obtain⟨x,ex,rx⟩:=Paired.getR (i:=j) (b:=its[j]) r1 (by simp[bB])
 obtain⟨y,ey,ry⟩:=Paired.getR (i:=j) (b:=aB[j]) r2 (by simp[bv])
 obtain⟨a,ea,ra⟩:=Paired.getL p1 ex
 obtain⟨b,eb,rb⟩:=Paired.getL p2 ey
 have:=E.eq (A:=A.in1) I rx ry ra rb (by rw[ZN];omega)
 rw[ea,eb]
 simpa using this
theorem Px (E:EqOk r d):EqOk (rL r) (d+1):=by
 have un:∀{X:Cx}{aa:List (Addr×Obj)}{σ:St}{H:Hp}{s:Shared}{x:V}{a b:List α},Inv X aa σ H s->rL r X.K H x a->rL r X.K H x b->a=b:=by
  intro X aa σ H s x as bs I h1 h2
  obtain⟨a,xs,rfl,q1,p1⟩:=h1
  obtain⟨b,ys,e,q2,p2⟩:=h2
  cases e
  cases I.list_inj q1 q2
  exact Paired.uniq (F:=r X.K H) (λ_ _ _ z z'=>E.uniq I z z') p1 p2
 have rc:∀{X:Cx}{aa:List (Addr×Obj)}{σ:St}{H:Hp}{s:Shared}{x y:V}{v u:Value}{a b:List α}{A:Around},Inv X aa σ H s->Ya x v->Ya y u->rL r X.K H x a->rL r X.K H y b->A.units+(d+1)<cLine->SeqAt.RcAt A s v u (decide (a=b)):=by
  intro X aa σ H s x y v u as bs A I rx ry h1 h2 hu
  obtain⟨a,xs,rfl,q1,p1⟩:=h1
  obtain⟨b,ys,rfl,q2,p2⟩:=h2
  cases rx;cases ry
  obtain⟨its,r1,l1,_⟩:=I.list q1
  obtain⟨aB,r2,l2,_⟩:=I.list q2
  have n1:=r1.length
  have n2:=r2.length
  have m1:=Paired.len p1
  have m2:=Paired.len p2
  by_cases hl:as.length=bs.length
  ·have:=SeqAt.RcAt.lists (A:=A) (e:=λj=>decide (as[j]?=bs[j]?)) l1.isList l2.isList (by simp only[List.size_toArray];omega) (by omega) (FE E I hu r1 r2 p1 p2)
   rw[show its.toArray.size=as.length by simp only[List.size_toArray];omega,BW hl] at this
   exact this
  ·rw[decide_eq_false (λe=>hl (congrArg List.length e))]
   exact SeqAt.RcAt.lists_lengths l1.isList l2.isList (by simp only[List.size_toArray,bne_iff_ne];omega) (by omega)
 refine⟨un,?_,rc,?_,?_⟩
 ·intro X aa σ H s x y v u as bs A I rx ry h1 h2 hu
  obtain⟨a,xs,rfl,q1,p1⟩:=id h1
  obtain⟨b,ys,rfl,q2,p2⟩:=id h2
  have R:=rc (A:=A) I rx ry h1 h2 hu
  cases rx;cases ry
  by_cases e:a=b
  ·subst e
   rw[decide_eq_true (un I h1 h2)]
   exact SeqAt.EqAt.same _
  ·exact SeqAt.EqAt.of_refs e R
 ·intro X aa σ H s x y v u as bs A I rx ry h1 h2 hu
  obtain⟨a,xs,rfl,q1,p1⟩:=h1
  obtain⟨b,ys,rfl,q2,p2⟩:=h2
  cases rx;cases ry
  obtain⟨its,r1,l1,_⟩:=I.list q1
  obtain⟨aB,r2,l2,_⟩:=I.list q2
  have n1:=r1.length
  have n2:=r2.length
  have m1:=Paired.len p1
  have m2:=Paired.len p2
  by_cases hl:as.length=bs.length
  ·have:=SeqAt.RcNeAt.lists (A:=A) (e:=λj=>decide (as[j]?=bs[j]?)) l1.isList l2.isList (by simp only[List.size_toArray];omega) (by omega) (FE E I hu r1 r2 p1 p2)
   rw[show its.toArray.size=as.length by simp only[List.size_toArray];omega,BW hl] at this
   exact this
  ·rw[decide_eq_false (λe=>hl (congrArg List.length e))]
   exact SeqAt.RcNeAt.lists_lengths l1.isList l2.isList (by simp only[List.size_toArray,bne_iff_ne];omega) (by omega)
 ·intro K H H' x as e h
  obtain⟨a,xs,rfl,q1,p1⟩:=h
  exact⟨a,xs,rfl,e.seq q1,Paired.imp2 (λ_ _ z=>E.keep e z) p1⟩
end
section
variable [DecidableEq α][DecidableEq β]{r:Enc α}{q:Enc β}{d:Nat}
theorem E8 {a1 a2:α}{b1 b2:β}:(decide (a1=a2)&&decide (b1=b2))=decide ((a1,b1)=(a2,b2)):=by
 rw[Bool.eq_iff_iff];simp
theorem PY (E:EqOk r d)(F:EqOk q d):EqOk (rT2 r q) (d+1):=by
 have un:∀{X:Cx}{aa:List (Addr×Obj)}{σ:St}{H:Hp}{s:Shared}{x:V}{a b:α×β},Inv X aa σ H s->rT2 r q X.K H x a->rT2 r q X.K H x b->a=b:=by
  rintro X aa σ H s x ⟨a1,a2⟩ ⟨b1,b2⟩ I h1 h2
  obtain⟨a,x1,x2,rfl,q1,p1,p2⟩:=h1
  obtain⟨b,y1,y2,e,q2,p3,p4⟩:=h2
  cases e
  cases I.tuple_inj q1 q2
  rw[show a1=b1 from E.uniq I p1 p3,show a2=b2 from F.uniq I p2 p4]
 have its:∀{X:Cx}{aa:List (Addr×Obj)}{σ:St}{H:Hp}{s:Shared}{x1 x2 y1 y2:V}{u1 u2 w1 w2:Value}{a b:α×β}{A:Around},Inv X aa σ H s->Ya x1 u1->Ya x2 u2->Ya y1 w1->Ya y2 w2->
   r X.K H x1 a.1->q X.K H x2 a.2->r X.K H y1 b.1->q X.K H y2 b.2->A.units+(d+1)<cLine->
   ∀j (h1:j< [u1,u2].toArray.size) (h2:j< [w1,w2].toArray.size),SeqAt.EqAt A.in1 s [u1,u2].toArray[j] [w1,w2].toArray[j] ((λj=>if j=0 then decide (a.1=b.1) else decide (a.2=b.2)) j):=by
  intro X aa σ H s x1 x2 y1 y2 u1 u2 w1 w2 a b A I e1 e2 e3 e4 p1 p2 p3 p4 hu j h1 h2
  have hj:j=0∨j=1:=by
   have bB:j<2:=h1
   omega
  rcases hj with rfl |rfl
  ·exact E.eq (A:=A.in1) I e1 e3 p1 p3 (by rw[ZN];omega)
  ·exact F.eq (A:=A.in1) I e2 e4 p2 p4 (by rw[ZN];omega)
 have rc:∀{X:Cx}{aa:List (Addr×Obj)}{σ:St}{H:Hp}{s:Shared}{x y:V}{v u:Value}{a b:α×β}{A:Around},Inv X aa σ H s->Ya x v->Ya y u->rT2 r q X.K H x a->rT2 r q X.K H y b->A.units+(d+1)<cLine->SeqAt.RcAt A s v u (decide (a=b)):=by
  rintro X aa σ H s x y v u ⟨a1,a2⟩ ⟨b1,b2⟩ A I rx ry h1 h2 hu
  obtain⟨a,x1,x2,rfl,q1,p1,p2⟩:=h1
  obtain⟨b,y1,y2,rfl,q2,p3,p4⟩:=h2
  cases rx;cases ry
  obtain⟨i1,r1,l1,_⟩:=I.tuple q1
  obtain⟨i2,r2,l2,_⟩:=I.tuple q2
  obtain⟨u1,u2,rfl,e1,e2⟩:=Yf.two r1
  obtain⟨w1,w2,rfl,e3,e4⟩:=Yf.two r2
  have:=SeqAt.RcAt.tuples (A:=A) l1 l2 (by omega) (its (a:=(a1,a2)) (b:=(b1,b2)) I e1 e2 e3 e4 p1 p2 p3 p4 hu)
  rw[←E8]
  simpa[List.range_succ] using this
 refine⟨un,?_,rc,?_,?_⟩
 ·intro X aa σ H s x y v u as bs A I rx ry h1 h2 hu
  obtain⟨a,x1,x2,rfl,q1,p1,p2⟩:=id h1
  obtain⟨b,y1,y2,rfl,q2,p3,p4⟩:=id h2
  have R:=rc (A:=A) I rx ry h1 h2 hu
  cases rx;cases ry
  by_cases e:a=b
  ·subst e
   rw[decide_eq_true (un I h1 h2)]
   exact SeqAt.EqAt.same _
  ·exact SeqAt.EqAt.of_refs e R
 ·rintro X aa σ H s x y v u ⟨a1,a2⟩ ⟨b1,b2⟩ A I rx ry h1 h2 hu
  obtain⟨a,x1,x2,rfl,q1,p1,p2⟩:=h1
  obtain⟨b,y1,y2,rfl,q2,p3,p4⟩:=h2
  cases rx;cases ry
  obtain⟨i1,r1,l1,_⟩:=I.tuple q1
  obtain⟨i2,r2,l2,_⟩:=I.tuple q2
  obtain⟨u1,u2,rfl,e1,e2⟩:=Yf.two r1
  obtain⟨w1,w2,rfl,e3,e4⟩:=Yf.two r2
  have:=SeqAt.RcNeAt.tuples (A:=A) l1 l2 (by omega) (its (a:=(a1,a2)) (b:=(b1,b2)) I e1 e2 e3 e4 p1 p2 p3 p4 hu)
  rw[←E8]
  simpa[List.range_succ] using this
 ·intro K H H' x as e h
  obtain⟨a,x1,x2,rfl,q1,p1,p2⟩:=h
  exact⟨a,x1,x2,rfl,e.seqT q1,E.keep e p1,F.keep e p2⟩
end
section
variable [DecidableEq α]{r:Enc α}{d:Nat}
def Wp (K:W.Frag)(r:Enc α):R2:=λx y H Q=>∃ a b,r K H x a/\r K H y b/\Q (.bl (!decide (a=b))) H
theorem TV (E:EqOk r d)(hu:X.A.units+d<cLine):OpR X (compareOp .NotEq) (Wp X.K r):=by
 intro aa s σ H x y v u Q I rx ry h
 obtain⟨a,b,h1,h2,q⟩:=h
 exact E.ne (A:=X.A) I rx ry h1 h2 hu _ _ _ _ ⟨.bl _,H,I,rfl,q⟩
theorem Zl:ZZ X (.builtin "isinstance") (λxs H Q=>∃ x n t b,xs=[x, .ty n]/\TyOf X.K H x t/\W.kitOne X.K t (.type n)=some b/\Q (.bl b) H):=by
 intro aa s σ H xs us Q I r h
 obtain⟨x,n,t,b,rfl,ty,e,q⟩:=h
 obtain⟨u,v,rfl,ru,rv⟩:=Yf.two r
 cases(show v=Value.type n from rv)
 exact MB I ru ty e λtk=>⟨.bl b,H,I.tok tk,rfl,q⟩
theorem FH:OpR X (binaryOp .FloorDiv) (rI (λ_ j=>0<j/\j.natAbs.log2<9000) λi j=>.int (i/j)):=opI λi j _ _ _ _ _ hc q=>by
 refine floordiv_int (by omega) ?_ (.inl (PyProof.noPylong_of_log2 hc.2))
 rw[Int.fdiv_eq_ediv_of_nonneg i (by omega)]
 exact q
end
end L2
namespace PySem
open Sem (wp)
section
end
end PySem
namespace L2
open PySem PySem.Spec PyProof.Rows
theorem Ej:∀{l:List α}{m:List β}{i:Nat}{b:β},Paired F l m->m[i]?=some b->∃a,l[i]?=some a/\F a b
 |_,_,_,_, .nil,e=>by simp at e
 |_,_,0,_, .cons r _,e=>by simp at e;subst e;exact⟨_,rfl,r⟩
 |_,_,i+1,b, .cons _ t,e=>by
  obtain⟨a,h1,h2⟩:=Ej (i:=i) (b:=b) t (by simpa using e)
  exact⟨a,by simpa using h1,h2⟩
section
def W6 (K:W.Frag)(te ts:TE):TE:=λσ H Q=>te σ H λx H1=>ts σ H1 λy H2=>y= .int (-1)/\∃a xs,x= .ref a/\SqL K H2 a xs/\∀p,H2 p=none->Q (.ref p) (upd H2 p (.lst xs.reverse))
theorem Cg {st:Expr}{ts:TE}{p2:Pos}(K:W.Frag)(hK:X.K=K)(he:PE X e te)(gD:PE X st ts):PE X (.Subscript e (.Slice none none (some st) p2) pos) (W6 K te ts):=by
 intro aa s σ H Q I h
 subst hK
 refine Subscript_ (thn (he aa s σ H _ I h) λv s1 r9=>?_)
 obtain⟨x,H1,I1,r1,q1⟩:=r9
 refine wpAny_Slice ?_
 rw[evalPart_none]
 refine wpAny_pure ?_
 refine wpAny_pure ?_
 rw[evalPart_some]
 refine thn (gD aa s1 σ H1 _ I1 q1) λvk s3 r9=>?_
 obtain⟨y,H3,I3,r3,ey,a,xs,ex,hx,q⟩:=r9
 subst ey ex
 cases r1
 obtain⟨t,rfl⟩:=r3
 have I4:Inv X aa σ H3 {s3 with heap:=s3.heap.push {cls:=.type "slice",data:=.fields #[.none, .none, .int (-1) t]}}:=I3.kept (t':=s3.toks) λb ob q=>Heap.get?_push_of_some _ q
 obtain⟨its,r,ht,hz⟩:=I4.list hx
 have aj:=r.length
 have hg:wpAny (model X.prog X.w) X.A (getItem (.ref a) (.ref s3.heap.objs.size)) (EP X aa σ Q) X.xe {s3 with heap:=s3.heap.push {cls:=.type "slice",data:=.fields #[.none, .none, .int (-1) t]}}:=by
  refine wpAny_getItem_list_slice ht.isList (Heap.IsSliceOf.new ..) .none .none (.int (-1) t) (by decide) ?_ (by rw[List.size_toArray];omega)
  rw[PySem.W.krv_pick]
  refine⟨.ref _,_,I4.laid (t':=s3.toks) (o:=.lst xs.reverse) (λb ob q=>Heap.get?_push_of_some _ q) (Nat.le_refl _) ?_,rfl,q _ (I4.hok.fresh (Nat.le_refl _))⟩
  exact⟨by rw[List.length_reverse];exact hz,its.reverse,0,r.reverse,Heap.get?_push_size _ rfl⟩
 show wpAny (model X.prog X.w) X.A (subscriptTail e (.Slice none none (some st) p2) (.ref a) (.ref s3.heap.objs.size)) (EP X aa σ Q) X.xe _
 exact tail_any (ops:=[.ref a, .ref s3.heap.objs.size]) ht.isList.typeIs slot_list_getitem.lookup hg (by with_unfolding_all rfl)
end
section
theorem Inv.turnLay {t':Nat}{ch:List Addr}{T:Addr}{u:HO}(I:Inv X aa σ H s)(k:∀b o,b∉ch->s.heap.get? b=some o->h'.get? b=some o)(hf:∀b∈ch,Br X aa H b)
  (hp:s.heap.objs.size<=T)(new:YE X.prog X.w (upd H T u) h' T u):Inv X aa σ (upd H T u) {s with heap:=h',toks:=t'}:=by
 have hn:H T=none:=I.hok.fresh hp
 have fj:∀b o,H b=some o->b∉ch:=λb o e z=>by rw[(hf b z).1] at e;cases e
 refine I.step (g':=s.gens) (d':=s.drawn) (ch:=ch) (λb hb=>?_) (λb o _ _ hc e _=>k b o hc e) (λb o _ _ hc e _=>⟨o.slots,k b o hc e⟩)
  (λb o _ e n=>by rw[XV (Nat.ne_of_lt (Nat.lt_of_lt_of_le (Heap.lt_size e) hp))];exact n)
  (λb o hc e=>⟨o,k b o hc e⟩) (λb xs e=>by rw[XV (X2 e hn)];exact e) (λb o xs e=>by rw[XV (X2 e hn)];exact e) (λb ps e=>⟨#[],by rw[XV (X2 e hn),e];simp⟩) (λm hm=>?_) (λb v e=>?_) I.bare
 ·obtain⟨f0,f1,f2,f3,f4,f5⟩:=hf b hb
  exact⟨f3,f1,f4,f5⟩
 ·obtain⟨o,es,ep,ho,r⟩:=hm
  exact⟨o,es,ep,k _ o (λz=>(hf _ z).2.1 rfl) ho,r⟩
 ·by_cases hb:b=T
  ·subst hb;rw[X7] at e;cases e;exact new
  ·rw[XV hb] at e
   refine(I.hok b v e).stay (λc o hc q=>k c o ?_ q) (λc q=>by rw[XV (X2 q hn)];exact q) λc xs q=>by rw[XV (X2 q hn)];exact q
   rcases hc with z |z
   ·rw[z];exact fj b v e
   ·exact fj c _ z
end
section
variable {fO:Pos}
end
section
end
section
variable [DecidableEq α]{r:Enc α}{d:Nat}
theorem Pd:((List.range (min as.length bs.length)).all (λj=>decide (as[j]?=bs[j]?))&&as.length==bs.length)=decide (as=bs):=by
 by_cases hl:as.length=bs.length
 ·rw[show min as.length bs.length=as.length by omega,BW hl]
  simp[hl]
 ·rw[decide_eq_false (λe=>hl (congrArg List.length e))]
  simp[hl]
end
section
variable {o f:Expr}{ty tx:TE}{aT aF:Pos}
end
theorem Y8:∀(names:List (Str×NameKind)) (n:Nat) (acc:List (Str×Addr)) {x:Str},(x,NameKind.cell)∉names->(cellsFrom n names acc).lookup x=acc.lookup x
 | [],_,_,_,_=>rfl
 | (y,k)::r,n,acc,x,h=>by
  have hr:(x,NameKind.cell)∉r:=λz=>h (List.mem_cons_of_mem _ z)
  unfold cellsFrom
  split
  ·rename_i hk
   have bI:k=NameKind.cell:=by simpa using hk
   rw[Y8 r _ _ hr,List.lookup_cons]
   have:(x==y)=false:=beq_eq_false_iff_ne.mpr λe=>h (by rw[e,bI];exact List.mem_cons_self)
   rw[this]
  ·exact Y8 r _ _ hr
theorem QD:∀(names:List (Str×NameKind)) (n:Nat) (acc:List (Str×Addr)) {x:Str}{c:Addr},(x,NameKind.cell)∈names->(cellsFrom n names acc).lookup x=some c->n<=c
 | [],_,_,_,_,h,_=>nomatch h
 | (y,k)::r,n,acc,x,c,h,e=>by
  unfold cellsFrom at e
  split at e
  ·by_cases hr:(x,NameKind.cell)∈r
   ·exact Nat.le_of_succ_le (QD r _ _ hr e)
   ·rw[Y8 r _ _ hr,List.lookup_cons] at e
    rcases List.mem_cons.mp h with h |h
    ·have hx:x=y:=congrArg Prod.fst h
     rw[hx,beq_self_eq_true] at e
     exact Nat.le_of_eq (Option.some.inj e)
    ·exact absurd h hr
  ·rename_i hk
   rcases List.mem_cons.mp h with h |h
   ·exact absurd (by simpa using (congrArg Prod.snd h).symm) hk
   ·exact QD r _ _ h e
theorem QJ:∀(names:List (Str×NameKind)) (n:Nat) (acc:List (Str×Addr)) {x:Str},((x,NameKind.cell)∈names∨∃c,acc.lookup x=some c)->∃c,(cellsFrom n names acc).lookup x=some c
 | [],_,_,_,h=>h.elim (λz=>nomatch z) id
 | (y,k)::r,n,acc,x,h=>by
  unfold cellsFrom
  split
  ·refine QJ r _ _ ?_
   by_cases hx:x=y
   ·subst hx;exact .inr ⟨n,by rw[List.lookup_cons];simp⟩
   ·rcases h with h | ⟨c,h⟩
    ·rcases List.mem_cons.mp h with h |h
     ·exact absurd (congrArg Prod.fst h) hx
     ·exact .inl h
    ·exact .inr ⟨c,by rw[List.lookup_cons,beq_eq_false_iff_ne.mpr hx];exact h⟩
  ·rename_i hk
   refine QJ r _ _ ?_
   rcases h with h |h
   ·rcases List.mem_cons.mp h with h |h
    ·exact absurd (by simpa using (congrArg Prod.snd h).symm) hk
    ·exact .inl h
   ·exact .inr h
theorem QR:∀(names:List (Str×NameKind)) (n:Nat) (acc:List (Str×Addr)),(∀x y c,acc.lookup x=some c->acc.lookup y=some c->x=y)->(∀x c,acc.lookup x=some c->c<n)->
  ∀x y c,(cellsFrom n names acc).lookup x=some c->(cellsFrom n names acc).lookup y=some c->x=y
 | [],_,_,h,_=>h
 | (z,k)::r,n,acc,h,hl=>by
  unfold cellsFrom
  split
  ·refine QR r (n+1) _ (λx y c h1 h2=>?_) λx c h1=>?_
   ·rw[List.lookup_cons] at h1 h2
    cases hx:x==z<;> cases hy:y==z<;> rw[hx] at h1<;> rw[hy] at h2<;> simp only at h1 h2
    ·exact h x y c h1 h2
    ·cases h2;exact absurd (hl x n h1) (Nat.lt_irrefl _)
    ·cases h1;exact absurd (hl y n h2) (Nat.lt_irrefl _)
    ·rw[beq_iff_eq.mp hx,beq_iff_eq.mp hy]
   ·rw[List.lookup_cons] at h1
    cases hx:x==z<;> rw[hx] at h1<;> simp only at h1
    ·exact Nat.lt_succ_of_lt (hl x c h1)
    ·cases h1;exact Nat.lt_succ_self _
  ·exact QR r n acc h hl
theorem Qh:∀(names:List (Str×NameKind)) (h:Heap) (acc:List (Str×Addr)) {x:Str}{c:Addr},(cellsFrom h.objs.size names acc).lookup x=some c->acc.lookup x=some c∨((pushCells h names).IsCell c none/\h.objs.size<=c)
 | [],_,_,_,_,e=>.inl e
 | (z,k)::r,h,acc,x,c,e=>by
  unfold cellsFrom at e
  unfold pushCells
  split at e
  ·rename_i hk
   rw[if_pos hk]
   have e':(cellsFrom (h.push {cls:=.type "cell",data:=.cell none}).objs.size r ((z,h.objs.size)::acc)).lookup x=some c:=by rw[Heap.size_push];exact e
   rcases Qh r _ _ e' with q | ⟨q1,q2⟩
   ·rw[List.lookup_cons] at q
    cases hx:x==z<;> rw[hx] at q<;> simp only at q
    ·exact .inl q
    ·cases q
     exact .inr ⟨⟨_,pushCells_keeps _ _ _ _ (Heap.get?_push_size _ rfl),rfl⟩,Nat.le_refl _⟩
   ·exact .inr ⟨q1,by rw[Heap.size_push] at q2;omega⟩
  ·rename_i hk
   rw[if_neg hk]
   exact Qh r h acc e
theorem Fg:∀{l:List (Str×NameKind)}{x:Str}{j k:NameKind},(l.map (·.1)).Nodup->(x,j)∈l->(x,k)∈l->j≠k->False
 | [],_,_,_,_,h,_,_=>nomatch h
 | (y,i)::r,x,j,k,hn,h1,h2,ne=>by
  rw[List.map_cons,List.nodup_cons] at hn
  rcases List.mem_cons.mp h1 with h1 |h1<;> rcases List.mem_cons.mp h2 with h2 |h2
  ·cases h1;cases h2;exact ne rfl
  ·cases h1;exact hn.1 (List.mem_map.mpr ⟨_,h2,rfl⟩)
  ·cases h2;exact hn.1 (List.mem_map.mpr ⟨_,h1,rfl⟩)
  ·exact Fg hn.2 h1 h2 ne
theorem Jr {env:Env}:∀{names:List (Str×NameKind)}{x:Str}{k:NameKind},
  (names.map λ(n,k)=>if(k==NameKind.free&&env.scope.kind== .function&&env.kindOf n==some .cell) then(n,NameKind.cell) else(n,k)).lookup x=some k->(k= .cell∨k= .free)->(x,NameKind.free)∈names∨(x,NameKind.cell)∈names
 | [],_,_,h,_=>by simp at h
 | (n,kk)::r,x,k,h,hk=>by
  have ih:=@Jr env r x k
  simp only[List.map_cons] at h
  have up:((x,NameKind.free)∈r∨(x,NameKind.cell)∈r)->((x,NameKind.free)∈(n,kk)::r∨(x,NameKind.cell)∈(n,kk)::r):=λz=>z.elim (λz=>.inl (List.mem_cons_of_mem _ z)) λz=>.inr (List.mem_cons_of_mem _ z)
  by_cases aZ:(kk==NameKind.free&&env.scope.kind== .function&&env.kindOf n==some .cell)=true
  ·rw[if_pos aZ,List.lookup_cons] at h
   have ck:kk=NameKind.free:=by
    rw[Bool.and_eq_true,Bool.and_eq_true] at aZ
    simpa using aZ.1.1
   cases hx:x==n with
   |true=>
    have:x=n:=by simpa using hx
    subst this;subst ck
    exact .inl List.mem_cons_self
   |false=>rw[hx] at h;exact up (ih h hk)
  ·rw[if_neg aZ,List.lookup_cons] at h
   cases hx:x==n with
   |true=>
    rw[hx] at h
    have eY:kk=k:=Option.some.inj h
    have:x=n:=by simpa using hx
    subst this;subst eY
    rcases hk with z |z
    ·subst z;exact .inr List.mem_cons_self
    ·subst z;exact .inl List.mem_cons_self
   |false=>rw[hx] at h;exact up (ih h hk)
theorem HK {Q:Env->Shared->Prop}
  (hQ:∀h',h'.Ns s.heap.objs.size (λ_=>none)->(∀b o,s.heap.get? b=some o->h'.get? b=some o)->
   (∀x c,(cellsFrom (s.heap.objs.size+1) scope.names cl).lookup x=some c->cl.lookup x=some c∨(h'.IsCell c none/\s.heap.objs.size+1<=c))->
   Q (newEnv scope s.heap.objs.size globals (cellsFrom (s.heap.objs.size+1) scope.names cl) qual none .none (some outer) builtinsNs) {s with heap:=h'}):
  wpAny M A (newFunctionEnv scope globals cl [] qual none .none (some outer)) Q E s:=by
 simp only[newFunctionEnv,Option.isSome_some,if_true]
 refine wpAny_bind (wpAny_alloc ?_)
 refine wpAny_bind (wpAny_layCells _ (λname kind cells=>by cases hkc:kind==NameKind.cell<;> simp[hkc]) _ _ _ _ ?_)
 rw[show({s with heap:=s.heap.push {cls:=.type "dict",data:=.dict #[]}}:Shared).heap.objs.size=s.heap.objs.size+1 from Heap.size_push ..]
 rw[List.forIn_nil]
 refine wpAny_bind (wpAny_pure (wpAny_pure (hQ _ ((Heap.Ns.new s.heap (.type "dict")).keeps (pushCells_keeps _ _)) (λb o e=>pushCells_keeps _ _ b o (Heap.get?_push_of_some _ e)) λx c e=>?_)))
 have e':(cellsFrom (s.heap.push {cls:=.type "dict",data:=.dict #[]}).objs.size scope.names cl).lookup x=some c:=by rw[Heap.size_push];exact e
 rcases Qh scope.names _ cl e' with q | ⟨q1,q2⟩
 ·exact .inl q
 ·exact .inr ⟨q1,by rw[Heap.size_push] at q2;exact q2⟩
def Gn (sc scope:Scope)(N0 tns:List Str)(caps:List (Nat×Str)):Bool:=
 scope.kind== .function&&decide (scope.names.map (·.1)).Nodup&&scope.names.all (λy=>!(y.2== .local) || scope.names.lookup y.1==some .local)&&
 scope.names.all (λy=>!(y.2== .free) || (sc.names.lookup y.1==some .cell || sc.names.lookup y.1==some .free))&&caps.all (λp=>N0[p.1]?==some p.2&&(sc.names.lookup p.2==some .cell || sc.names.lookup p.2==some .free)&&scope.names.lookup p.2==some .free)
abbrev Cx.compN (X:Cx)(N:List Str)(scope:Scope)(cl:List (Str×Addr))(C:Addr)(s:Shared)(H:Hp)(ex:List Addr)(E:Value->Shared->Prop):Cx:=
 {X.comp N scope cl C s H ex E with fn:=λx=>scope.names.lookup x==some .cell}
def WP (scope sc:Scope):Scope:=
 {scope with names:=scope.names.map λ(n,k)=>if(k== .free&&sc.kind== .function&&sc.names.lookup n==some .cell) then(n, .cell) else(n,k)}
section
variable {ba iter:Expr}{sc:Scope}{tns:List Str}{wi:TI}{g:TG}{tt:TT}
theorem B9 {N0:List Str}(hc:X.calm=true)(dq:X.env.scope=sc)(dB:X.N=N0)(ok:Gn sc scope N0 tns caps=true)(hn:tns.length=n)(hG:Ki n g)
  (hb:∀cl C s H ex E,PG (X.compN (tns++caps.map (·.2)) scope cl C s H ex E) tg g/\PTs (X.compN (tns++caps.map (·.2)) scope cl C s H ex E) bd tt/\PE (X.compN (tns++caps.map (·.2)) scope cl C s H ex E) ba te)
  {J:It}{fp:List Addr}{it:Addr}{tn:Nat->Heap->Prop}{cl:List (Str×Addr)}{Q:V->Hp->Prop}{RR:Value->Addr->Result->Shared->Prop}
  (I:Inv X aa σ H s)(T:Turn X.prog X.w X.K tg J fp it tn)(t0:tn 0 s.heap)(hf:∀b∈fp,Br X aa H b)
  (ar:∀x c,cl.lookup x=some c->X.env.cells.lookup x=some c)(aP:∀x,(x,NameKind.free)∈scope.names->∃c,cl.lookup x=some c)
  (W:Nat->Nat->List V->Hp->Prop){m0:Nat}(w0:W 0 m0 [] H)
  (turn:N1 g tt te (Yt n caps σ) Q J W)
  (gJ:∀D C ys H3 s',CompEnd X aa σ H3 D C ys s'->Q (.ref D) (upd H3 D (.lst ys))->RR (.ref D) C (.ok .next) s'):
  wpAny (model X.prog X.w) X.A (newList []) (λacc s₃=>wpAny (model X.prog X.w) X.A (newFunctionEnv scope X.env.globals cl [] X.env.qual none .none (some X.env)) (λeB s₄=>
   codeAny (model X.prog X.w) X.A (.compStart (.ListComp ba [⟨tg,iter,bd,0⟩] scope pos) 0 (.ref it) acc {eB with scope:=relabel scope X.env}) (RR acc eB.locals) s₄) E s₃) E s:=by
 subst dq
 subst dB
 unfold Gn at ok
 simp only[Bool.and_eq_true,List.all_eq_true] at ok
 obtain⟨⟨⟨⟨ok1,ok2⟩,ok3⟩,ok4⟩,ok5⟩:=ok
 have dY:scope.kind= .function:=by simpa using ok1
 have dQ:(scope.names.map (·.1)).Nodup:=by simpa using ok2
 refine wpAny_newObj_type (HK (λh₁ eD cR gf=>?_))
 dsimp only at eD cR gf⊢
 generalize fP:s.heap.push {cls:=.type "list",dict:=none,data:=.seq ([]:List Value).toArray}=H2 at eD cR gf⊢
 have hC:H2.objs.size=s.heap.objs.size+1:=by rw[←fP,Heap.size_push]
 have hDC:s.heap.objs.size≠H2.objs.size:=by rw[hC];exact Nat.ne_of_lt (Nat.lt_succ_self _)
 have hCle:s.heap.objs.size<=H2.objs.size:=by rw[hC];exact Nat.le_succ _
 have below:∀b,b<s.heap.objs.size->b≠H2.objs.size/\b≠s.heap.objs.size:=λb hb=>⟨by rw[hC];exact Nat.ne_of_lt (Nat.lt_succ_of_lt hb),Nat.ne_of_lt hb⟩
 have bP:∀b o,s.heap.get? b=some o->h₁.get? b=some o:=λb o e=>cR b o (fP▸Heap.get?_push_of_some _ e)
 have dC:h₁.get? s.heap.objs.size=some {cls:=.type "list",data:=.seq ([]:List Value).toArray 0}:=cR _ _ (fP▸Heap.get?_push_size _ rfl)
 have gL:tn 0 h₁:=T.keep _ _ _ t0 λb _ o e=>bP b o e
 have cf2:∀x,(x,NameKind.free)∈scope.names->∃c,(cellsFrom (H2.objs.size+1) scope.names cl).lookup x=some c/\cl.lookup x=some c:=λx hx=>by
  obtain⟨c,hc⟩:=aP x hx
  exact⟨c,by rw[Y8 scope.names _ _ (λhm=>Fg dQ hx hm (by decide))];exact hc,hc⟩
 have cf3:∀x,(x,NameKind.cell)∈scope.names->∃c,(cellsFrom (H2.objs.size+1) scope.names cl).lookup x=some c:=λx hx=>QJ scope.names _ _ (.inl hx)
 have cf4:∀x y c,(cellsFrom (H2.objs.size+1) scope.names cl).lookup x=some c->(cellsFrom (H2.objs.size+1) scope.names cl).lookup y=some c->x=y:=
  QR scope.names _ _ (λx y c h1 h2=>I.ok.inj x y c (ar x c h1) (ar y c h2)) (λx c e=>by
   obtain⟨v,z⟩:=I.cell x c (ar x c e)
   exact Nat.lt_of_lt_of_le z.lt (by rw[hC];omega))
 have cf5:∀x c,scope.names.lookup x=some NameKind.cell->(cellsFrom (H2.objs.size+1) scope.names cl).lookup x=some c->H2.objs.size+1<=c:=λx c hx e=>QD scope.names _ _ (mem_of_lookup hx) e
 generalize gM:cellsFrom (H2.objs.size+1) scope.names cl=gh at*
 -- addresses
 generalize hD:s.heap.objs.size=D at*
 generalize hCe:H2.objs.size=C at*
 have eZ:∀b∈fp,b<D:=λb hb=>by
  obtain⟨o,e,_⟩:=T.obj _ _ t0 b hb
  rw[←hD];exact Heap.lt_size e
 have b9:D<C:=by omega
 have fQ:∀x c,gh.lookup x=some c->c≠D:=λx c e=>by
  rcases gf x c e with q | ⟨_,q⟩
  ·obtain⟨v,z⟩:=I.cell x c (ar x c q)
   rw[←hD];exact Nat.ne_of_lt z.lt
  ·exact Nat.ne_of_gt (Nat.lt_trans b9 (Nat.lt_of_succ_le q))
 have gN:∀b∈fp,∀x c,gh.lookup x=some c->c≠b:=λb hb x c e=>by
  rcases gf x c e with q | ⟨_,q⟩
  ·exact(hf b hb).2.2.2.2.1 x c (ar x c q)
  ·exact Nat.ne_of_gt (Nat.lt_trans (eZ b hb) (Nat.lt_trans b9 (Nat.lt_of_succ_le q)))
 let X':Cx:=X.compN (tns++caps.map (·.2)) scope gh C s H fp (notedBy (model X.prog X.w) X.A (compEnvC scope gh C X.env) λe s'=>RR (.ref D) C (.error e) s')
 have okX:X'.Ok:=by
  refine⟨I.ok.mod,dY,I.ok.glob,I.ok.blt,by show s.heap.objs.size<=C;omega,cf4,λx hx=>?_,λx c hx hcx=>(by show s.heap.objs.size<=c;have:=cf5 x c (by have eE:(scope.names.lookup x==some NameKind.cell)=true:=hx;simpa using eE) hcx;omega),I.ok.hd,I.ok.frames, .inl rfl,λb hb=>?_,I.bs,Nat.le_trans I.ok.bsz I.sz,λb o e hb=>?_,λb hb hz=>?_,I.stack,I.stkFree⟩
  ·have fk:(relabel scope X.env).names.lookup x=some .cell∨(relabel scope X.env).names.lookup x=some .free:=hx
   have hz:(x,NameKind.free)∈scope.names∨(x,NameKind.cell)∈scope.names:=by
    rcases fk with z |z
    ·exact Jr z (.inl rfl)
    ·exact Jr z (.inr rfl)
   rcases hz with z |z
   ·obtain⟨c,q,_⟩:=cf2 x z
    exact⟨c,q⟩
   ·exact cf3 x z
  ·refine⟨Nat.ne_of_lt (Nat.lt_trans (eZ b hb) b9),gN b hb⟩
  ·rcases(hf b hb).2.2.2.1 with z |z
   ·exact I.ok.noex b o e z
   ·exact absurd (Nat.lt_of_lt_of_le (Heap.lt_size e) (Nat.le_trans I.ok.bsz z)) (Nat.lt_irrefl _)
  ·rcases List.mem_cons.mp (I.stkSub b hz) with z |z
   ·exact(hf b hb).2.1 z
   ·exact(hf b hb).2.2.1 z
 have lenc:(Yt n caps σ).length=(tns++caps.map (·.2)).length:=by unfold Yt;simp[hn]
 have I1:∀tk,Inv X' [] (Yt n caps σ) H {s with heap:=h₁,toks:=tk}:=λtk=>by
  refine⟨okX,rfl,I.bare,Un.kept bP,⟨_,eD,λi x v e1 e2 e3=>?_⟩,λx c e=>?_,I.hok.fresh (by rw[hD];exact Nat.le_of_lt b9),λx c e=>?fc,λp hp=>absurd (show p∈([]:List (Addr×Obj)) from hp) (by simp),I.hok.kept bP,lenc⟩
  ·have hi:n<=i:=by
    by_cases h:n<=i
    ·exact h
    ·have cE:(Yt n caps σ)[i]?=some (some v):=e2
     unfold Yt at cE
     rw[List.getElem?_append_left (by simp;omega),List.getElem?_replicate] at cE
     split at cE<;> cases cE
   have cE:(Yt n caps σ)[i]?=some (some v):=e2
   unfold Yt at cE
   rw[List.getElem?_append_right (by simpa using hi),List.length_replicate,List.getElem?_map] at cE
   have fN:(tns++caps.map (·.2))[i]?=some x:=e1
   rw[List.getElem?_append_right (by rw[hn];exact hi),hn,List.getElem?_map] at fN
   cases ge:caps[i-n]? with
   |none=>rw[ge] at cE;cases cE
   |some p=>
    rw[ge] at cE fN
    simp only[Option.map_some,Option.some.injEq] at cE fN
    have hp5:=ok5 p (List.mem_of_getElem? ge)
    simp only[beq_iff_eq,Bool.or_eq_true] at hp5
    obtain⟨⟨p1,p2⟩,p3⟩:=hp5
    have hσ:σ[p.1]?=some (some v):=by
     cases hq:σ[p.1]? with
     |none=>rw[hq] at cE;cases cE
     |some o=>rw[hq] at cE;simp at cE;rw[cE]
    subst fN
    obtain⟨m,hm,hl⟩:=I.loc
    obtain⟨u,r,l⟩:=hl p.1 p.2 v p1 hσ (.inr p2)
    refine⟨u,r, .inr ?_⟩
    rcases l with⟨k,_⟩ | ⟨k,c,e,z⟩
    ·have k':X.env.scope.names.lookup p.2=some .local:=k
     rcases p2 with p2 |p2<;> (rw[p2] at k';cases k')
    ·obtain⟨c',e',e''⟩:=cf2 p.2 (mem_of_lookup p3)
     have:=ar _ _ e''
     rw[e] at this;cases this
     obtain⟨o,ho,hd⟩:=z
     exact⟨Q9 (env:=X.env) p3,c,e',⟨o,bP _ _ ho,hd⟩⟩
  ·rcases gf x c e with q | ⟨q,_⟩
   ·obtain⟨v,o,ho,hd⟩:=I.cell x c (ar x c q)
    exact⟨v,o,bP _ _ ho,hd⟩
   ·exact⟨_,q⟩
  case fc=>
   rcases gf x c e with q | ⟨_,q⟩
   ·exact I.freeC x c (ar x c q)
   ·exact I.hok.fresh (by rw[hD];omega)
 obtain⟨hg,ht,he⟩:=hb gh C s H fp X'.xe
 have fsLt:∀b∈X'.fs,b<D:=λb hb=>by
  obtain⟨_,o,ho,_⟩:=I.stack.mem hb
  rw[←hD];exact Heap.lt_size ho
 have aY:CAt X' fp D:=⟨hc,rfl,Nat.ne_of_lt b9,λhz=>absurd (fsLt _ hz) (Nat.lt_irrefl _),by show s.heap.objs.size<=D;omega,fQ,λb hb=>Nat.ne_of_lt (eZ b hb),λb hb H' h'=>⟨h',Nat.ne_of_lt (Nat.lt_trans (eZ b hb) b9),okX.exfs b hb, .inl hb,gN b hb,λp hp=>CF (α:=Addr×Obj) hp⟩⟩
 have cQ:∀s₃:Shared,(∃tk,s₃={s with heap:=h₁,toks:=tk})->
   codeAny (model X.prog X.w) X.A (.compLoop (.ListComp ba [⟨tg,iter,bd,0⟩] scope pos) 0 (.ref it) (.ref D) (compEnvC scope gh C X.env)) (RR (.ref D) C) s₃:=by
  rintro s₃ ⟨tk,rfl⟩
  exact Ff (Y:=X') rfl T hG hg ht he aY (λj v e=>(Gg e).1) turn (λys its k H3 s4 I4 rv hz q=>gJ _ C ys H3 s4 (Hm I hf (Nat.le_of_eq hD) b9 I4 I4.os I4.base I4.hok rfl rv hz) q)
   (.mk 0 H [] [] 0 ⟨I1 tk,gL,λb hb=>(hf b hb).1,dC,I.hok.fresh (by rw[hD];exact Nat.le_refl _)⟩ .nil w0)
 exact codeAny_compStart_list (cQ _ ⟨_,rfl⟩) (T.self _ 0 _ _ _ gL (cQ _ ⟨_,rfl⟩))
theorem NU (sc:Scope)(N0:List Str)(tns:List Str)(caps:List (Nat×Str))(hc:X.calm=true)(hi:PI X tg iter wi)(hG:Ki tns.length g)
  (hb:∀cl C s H ex E,PG (X.compN (tns++caps.map (·.2)) scope cl C s H ex E) tg g/\PTs (X.compN (tns++caps.map (·.2)) scope cl C s H ex E) bd tt/\PE (X.compN (tns++caps.map (·.2)) scope cl C s H ex E) ba te)
  (dq:X.env.scope=sc:=by rfl)(dB:X.N=N0:=by rfl)(ok:Gn sc scope N0 tns caps=true:=by decide+kernel)
  (hs:∀x,foldedSetIterable iter X.env x=pure x:=by intro _;rfl):
  PE X (.ListComp ba [⟨tg,iter,bd,0⟩] scope pos) (B1 tns.length caps wi g tt te):=by
 intro aa s σ H Q I h
 have ok':=ok
 unfold Gn at ok'
 simp only[Bool.and_eq_true,List.all_eq_true] at ok'
 obtain⟨⟨⟨⟨ok1,ok2⟩,ok3⟩,ok4⟩,ok5⟩:=ok'
 obtain⟨cl,gK,ar,aP⟩:=Ek (scope:=scope) (env:=X.env) λx hx dD=>by
  have:=ok4 x hx
  rw[dD] at this
  have z:sc.names.lookup x.1=some .cell∨sc.names.lookup x.1=some .free:=by simpa using this
  exact I.ok.has x.1 (by show X.env.scope.names.lookup x.1=_∨X.env.scope.names.lookup x.1=_;rw[dq];exact z)
 rw[eval_ListComp]
 refine wpAny_comprehension_free (use:=none) rfl hs gK (by simpa using ok1) (λx hx hl=>by have:=ok3 x hx;rw[hl] at this;simpa using this) (thn (hi aa s σ H _ I h) λxv s₁ h₁=>thn h₁ λfF s₂ h₂=>?_)
 obtain⟨it,fp,tn,J,H',rfl,I2,T,st2,f2,W,⟨m0,w0⟩,turn⟩:=h₂
 refine B9 (RR:=λacc C=>compPost (model X.prog X.w) X.A X.xe none (EP X aa σ Q) acc C) hc dq dB ok rfl hG hb I2 T st2 f2 ar aP W w0 turn ?_
 intro D C ys H3 s' ce q
 obtain⟨mm,dP⟩:=ce.ns
 refine⟨mm,dP,λh' dz=>⟨.ref D,_,?_,rfl,q⟩⟩
 obtain⟨c0,c1,c2,c3,c4,c5⟩:=ce.fp
 exact ce.inv.turned (t':=s'.toks) (λb o dA e=>(dz.extBut b o dA e)) c0 c1 c3 c4 c5
end
theorem Gx:∀(xs:List V) (us:List Value),xs.length=us.length->(∀(j:Nat) x u,xs[j]?=some x->us[j]?=some u->Ya x u)->Yf xs us
 | [],[],_,_=>.nil
 | [],_::_,h,_=>by simp at h
 |_::_,[],h,_=>by simp at h
 |x::xs,u::us,h,r=>.cons (r 0 x u rfl rfl) (Gx xs us (by simpa using h) λj y v e1 e2=>r (j+1) y v (by simpa using e1) (by simpa using e2))
def EI (ta:TA):TE:=λσ H Q=>ta σ H λvs H1=>∃ j:Int,vs=[.int j]/\0<=j/\j<=1000/\∀p,H1 p=none->Q (.ref p) (upd H1 p (.lst ((List.range j.toNat).map λi=>V.int ((i:Nat):Int))))
theorem Cb {ta:TA}{p q:Pos}(hc:X.calm=true)(hg:Gl X "list")(hg2:Gl X "range")(hm:X.mg "list" =none)(hm2:X.mg "range" =none)(ha:PA X [e] ta)
  (hs:starEach [.Call (.Name "range" q) [e] [] q2] X.env=[(false,eval (.Call (.Name "range" q) [e] [] q2) X.env)]:=by rfl)(fR:starEach [e] X.env=[(false,eval e X.env)]:=by rfl):
  PE X (.Call (.Name "list" p) [.Call (.Name "range" q) [e] [] q2] [] pos) (EI ta):=by
 intro aa s σ H Q I h
 refine wpAny_Call_Name_kw (UY I hg hm boot_list ?_)
 refine callWith_type1 ?_ hs rfl
 rw[hs]
 show wpAny _ _ (spliced ((false,eval (.Call (.Name "range" q) [e] [] q2) X.env)::backTo pos [])) _ _ s
 refine Calls.spliced_cons ?_
 refine wpAny_Call_Name_kw (UY I hg2 hm2 boot_range ?_)
 refine callWith_type1 (thn (ha q2 aa s σ H _ I h) λus s1 r9=>?_) fR rfl
 obtain⟨vs,H1,I1,r1,q1⟩:=r9
 obtain⟨j,e,h0,h1,k⟩:=q1
 subst e
 cases r1 with
 |cons r rr=>
  cases rr
  obtain⟨t,rfl⟩:=r
  refine call_range_1 ?_
  refine Calls.spliced_nil ?_
  refine call_list_range (n:=j.toNat) (I.ok.hd hc) (IsRange.new ..) (small_one (by omega) (by omega) (by omega) (by omega)) (by rw[rangeSize_one];split<;> omega) (by omega) λh' tk cx c' hk hS dC=>?_
  refine⟨.ref _,_,I1.laid (h':=h') (t':=tk) (o:=.lst ((List.range j.toNat).map λi=>V.int ((i:Nat):Int))) (λb o e=>hk b o (Heap.get?_push_of_some _ e)) (by rw[Heap.size_push];exact Nat.le_succ _) ?_,rfl,k _ (I1.hok.fresh (by rw[Heap.size_push];exact Nat.le_succ _))⟩
  refine⟨by rw[List.length_map,List.length_range];exact Nat.le_of_lt (M0 (by omega)),cx.toList,c',Gx _ _ (by simp[dC.1]) λi x u e1 e2=>?_,hS⟩
  have cE:cx[i]?=some u:=by simpa using e2
  obtain⟨tk,rfl⟩:=dC.2 i u cE
  rw[List.getElem?_map] at e1
  cases e3:(List.range j.toNat)[i]? with
  |none=>rw[e3] at e1;cases e1
  |some z=>
   rw[e3] at e1
   have hz:z=i:=by
    have hi:i<j.toNat:=by have:=(List.getElem?_eq_some_iff.mp e3).1;simpa using this
    rw[List.getElem?_range hi] at e3
    exact(Option.some.inj e3).symm
   subst hz
   have:x=V.int (z:Int):=(Option.some.inj e1).symm
   subst this
   exact⟨tk,by simp⟩
theorem X9 {p:Pos}:starEach (.List l p::es) env=(false,eval (.List l p) env)::starEach es env:=rfl
variable {o:Expr}{to:TE}{t:TA}{name:Str}{aT aF:Pos}{T id:String}{r:V->List V->Hp->VK->Prop}
end L2
namespace PySem
open PySem.Spec
namespace SeqAt
open MeetsSeq
end SeqAt
end PySem
namespace L2
open PySem PySem.Spec PyProof.Rows
section
end
def Af (K:W.Frag):List V->Hp->VK->Prop:=λxs H Q=>∃ (a:Addr) (bs:List Bool),xs=[.ref a]/\SqL K H a (bs.map V.bl)/\Q (.bl (bs.all id)) H
section
theorem S6:∀(bs:List Bool),((List.range bs.length).all λi=>(bs[i]?).getD true)=bs.all id:=λbs=>by
 rw[Bool.eq_iff_iff,List.all_eq_true,List.all_eq_true]
 constructor
 ·intro h b hb
  obtain⟨i,hi,rfl⟩:=List.getElem_of_mem hb
  have:=h i (List.mem_range.mpr hi)
  simpa[List.getElem?_eq_getElem hi] using this
 ·intro h i hi
  have bM:=List.mem_range.mp hi
  simpa[List.getElem?_eq_getElem bM] using h _ (List.getElem_mem bM)
theorem Iq (hc:X.calm=true):ZZ X (.builtin "all") (Af X.K):=by
 intro aa s σ H xs us Q I r h
 obtain⟨a,bs,rfl,hq,q⟩:=h
 obtain⟨u,rfl,ru⟩:=VD r
 cases ru
 obtain⟨its,rv,pl,hz⟩:=I.list hq
 have aj:bs.length=its.length:=by have:=rv.length;rwa [List.length_map] at this
 have av:a<s.heap.objs.size:=by obtain⟨o,n,ho,_⟩:=pl;exact Heap.lt_size ho
 refine call_all_walk (wpAny_pyIter_list pl.isList ?_)
 refine⟨s.heap.objs.size,[s.heap.objs.size,a],[s.heap.objs.size],its.toArray.size,_,_,λi=>(bs[i]?).getD true,rfl,Walks.list (A:=X.A.in1) (I.ok.hd hc) _ a (Nat.ne_of_lt av) its.toArray,
  ⟨⟨_,Heap.get?_push_size _ rfl,rfl,rfl⟩,pl.isList.at λo e=>Heap.get?_push_of_some _ e⟩,λi v s' Q' E' hP hQ=>?_,λh' tk hk=>?_⟩
 ·have hv':its[i]?=some v:=by simpa using hP
  obtain⟨x,ex,rx⟩:=Ej rv hv'
  rw[List.getElem?_map] at ex
  cases e:bs[i]? with
  |none=>rw[e] at ex;cases ex
  |some z=>
   rw[e] at ex
   have ex':V.bl z=x:=Option.some.inj ex
   subst ex'
   cases rx
   simp only[e,Option.getD_some] at hQ
   exact wpAny_truthy_bool hQ
 ·have e:((List.range its.toArray.size).all λi=>(bs[i]?).getD true)=bs.all id:=by
   rw[List.size_toArray, ←aj];exact S6 bs
  rw[e]
  have I2:Inv X aa σ H {s with heap:=h',toks:=tk}:=I.kept (t':=tk) λb o e=>hk b o (λhm=>by
   rw[List.mem_singleton.mp hm] at e
   exact absurd (Heap.lt_size e) (Nat.lt_irrefl _)) (Heap.get?_push_of_some _ e)
  exact⟨.bl (bs.all id),H,I2,rfl,q⟩
def Rg (i j k:Nat)(ta:TA):TS:=λD σ H=>ta σ H λvs H1=>∃ v w z,vs=[v,w,z]/\D.nx (((σ.set i (some v)).set j (some w)).set k (some z)) H1
theorem L8 {y z:Str}{a b:Expr}{ta:TA}{kt k2 pt2}(hc:X.calm=true)(hN:X.N.Nodup)(hi:X.N[i]?=some x)(hj:X.N[j]?=some y)(hk:X.N[k]?=some z)(b8:i≠j)(hik:i≠k)(hjk:j≠k)
  (hx:X.env.scope.names.lookup x=some .local)(hy:X.env.scope.names.lookup y=some .local)(hz:X.env.scope.names.lookup z=some .local)(ha:PA X [a,b,c] ta)
  (hw:swappedStores [.Tuple [.Name x px, .Name y py, .Name z pz] kt pt] (.Tuple [a,b,c] k2 pt2) X.env=pure (some [x,y,z]))
  (hs:swapsWithSole [.Tuple [.Name x px, .Name y py, .Name z pz] kt pt] (.Tuple [a,b,c] k2 pt2) pos.line X.env=pure false:=by rfl):
  PS X (.Assign [.Tuple [.Name x px, .Name y py, .Name z pz] kt pt] (.Tuple [a,b,c] k2 pt2) pos) (Rg i j k ta):=by
 intro aa s σ H D I h
 rw[exec_Assign_arm]
 refine wpAny_bind (wpAny_standAt ?_)
 rw[hs]
 refine wpAny_bind (wpAny_pure ?_)
 rw[if_neg (by decide)]
 refine wpAny_bind (Tuple_ (thn (ha _ aa s σ H _ I h) λus s1 r9=>?_))
 obtain⟨vs,H1,I1,r1,q1⟩:=r9
 obtain⟨v,w,t,e1,q1⟩:=q1
 subst e1
 obtain⟨u1,u2,u3,rfl,rv,cv,rt⟩:∃u1 u2 u3,us=[u1,u2,u3]/\Ya v u1/\Ya w u2/\Ya t u3:=by
  cases r1 with
  |cons p q=>
   cases q with
   |cons p' q'=>
    cases q' with
    |cons p'' q''=>
     cases q''
     exact⟨_,_,_,rfl,p,p',p''⟩
 refine wpAny_newObj_type ?_ (by show 3<=sizeLine;decide)
 have I2:Inv X aa σ H1 {s1 with heap:=s1.heap.push {cls:=.type "tuple",data:=.seq [u1,u2,u3].toArray}}:=I1.kept (t':=s1.toks) λb o e=>Heap.get?_push_of_some _ e
 rw[hw]
 refine wpAny_bind (wpAny_pure ?_)
 show wpAny (model X.prog X.w) X.A (do rule "assign.swapped-stores";let items ←unpackItems (.ref s1.heap.objs.size) 3 none;assignInOrder [λv=>bindName X.env z v,λv=>bindName X.env y v,λv=>bindName X.env x v] items.reverse;pure Flow.next) _ _ _
 refine wpAny_bind (wpAny_rule (wpAny_bind (unpackItems_tuple (items:=#[u1,u2,u3]) (I.ok.hd hc) (IsTup.new s1.heap _) λh' fk=>?_)))
 have I3:=I2.kept (h':=h') (t':=s1.toks) λb o e=>fk b o (Nat.ne_of_lt (Heap.lt_size e)) e
 show wpAny _ _ (assignInOrder [λv=>bindName X.env z v,λv=>bindName X.env y v,λv=>bindName X.env x v] [u3,u2,u1] >>= λ_=>pure Flow.next) _ _ _
 refine wpAny_bind (assignInOrder_cons (wpAny_bindName (Qz I3 hN hk (.inl hz) rt (λs2 I4=>?_) (.inr hz))))
 refine assignInOrder_cons (wpAny_bindName (Qz I4 hN hj (.inl hy) cv (λs3 I5=>?_) (.inr hy)))
 refine assignInOrder_cons (wpAny_bindName (Qz I5 hN hi (.inl hx) rv (λs4 I6=>assignInOrder_nil (wpAny_pure ?_)) (.inr hx)))
 have e:(((σ.set k (some t)).set j (some w)).set i (some v))=(((σ.set i (some v)).set j (some w)).set k (some t)):=by
  rw[List.set_comm _ _ hjk.symm,List.set_comm _ _ hik.symm,List.set_comm _ _ b8.symm]
 rw[e] at I6
 exact⟨_,H1,I6,q1⟩
end
section
variable [DecidableEq α]{r:Enc α}{d:Nat}
end
section
end
section
theorem UP (K:W.Frag)(h:X.K=K):OpR X (compareOp .In) (rIn K false):=by subst h;exact Gp
theorem VM (K:W.Frag)(h:X.K=K):OpR X (compareOp .NotIn) (rIn K true):=by subst h;exact Q7
variable {T:String}{name:Str}{id:String}{r:V->List V->Hp->VK->Prop}{o:Expr}{to:TE}{t:TA}{aT aF:Pos}
end
section
variable {ba iter:Expr}{wi:TI}{g:TG}{tt:TT}
theorem M7 (hc:X.calm=true)(hi:PI X tg iter wi)(hG:Ki tns.length g)
  (hb:∀cl C s H ex E,PG (X.compN (tns++caps.map (·.2)) scope cl C s H ex E) tg g/\PTs (X.compN (tns++caps.map (·.2)) scope cl C s H ex E) bd tt/\PE (X.compN (tns++caps.map (·.2)) scope cl C s H ex E) ba te)
  (dq:X.env.scope=sc:=by rfl)(dB:X.N=N0:=by rfl)(ok:Gn sc scope N0 tns caps=true:=by decide+kernel)
  (hs:∀x,foldedSetIterable iter X.env x=pure x:=by intro _;rfl):
  PE X (.ListComp ba [⟨tg,iter,bd,0⟩] scope pos) (B1 tns.length caps wi g tt te):=NU sc N0 tns caps hc hi hG hb dq dB ok hs
theorem Zs (hc:X.calm=true)(hi:PI X tg iter wi)(hG:Ki tns.length g)
  (hb:∀cl C s H ex E,PG (X.comp (tns++caps.map (·.2)) scope cl C s H ex E) tg g/\PTs (X.comp (tns++caps.map (·.2)) scope cl C s H ex E) bd tt/\PE (X.comp (tns++caps.map (·.2)) scope cl C s H ex E) ba te)
  (dq:X.env.scope=sc:=by rfl)(dB:X.N=N0:=by rfl)(ok:Cr sc scope N0 tns caps=true:=by decide+kernel)
  (hs:∀x,foldedSetIterable iter X.env x=pure x:=by intro _;rfl):
  PE X (.ListComp ba [⟨tg,iter,bd,0⟩] scope pos) (B1 tns.length caps wi g tt te):=RQ sc N0 tns caps hc hi hG hb dq dB ok hs
end
section
variable {l:Expr}{tl:TE}{p:Pos}
theorem XT (h:X.K=K)(hl:PE X l tl):PI X tg l (HE K tl):=by subst h;exact Sk hl
theorem R5 (h:X.K=K)(hl:PE X l tl):PI X tg l (Wo K tl):=by subst h;exact Tn hl
end
def NG:List Int->Int
 | []=>0
 |a::r=>r.foldl max a
def Nz:List Int->Int
 | []=>0
 |a::r=>r.foldl min a
theorem EO (ns:List Int):∀k,k<ns.length->ns.getD (argBest (λi j=>decide (ns.getD i 0 > ns.getD j 0)) k) 0=NG (ns.take (k+1))
 |0,h=>by
  cases ns with
  |nil=>simp at h
  |cons a r=>simp[argBest,NG]
 |k+1,h=>by
  have ih:=EO ns k (by omega)
  have e:NG (ns.take (k+1+1))=max (NG (ns.take (k+1))) (ns.getD (k+1) 0):=by
   rw[List.take_succ_eq_append_getElem h]
   cases ns with
   |nil=>simp at h
   |cons a r=>
    rw[List.take_succ_cons]
    simp only[NG,List.cons_append,List.foldl_append,List.foldl_cons,List.foldl_nil]
    rw[List.getD_eq_getElem?_getD,List.getElem?_eq_getElem h]
    rfl
  rw[e, ←ih]
  show ns.getD (if(decide (ns.getD (k+1) 0 > ns.getD (argBest _ k) 0))=true then k+1 else argBest _ k) 0=_
  by_cases hc:ns.getD (k+1) 0 > ns.getD (argBest (λi j=>decide (ns.getD i 0 > ns.getD j 0)) k) 0
  ·rw[if_pos (by simpa using hc)];omega
  ·rw[if_neg (by simpa using hc)];omega
theorem EC (ns:List Int):∀k,k<ns.length->ns.getD (argBest (λi j=>decide (ns.getD i 0<ns.getD j 0)) k) 0=Nz (ns.take (k+1))
 |0,h=>by
  cases ns with
  |nil=>simp at h
  |cons a r=>simp[argBest,Nz]
 |k+1,h=>by
  have ih:=EC ns k (by omega)
  have e:Nz (ns.take (k+1+1))=min (Nz (ns.take (k+1))) (ns.getD (k+1) 0):=by
   rw[List.take_succ_eq_append_getElem h]
   cases ns with
   |nil=>simp at h
   |cons a r=>
    rw[List.take_succ_cons]
    simp only[Nz,List.cons_append,List.foldl_append,List.foldl_cons,List.foldl_nil]
    rw[List.getD_eq_getElem?_getD,List.getElem?_eq_getElem h]
    rfl
  rw[e, ←ih]
  show ns.getD (if(decide (ns.getD (k+1) 0<ns.getD (argBest _ k) 0))=true then k+1 else argBest _ k) 0=_
  by_cases hc:ns.getD (k+1) 0<ns.getD (argBest (λi j=>decide (ns.getD i 0<ns.getD j 0)) k) 0
  ·rw[if_pos (by simpa using hc)];omega
  ·rw[if_neg (by simpa using hc)];omega
section
theorem Dd (rv:Yf (ns.map V.int) its):∀(i:Nat) (v:Value),its.toArray[i]?=some v->∃t,v=Value.int (ns.getD i 0) t:=λi v hv=>by
 have hv':its[i]?=some v:=by simpa using hv
 obtain⟨x,ex,rx⟩:=Ej rv hv'
 rw[List.getElem?_map] at ex
 cases e:ns[i]? with
 |none=>rw[e] at ex;cases ex
 |some z=>
  rw[e] at ex
  have ex':V.int z=x:=Option.some.inj ex
  subst ex'
  obtain⟨t,rfl⟩:=rx
  exact⟨t,by simp[List.getD,e]⟩
def M6 (K:W.Frag)(f:List Int->Int):List V->Hp->VK->Prop:=λxs H Q=>∃ (a:Addr) (ns:List Int),xs=[.ref a]/\SqT K H a (ns.map V.int)/\0<ns.length/\Q (.int (f ns)) H
theorem Ue (K:W.Frag)(hK:X.K=K)(hc:X.calm=true):ZZ X (.builtin "max") (M6 K NG):=by
 subst hK
 intro aa s σ H xs us Q I r h
 obtain⟨a,ns,rfl,hq,hne,q⟩:=h
 obtain⟨u,rfl,ru⟩:=VD r
 cases ru
 obtain⟨its,rv,pl,hz⟩:=I.tuple hq
 have aj:its.length=ns.length:=by have:=rv.length;simpa using this.symm
 have av:a<s.heap.objs.size:=by obtain⟨o,ho,_⟩:=pl;exact Heap.lt_size ho
 refine call_max_walk (wpAny_pyIter_tuple pl ?_)
 refine⟨s.heap.objs.size,_,_,_,_,_,_,rfl,Walks.tuple (prog:=X.prog) (w:=X.w) (A:=X.A.in1) (I.ok.hd hc) s.heap.objs.size a (Nat.ne_of_lt av) its.toArray,⟨⟨_,Heap.get?_push_size _ rfl,rfl,rfl⟩,(show s.heap.IsTuple a its.toArray from pl).at λo e=>Heap.get?_push_of_some _ e⟩,λb hb=>?_,by rw[List.size_toArray,aj];exact hne,CmpOf.ints_gt (λi=>ns.getD i 0) (Dd rv),λv h' tk hP hk=>?_⟩
 ·rcases List.mem_cons.mp hb with e |hb
  ·rw[e,Heap.size_push];exact Nat.lt_succ_self _
  ·rw[List.mem_singleton.mp hb,Heap.size_push];exact Nat.lt_succ_of_lt av
 ·have I2:Inv X aa σ H {s with heap:=h',toks:=tk}:=I.kept (t':=tk) λb o e=>hk b o (λhm=>by
   rw[List.mem_singleton.mp hm] at e
   exact absurd (Heap.lt_size e) (Nat.lt_irrefl _)) (Heap.get?_push_of_some _ e)
  obtain⟨t,rfl⟩:=Dd rv _ _ hP
  refine⟨.int (NG ns),H,I2,⟨t,?_⟩,q⟩
  rw[List.size_toArray,aj,EO ns (ns.length-1) (by omega),show ns.length-1+1=ns.length by omega,List.take_length]
theorem Y6 (K:W.Frag)(h:X.K=K):SlR X (Wl K):=by subst h;exact Tr
end
inductive Pay where
 |non |int (i:Int) |tag (t:Str) (xs:List Int)
 deriving DecidableEq
structure Exc where
 cls:Str
 pay:Pay
inductive Rs (α:Type) where
 |bad |err (x:Exc) |ok (a:α)
def Rs.bind:Rs α->(α->Rs β)->Rs β
 | .bad,_=>.bad
 | .err x,_=>.err x
 | .ok a,f=>f a
theorem Rs.ok_bind (a:α)(f:α->Rs β):(Rs.ok a).bind f=f a:=rfl
def chk (c:Prop)[Decidable c](m:Rs α):Rs α:=if c then m else .bad
theorem Xi [Decidable c](h:c):chk c m=m:=if_pos h
abbrev XZ:=Addr×HO
def SN:HO->Bool
 | .lst _=>true
 | .dK _=>true
 | .dT _=>true
 |_=>false
def fl (OO:List (List XZ)):List Addr:=OO.flatten.map (·.1)
open Classical in
def hid (H:Hp)(OO:List (List XZ)):Hp:=λb=>if b∈fl OO then none else H b
structure W (OO:List (List XZ))(H:Hp):Prop where
 tr:∀c∈OO.flatten,H c.1=some c.2
 nd:(fl OO).Nodup
 mu:∀c∈OO.flatten,SN c.2=true
theorem Yd {OO}(h:hid H OO b=some o):H b=some o/\b∉fl OO:=by
 unfold hid at h
 split at h
 ·cases h
 ·exact⟨h,by assumption⟩
theorem Ze {OO}(h:H b=some o)(n:b∉fl OO):hid H OO b=some o:=by
 unfold hid;rw[if_neg n];exact h
theorem Xz {OO}:Xx (hid H OO) H:=λb o h=>(Yd h).1
theorem Xh {OO}(s:Xx H H'):Xx (hid H OO) (hid H' OO):=λb o h=>Ze (s _ _ (Yd h).1) (Yd h).2
theorem ZW {OO OO'}(s:Xx H H')(h:∀b,b∈fl OO'->b∈fl OO):Xx (hid H OO) (hid H' OO'):=λb o q=>Ze (s _ _ (Yd q).1) λz=>(Yd q).2 (h b z)
theorem XR {OO}:fl (C::OO)=C.map (·.1)++fl OO:=by simp[fl]
theorem LL {OO}:fl ([]::OO)=fl OO:=by simp[fl]
theorem ZA {OO}:hid H ([]::OO)=hid H OO:=by unfold hid;rw[LL]
theorem W.keep {OO}(w:W OO H)(s:Xx H H'):W OO H':=⟨λc hc=>s _ _ (w.tr c hc),w.nd,w.mu⟩
theorem W.of (w:W OO H)(h:OO'.flatten.Perm OO.flatten):W OO' H:=
 ⟨λc hc=>w.tr c (h.mem_iff.mp hc),(h.map _).nodup_iff.mpr w.nd,λc hc=>w.mu c (h.mem_iff.mp hc)⟩
theorem W.sub (w:W OO H)(h:OO'.flatten.Sublist OO.flatten):W OO' H:=
 ⟨λc hc=>w.tr c (h.mem hc),(h.map _).nodup w.nd,λc hc=>w.mu c (h.mem hc)⟩
theorem W.tail {C OO}(w:W (C::OO) H):W OO H:=w.sub (by simp)
theorem W.nil {OO}(w:W OO H):W ([]::OO) H:=w.of (by simp)
theorem W.cell {C OO}(w:W (C::OO) H):∀c∈C,H c.1=some c.2:=λc hc=>w.tr c (by simp[hc])
theorem U2 (h:c∈OO.flatten):c.1∈fl OO:=List.mem_map.mpr ⟨c,h,rfl⟩
theorem HI (h:b∈fl OO):∃o,(b,o)∈OO.flatten:=by
 obtain⟨⟨a,o⟩,hc,rfl⟩:=List.mem_map.mp h
 exact⟨o,hc⟩
theorem W.fresh {OO}(w:W OO H)(h:H p=none):p∉fl OO:=λz=>by
 obtain⟨o,ho⟩:=HI z
 have:=w.tr _ ho
 rw[h] at this;cases this
theorem W.new {OO}(w:W OO H)(h:H p=none)(m:SN o=true):W ([(p,o)]::OO) (upd H p o):=by
 have hf:=w.fresh h
 refine⟨λc hc=>?_,?_,λc hc=>?_⟩
 ·simp only[List.flatten_cons,List.cons_append,List.nil_append,List.mem_cons] at hc
  rcases hc with rfl |hc
  ·exact X7
  ·rw[XV (λe=>hf (by rw[←e];exact U2 hc))];exact w.tr c hc
 ·rw[XR];simpa using ⟨hf,w.nd⟩
 ·simp only[List.flatten_cons,List.cons_append,List.nil_append,List.mem_cons] at hc
  rcases hc with rfl |hc
  ·exact m
  ·exact w.mu c hc
theorem Jv {OO}(h:H p=none):Xx (hid H OO) (hid (upd H p o) ([(p,o)]::OO)):=λb u q=>by
 obtain⟨q1,q2⟩:=Yd q
 have hb:b≠p:=X2 q1 h
 refine Ze (by rw[XV hb];exact q1) ?_
 rw[XR];simpa using ⟨hb,q2⟩
theorem Ud {OO}(w:W OO H)(h:H p=none):hid (upd H p o) OO p=some o:=Ze X7 (w.fresh h)
class MonoE {α:Type}(r:Enc α):Prop where
 mono:∀{K:W.Frag}{H H':Hp}{v:V}{a:α},Xx H H'->r K H v a->r K H' v a
def Ae:HO->Bool
 | .tup _=>true
 | .frz _ _=>true
 |_=>false
def Eh (H H':Hp):Prop:=∀ b o,H b=some o->Ae o=true->H' b=some o
theorem Xx.i {H H':Hp}(s:Xx H H'):Eh H H':=λb o h _=>s b o h
theorem W.i {OO}{H:Hp}(w:W OO H):Eh H (hid H OO):=λb o h i=>Ze h λz=>by
 obtain⟨u,hu⟩:=HI z
 have h1:=w.tr _ hu
 have h2:=w.mu _ hu
 rw[h] at h1
 have e:o=u:=Option.some.inj h1
 subst e
 revert i h2;cases o<;> simp[Ae,SN]
class FlatE {α:Type}(r:Enc α):Prop where
 flat:∀{K:W.Frag}{H H':Hp}{v:V}{a:α},Eh H H'->r K H v a->r K H' v a
instance {α:Type}{r:Enc α}[f:FlatE r]:MonoE r:=⟨λs h=>f.flat s.i h⟩
def XB:Enc Bool:=λ_ _ v b=>v= .bl b
def VY:Enc Str:=λ_ _ v x=>v= .str x
def Gm (r:Enc α):Enc (Option α):=λK H v a=>match a with
 |none=>v= .non
 |some a=>v≠ .non/\r K H v a
def rV (r:Enc α):Enc (List α):=λK H v as=>∃ a xs,v= .ref a/\H a=some (.lst xs)/\Paired (r K H) xs as
def rPL (r:Enc α):Enc (List α):=λK H v as=>∃ a xs,v= .ref a/\H a=some (.tup xs)/\Paired (r K H) xs as
def rP2 (r:Enc α)(q:Enc β):Enc (α×β):=λK H v p=>∃ a x y,v= .ref a/\H a=some (.tup [x,y])/\r K H x p.1/\q K H y p.2
def rP3 (r:Enc α)(q:Enc β)(t:Enc γ):Enc (α×β×γ):=λK H v p=>∃ a x y z,v= .ref a/\H a=some (.tup [x,y,z])/\r K H x p.1/\q K H y p.2.1/\t K H z p.2.2
instance {α:Type}{r:Enc α}[m:MonoE r]:MonoE (rV r):=⟨λs r9=>by obtain⟨a,xs,e,q,p⟩:=r9;exact⟨a,xs,e,s _ _ q,Paired.imp2 (λ_ _ z=>m.mono s z) p⟩⟩
instance {α:Type}{r:Enc α}[m:MonoE r]:MonoE (rPL r):=⟨λs r9=>by obtain⟨a,xs,e,q,p⟩:=r9;exact⟨a,xs,e,s _ _ q,Paired.imp2 (λ_ _ z=>m.mono s z) p⟩⟩
instance {α:Type}{r:Enc α}[m:FlatE r]:FlatE (rPL r):=⟨λs r9=>by obtain⟨a,xs,e,q,p⟩:=r9;exact⟨a,xs,e,s _ _ q rfl,Paired.imp2 (λ_ _ z=>m.flat s z) p⟩⟩
instance {α β:Type}{r:Enc α}{q:Enc β}[m:MonoE r][n:MonoE q]:MonoE (rP2 r q):=⟨λs r9=>by obtain⟨a,x,y,e,h,p1,p2⟩:=r9;exact⟨a,x,y,e,s _ _ h,m.mono s p1,n.mono s p2⟩⟩
instance {α β:Type}{r:Enc α}{q:Enc β}[m:FlatE r][n:FlatE q]:FlatE (rP2 r q):=⟨λs r9=>by obtain⟨a,x,y,e,h,p1,p2⟩:=r9;exact⟨a,x,y,e,s _ _ h rfl,m.flat s p1,n.flat s p2⟩⟩
instance {α β γ:Type}{r:Enc α}{q:Enc β}{t:Enc γ}[m:MonoE r][n:MonoE q][k:MonoE t]:MonoE (rP3 r q t):=⟨λs r9=>by obtain⟨a,x,y,z,e,h,p1,p2,p3⟩:=r9;exact⟨a,x,y,z,e,s _ _ h,m.mono s p1,n.mono s p2,k.mono s p3⟩⟩
instance {α β γ:Type}{r:Enc α}{q:Enc β}{t:Enc γ}[m:FlatE r][n:FlatE q][k:FlatE t]:FlatE (rP3 r q t):=⟨λs r9=>by obtain⟨a,x,y,z,e,h,p1,p2,p3⟩:=r9;exact⟨a,x,y,z,e,s _ _ h rfl,m.flat s p1,n.flat s p2,k.flat s p3⟩⟩
instance:FlatE Xf:=⟨λ_ h=>h⟩
instance:FlatE XB:=⟨λ_ h=>h⟩
instance:FlatE VY:=⟨λ_ h=>h⟩
instance {α:Type}{r:Enc α}[m:MonoE r]:MonoE (rL r):=⟨λs r9=>by obtain⟨a,xs,e,q,p⟩:=r9;exact⟨a,xs,e,s.seq q,Paired.imp2 (λ_ _ z=>m.mono s z) p⟩⟩
instance {α:Type}{r:Enc α}[m:MonoE r]:MonoE (Gm r):=⟨fun {K H H' v a} s h=>by cases a with
 |none=>exact h
 |some a=>exact⟨h.1,m.mono s h.2⟩⟩
instance {α:Type}{r:Enc α}[m:FlatE r]:FlatE (Gm r):=⟨fun {K H H' v a} s h=>by cases a with
 |none=>exact h
 |some a=>exact⟨h.1,m.flat s h.2⟩⟩
abbrev OE (α:Type):=W.Frag->Hp->V->α->List XZ->Prop
inductive P3 {α β γ:Type}(F:α->β->γ->Prop):List α->List β->List γ->Prop where
 |nil:P3 F [] [] []
 |cons {a b c l m n}:F a b c->P3 F l m n->P3 F (a::l) (b::m) (c::n)
def oF (r:Enc α):OE α:=λK h v a C=>C=[]/\r K h v a
def oL (o:OE α):OE (List α):=λK h v as C=>∃ p xs Cs,v= .ref p/\P3 (o K h) xs as Cs/\C=(p, .lst xs)::Cs.flatten
def oT2 (o:OE α)(q:OE β):OE (α×β):=λK h v a C=>∃ p x y C1 C2,v= .ref p/\h p=some (.tup [x,y])/\o K h x a.1 C1/\q K h y a.2 C2/\C=C1++C2
def WG (o:OE α):OE (Option α):=λK h v a C=>match a with
 |none=>v= .non/\C=[]
 |some a=>v≠ .non/\o K h v a C
section
theorem P3.imp {F:α->β->γ->Prop}(h:∀a b c,F a b c->G a b c):∀{l m n},P3 F l m n->P3 G l m n:=λp=>by
 induction p with
 |nil=>exact .nil
 |cons r _ ih=>exact .cons (h _ _ _ r) ih
theorem P3.app {F:α->β->γ->Prop}:∀{l m n l' m' n'},P3 F l m n->P3 F l' m' n'->P3 F (l++l') (m++m') (n++n'):=λp h=>by
 induction p with
 |nil=>exact h
 |cons r _ ih=>exact .cons r ih
theorem P3.snoc {F:α->β->γ->Prop}{l m n a b c}(h:P3 F l m n)(r:F a b c):P3 F (l++[a]) (m++[b]) (n++[c]):=h.app (.cons r .nil)
theorem P3.len {F:α->β->γ->Prop}:∀{l m n},P3 F l m n->l.length=m.length/\n.length=m.length:=λp=>by
 induction p with
 |nil=>exact⟨rfl,rfl⟩
 |cons _ _ ih=>exact⟨congrArg Nat.succ ih.1,congrArg Nat.succ ih.2⟩
theorem P3.pair {F:α->β->γ->Prop}:∀{l m n},P3 F l m n->(∀a b c,c∈n->F a b c->G a b)->Paired G l m:=λp h=>by
 induction p with
 |nil=>exact .nil
 |cons r _ ih=>exact .cons (h _ _ _ List.mem_cons_self r) (ih λa b c hc=>h a b c (List.mem_cons_of_mem _ hc))
theorem P3.get {F:α->β->γ->Prop}:∀{l m n}{i:Nat}{b:β},P3 F l m n->m[i]?=some b->∃a c,l[i]?=some a/\n[i]?=some c/\F a b c
 |_,_,_,_,_, .nil,e=>by simp at e
 |_,_,_,0,_, .cons r _,e=>by simp at e;subst e;exact⟨_,_,rfl,rfl,r⟩
 |_,_,_,i+1,b, .cons _ t,e=>by
  obtain⟨a,c,h1,h2,h3⟩:=P3.get (i:=i) (b:=b) t (by simpa using e)
  exact⟨a,c,by simpa using h1,by simpa using h2,h3⟩
theorem P3.set {F:α->β->γ->Prop}{a:α}{b:β}(r:F a b c):∀{l m n} (i:Nat),P3 F l m n->P3 F (l.set i a) (m.set i b) (n.set i c)
 |_,_,_,_, .nil=>.nil
 |_,_,_,0, .cons _ t=>.cons r t
 |_,_,_,i+1, .cons q t=>.cons q (P3.set r i t)
theorem P3.flat:∀{l:List α}{m:List β}{n:List (List XZ)},P3 (λa b c=>c=[]/\F a b) l m n->Paired F l m/\n.flatten=[]:=λp=>by
 induction p with
 |nil=>exact⟨.nil,rfl⟩
 |cons r _ ih=>exact⟨.cons r.2 ih.1,by rw[List.flatten_cons,r.1,ih.2];rfl⟩
theorem P3.of:∀{l:List α}{m:List β},Paired F l m->P3 (λa b (c:List XZ)=>c=[]/\F a b) l m (List.replicate m.length [])
 |_,_, .nil=>.nil
 |_,_, .cons r t=>.cons ⟨rfl,r⟩ (P3.of t)
theorem Ym:∀n:Nat,(List.replicate n ([]:List XZ)).flatten=[]
 |0=>rfl
 |n+1=>by simp[List.replicate_succ,Ym n]
end
class MonoO {α:Type}(o:OE α):Prop where
 mono:∀{K:W.Frag}{H H':Hp}{v:V}{a:α}{C:List XZ},Xx H H'->o K H v a C->o K H' v a C
class FlatO {α:Type}(o:OE α):Prop where
 flat:∀{K:W.Frag}{H H':Hp}{v:V}{a:α}{C:List XZ},Eh H H'->o K H v a C->o K H' v a C
class FrzC {α:Type}(o:OE α)(r:outParam (Enc α)):Prop where
 frz:∀{K:W.Frag}{H H':Hp}{v:V}{a:α}{C:List XZ},o K H v a C->Xx H H'->(∀c∈C,H' c.1=some c.2)->r K H' v a
instance {α:Type}{r:Enc α}[m:MonoE r]:MonoO (oF r):=⟨λs h=>⟨h.1,m.mono s h.2⟩⟩
instance {α:Type}{r:Enc α}[m:FlatE r]:FlatO (oF r):=⟨λs h=>⟨h.1,m.flat s h.2⟩⟩
instance {α:Type}{r:Enc α}[m:MonoE r]:FrzC (oF r) r:=⟨λh s _=>m.mono s h.2⟩
instance {α:Type}{o:OE α}[m:MonoO o]:MonoO (oL o):=⟨λs r9=>by obtain⟨p,xs,Cs,e,q,c⟩:=r9;exact⟨p,xs,Cs,e,q.imp λ_ _ _ z=>m.mono s z,c⟩⟩
instance {α:Type}{o:OE α}[m:FlatO o]:FlatO (oL o):=⟨λs r9=>by obtain⟨p,xs,Cs,e,q,c⟩:=r9;exact⟨p,xs,Cs,e,q.imp λ_ _ _ z=>m.flat s z,c⟩⟩
instance {α:Type}{o:OE α}{r:Enc α}[m:FrzC o r]:FrzC (oL o) (rV r):=⟨λ⟨p,xs,Cs,e,q,c⟩ s hc=>by
 subst c
 exact⟨p,xs,e,hc _ List.mem_cons_self,q.pair λa b c hm z=>m.frz z s λx hx=>hc x (List.mem_cons_of_mem _ (List.mem_flatten.mpr ⟨c,hm,hx⟩))⟩⟩
instance {α β:Type}{o:OE α}{q:OE β}[m:MonoO o][n:MonoO q]:MonoO (oT2 o q):=⟨λs r9=>by obtain⟨p,x,y,C1,C2,e,h,h1,h2,c⟩:=r9;exact⟨p,x,y,C1,C2,e,s _ _ h,m.mono s h1,n.mono s h2,c⟩⟩
instance {α β:Type}{o:OE α}{q:OE β}[m:FlatO o][n:FlatO q]:FlatO (oT2 o q):=⟨λs r9=>by obtain⟨p,x,y,C1,C2,e,h,h1,h2,c⟩:=r9;exact⟨p,x,y,C1,C2,e,s _ _ h rfl,m.flat s h1,n.flat s h2,c⟩⟩
instance {α β:Type}{o:OE α}{q:OE β}{r:Enc α}{t:Enc β}[m:FrzC o r][n:FrzC q t]:FrzC (oT2 o q) (rP2 r t):=⟨λ⟨p,x,y,C1,C2,e,h,h1,h2,c⟩ s hc=>by
 subst c
 exact⟨p,x,y,e,s _ _ h,m.frz h1 s λc hm=>hc c (by simp[hm]),n.frz h2 s λc hm=>hc c (by simp[hm])⟩⟩
instance {α:Type}{o:OE α}[m:MonoO o]:MonoO (WG o):=⟨fun {K H H' v a C} s h=>by cases a with
 |none=>exact h
 |some a=>exact⟨h.1,m.mono s h.2⟩⟩
instance {α:Type}{o:OE α}[m:FlatO o]:FlatO (WG o):=⟨fun {K H H' v a C} s h=>by cases a with
 |none=>exact h
 |some a=>exact⟨h.1,m.flat s h.2⟩⟩
instance {α:Type}{o:OE α}{r:Enc α}[m:FrzC o r]:FrzC (WG o) (Gm r):=⟨fun {K H H' v a C} h s hc=>by cases a with
 |none=>exact h.1
 |some a=>exact⟨h.1,m.frz h.2 s hc⟩⟩
structure SC where
 p:Hp->Prop
 mono:∀h h',Xx h h'->p h->p h'
def SC.nil:SC:=⟨λ_=>True,λ_ _ _ _=>True.intro⟩
def SC.and (S T:SC):SC:=⟨λh=>S.p h/\T.p h,λ_ _ s q=>⟨S.mono _ _ s q.1,T.mono _ _ s q.2⟩⟩
def SC.one (K:W.Frag)(r:Enc α)[m:MonoE r](v:V)(a:α):SC:=⟨λh=>r K h v a,λ_ _ s q=>m.mono s q⟩
def SC.oneO (K:W.Frag)(o:OE α)[m:MonoO o](v:V)(a:α)(C:List XZ):SC:=⟨λh=>o K h v a C,λ_ _ s q=>m.mono s q⟩
abbrev SC.add (S:SC)(K:W.Frag)(r:Enc α)[m:MonoE r](v:V)(a:α):SC:=S.and (SC.one K r v a)
abbrev SC.addO (S:SC)(K:W.Frag)(o:OE α)[m:MonoO o](v:V)(a:α)(C:List XZ):SC:=S.and (SC.oneO K o v a C)
theorem SC.l {S T:SC}{h:Hp}(q:(S.and T).p h):S.p h:=q.1
theorem SC.r {S:SC}(q:(S.and T).p h):T.p h:=q.2
theorem SC.i {S T:SC}{h:Hp}(q:S.p h)(p:T.p h):(S.and T).p h:=⟨q,p⟩
theorem SC.t {h:Hp}:SC.nil.p h:=True.intro
theorem SC.p.l {S T:SC}{h:Hp}(q:(S.and T).p h):S.p h:=q.1
theorem SC.p.r {S T:SC}{h:Hp}(q:(S.and T).p h):T.p h:=q.2
def PZ (Er:Exc->Hp->Prop)(F:β->Hp->Prop)(H:Hp)(m:Rs β):Prop:=
 match m with
 | .bad=>False
 | .err x=>∀ H',Xx H H'->Er x H'
 | .ok b=>F b H
section
variable (K:W.Frag)(Er:Exc->Hp->Prop)(S:SC)(OO OO':List (List XZ))(σ:St)
def FB (r:Enc α)(Q:VK)(a:α)(H:Hp):Prop:=∀ v H',Xx H H'->r K H' v a->Q v H'
def FO (o:OE α)(Q:VK)(a:α)(H:Hp):Prop:=∀ v C H',Xx H H'->W (C::OO') H'->Xx (hid H OO) (hid H' (C::OO'))->o K (hid H' (C::OO')) v a C->Q v H'
def FT (Q:Bool->Hp->Prop)(b:Bool)(H:Hp):Prop:=∀ H',Xx H H'->Q b H'
def EvB (te:TE)(r:Enc α)(m:Rs α):Prop:=∀ H Q,W OO H->S.p (hid H OO)->PZ Er (FB K r Q) H m->te σ H Q
def Ev (te:TE)(o:OE α)(m:Rs α):Prop:=∀ H Q,W OO H->S.p (hid H OO)->PZ Er (FO K OO OO' o Q) H m->te σ H Q
def EvT (tt:TT)(m:Rs Bool):Prop:=∀ H Q,W OO H->S.p (hid H OO)->PZ Er (FT Q) H m->tt σ H Q
end
section
variable {Er:Exc->Hp->Prop}{S:SC}{OO OO' aU:List (List XZ)}
theorem FB.tr {Q:VK}:∀a H H',Xx H H'->FB K r Q a H->FB K r Q a H':=λa H H' s h v H2 s2 q=>h v H2 (s.trans s2) q
theorem FO.tr {Q:VK}:∀a H H',Xx H H'->FO K OO OO' o Q a H->FO K OO OO' o Q a H':=λa H H' s h v C H2 s2 w m q=>h v C H2 (s.trans s2) w ((Xh s).trans m) q
theorem FT.tr {Q:Bool->Hp->Prop}:∀b H H',Xx H H'->FT Q b H->FT Q b H':=λa H H' s h H2 s2=>h H2 (s.trans s2)
theorem EvB.run (he:EvB K Er S OO σ te r m){Q:VK}(w:W OO H)(s:S.p (hid H OO)){F:β->Hp->Prop}(hF:∀b H H',Xx H H'->F b H->F b H')(P:PZ Er F H (m.bind f))
  (hk:∀a v H',Xx H H'->W OO H'->S.p (hid H' OO)->r K H' v a->PZ Er F H' (f a)->Q v H'):te σ H Q:=by
 refine he H Q w s ?_
 cases m with
 |bad=>exact P
 |err x=>exact P
 |ok a=>
  intro v H' s' hr
  refine hk a v H' s' (w.keep s') (S.mono _ _ (Xh s') s) hr ?_
  have P':PZ Er F H (f a):=P
  revert P'
  cases f a with
  |bad=>exact λz=>z
  |err x=>exact λz H2 s2=>z H2 (s'.trans s2)
  |ok b=>exact λz=>hF b H H' s' z
theorem EvT.run (he:EvT Er S OO σ tt m){Q:Bool->Hp->Prop}(w:W OO H)(s:S.p (hid H OO)){F:β->Hp->Prop}(hF:∀b H H',Xx H H'->F b H->F b H')(P:PZ Er F H (m.bind f))
  (hk:∀b H',Xx H H'->W OO H'->S.p (hid H' OO)->PZ Er F H' (f b)->Q b H'):tt σ H Q:=by
 refine he H Q w s ?_
 cases m with
 |bad=>exact P
 |err x=>exact P
 |ok a=>
  intro H' s'
  refine hk a H' s' (w.keep s') (S.mono _ _ (Xh s') s) ?_
  have P':PZ Er F H (f a):=P
  revert P'
  cases f a with
  |bad=>exact λz=>z
  |err x=>exact λz H2 s2=>z H2 (s'.trans s2)
  |ok b=>exact λz=>hF b H H' s' z
theorem Ev.toB [z:FrzC o r](he:Ev K Er S OO OO σ te o m):EvB K Er S OO σ te r m:=λH Q w s P=>by
 refine he H Q w s ?_
 cases m with
 |bad=>exact P
 |err x=>exact P
 |ok a=>exact λv C H' s' w' m' ho=>P v H' s' (z.frz ho Xz w'.cell)
theorem Ev.frz [z:FrzC o r](he:Ev K Er S OO OO' σ te o m):Ev K Er S OO OO' σ te (oF r) m:=λH Q w s P=>by
 refine he H Q w s ?_
 cases m with
 |bad=>exact P
 |err x=>exact P
 |ok a=>
  intro v C H' s' w' m' ho
  have hs:Xx (hid H' (C::OO')) (hid H' ([]::OO')):=ZW (Xx.refl _) λb hb=>by rw[LL] at hb;rw[XR];simp[hb]
  refine P v [] H' s' w'.tail.nil (m'.trans hs) ⟨rfl,z.frz ho hs λc hc=>Ze (w'.cell c hc) ?_⟩
  rw[LL]
  have:=w'.nd
  rw[XR] at this
  intro hb
  exact(List.nodup_append.mp this).2.2 c.1 (List.mem_map.mpr ⟨c,hc,rfl⟩) c.1 hb rfl
theorem EvB.flat {te:TE}{r:Enc α}[z:FlatE r]{m:Rs α}(he:EvB K Er S OO σ te r m):Ev K Er S OO OO σ te (oF r) m:=λH Q w s P=>by
 refine he H Q w s ?_
 cases m with
 |bad=>exact P
 |err x=>exact P
 |ok a=>
  intro v H' s' hr
  have w':=w.keep s'
  exact P v [] H' s' w'.nil (by rw[ZA];exact Xh s') ⟨rfl,by rw[ZA];exact z.flat w'.i hr⟩
theorem X3 [z:MonoE r]{a:α}(i:Nat)(hσ:σ[i]?=some (some v))(h:∀x,S.p x->r K x v a):EvB K Er S OO σ (VI i) r (.ok a):=λH Q w s P=>
 ⟨v,hσ,P v H (Xx.refl _) (z.mono Xz (h _ s))⟩
theorem RD [z:FrzC o r]{a:α}(i k:Nat)(hσ:σ[i]?=some (some v))(hk:OO[k]?=some C)(h:∀x,S.p x->o K x v a C):EvB K Er S OO σ (VI i) r (.ok a):=λH Q w s P=>
 ⟨v,hσ,P v H (Xx.refl _) (z.frz (h _ s) Xz λc hc=>w.tr c (List.mem_flatten.mpr ⟨C,List.mem_of_getElem? hk,hc⟩))⟩
theorem XW:∀{OO:List (List XZ)}{k:Nat}{C:List XZ},OO[k]?=some C->(C::OO.set k []).flatten.Perm OO.flatten
 | [],_,_,h=>by simp at h
 |D::OO,0,C,h=>by simp at h;subst h;simp
 |D::OO,k+1,C,h=>by
  have:=XW (OO:=OO) (k:=k) (C:=C) (by simpa using h)
  simp only[List.set_cons_succ,List.flatten_cons] at this⊢
  refine List.Perm.trans ?_ (this.append_left D)
  rw[←List.append_assoc, ←List.append_assoc]
  exact List.perm_append_comm.append_right _
theorem Uo {OO OO':List (List XZ)}(h:OO'.flatten.Perm OO.flatten)(b:Addr):b∈fl OO'↔b∈fl OO:=(h.map (·.1)).mem_iff
theorem XU {OO OO':List (List XZ)}(h:OO'.flatten.Perm OO.flatten):hid H OO'=hid H OO:=by
 funext b;unfold hid
 by_cases hb:b∈fl OO
 ·rw[if_pos hb,if_pos ((Uo h b).mpr hb)]
 ·rw[if_neg hb,if_neg λz=>hb ((Uo h b).mp z)]
theorem Pp {a:α}(i k:Nat)(hσ:σ[i]?=some (some v))(hk:OO[k]?=some C)(h:∀x,S.p x->o K x v a C):Ev K Er S OO (OO.set k []) σ (VI i) o (.ok a):=λH Q w s P=>by
 have hp:=XW hk
 exact⟨v,hσ,P v C H (Xx.refl _) (w.of hp) (by rw[XU hp];exact Xx.refl _) (by rw[XU hp];exact h _ s)⟩
theorem ZC (n:Int):EvB K Er S OO σ (tC (.int n)) Xf (.ok n):=λH Q w s P=>P _ H (Xx.refl _) rfl
theorem Td (b:Bool):EvB K Er S OO σ (tC (.bl b)) XB (.ok b):=λH Q w s P=>P _ H (Xx.refl _) rfl
theorem Gu (x:Str):EvB K Er S OO σ (tC (.str x)) VY (.ok x):=λH Q w s P=>P _ H (Xx.refl _) rfl
theorem UE {g:Int->Int->V}{r:Enc β}{f:Int->Int->β}{ma mb:Rs Int}(hg:∀K H i j,r K H (g i j) (f i j))(ha:EvB K Er S OO σ ta Xf ma)(hb:EvB K Er S OO σ tb Xf mb):
  EvB K Er S OO σ (tOp (rI0 g) ta tb) r (ma.bind λa=>mb.bind λb=>.ok (f a b)):=λH Q w s P=>
 ha.run w s FB.tr P λa x H1 s1 w1 q1 r1 P1=>hb.run w1 q1 FB.tr P1 λb y H2 s2 w2 q2 r2 P2=>⟨a,b,r1,r2,P2 _ H2 (Xx.refl _) (hg K H2 a b)⟩
theorem De {Cc:Int->Int->Prop}{g:Int->Int->V}{r:Enc β}{f:Int->Int->Rs β}{ma mb:Rs Int}(hg:∀K H i j c,f i j= .ok c->Cc i j/\r K H (g i j) c)(he:∀i j x,f i j≠ .err x)
  (ha:EvB K Er S OO σ ta Xf ma)(hb:EvB K Er S OO σ tb Xf mb):
  EvB K Er S OO σ (tOp (rI Cc g) ta tb) r (ma.bind λa=>mb.bind λb=>f a b):=λH Q w s P=>
 ha.run w s FB.tr P λa x H1 s1 w1 q1 r1 P1=>hb.run w1 q1 FB.tr P1 λb y H2 s2 w2 q2 r2 P2=>by
  cases e:f a b with
  |bad=>rw[e] at P2;exact P2.elim
  |err x=>exact absurd e (he a b x)
  |ok c=>
   rw[e] at P2
   obtain⟨h1,h2⟩:=hg K H2 a b c e
   exact⟨a,b,r1,r2,h1,P2 _ H2 (Xx.refl _) h2⟩
def Oh (a b:Int):Rs Int:=chk ((-(2^64)<a/\a<2^64)∨(-(2^64)<b/\b<2^64)) (.ok (a*b))
def TD (a b:Int):Rs Int:=chk (0<b) (.ok (a % b))
def WH (a b:Int):Rs Int:=chk (0<b/\b.natAbs.log2<9000) (.ok (a/b))
def WI (a b:Int):Rs Int:=chk (0<=b/\b<=1000000/\a.natAbs<2^64) (.ok (a^b.toNat))
theorem Zy [Decidable c]{a:α}(h:chk c m= .ok a):c/\m= .ok a:=by
 unfold chk at h;split at h
 ·exact⟨by assumption,h⟩
 ·cases h
theorem Jo [Decidable c]{a:α}{x:Exc}:chk c (Rs.ok a)≠ .err x:=by
 unfold chk;split<;> exact λz=>nomatch z
theorem JC {ma mb:Rs Int}(ha:EvB K Er S OO σ ta Xf ma)(hb:EvB K Er S OO σ tb Xf mb):EvB K Er S OO σ (tOp (rI Ty λi j=>.int (i*j)) ta tb) Xf (ma.bind λa=>mb.bind λb=>Oh a b):=
 De (λK H i j c h=>by obtain⟨h1,h2⟩:=Zy h;cases h2;exact⟨h1,rfl⟩) (λi j x=>Jo) ha hb
theorem Pw {ma mb:Rs Int}(ha:EvB K Er S OO σ ta Xf ma)(hb:EvB K Er S OO σ tb Xf mb):EvB K Er S OO σ (tOp (rI (λ_ j=>0<j) λi j=>.int (i % j)) ta tb) Xf (ma.bind λa=>mb.bind λb=>TD a b):=
 De (λK H i j c h=>by obtain⟨h1,h2⟩:=Zy h;cases h2;exact⟨h1,rfl⟩) (λi j x=>Jo) ha hb
theorem SA {ma mb:Rs Int}(ha:EvB K Er S OO σ ta Xf ma)(hb:EvB K Er S OO σ tb Xf mb):EvB K Er S OO σ (tOp (rI (λ_ j=>0<j/\j.natAbs.log2<9000) λi j=>.int (i/j)) ta tb) Xf (ma.bind λa=>mb.bind λb=>WH a b):=
 De (λK H i j c h=>by obtain⟨h1,h2⟩:=Zy h;cases h2;exact⟨h1,rfl⟩) (λi j x=>Jo) ha hb
theorem RX {ma mb:Rs Int}(ha:EvB K Er S OO σ ta Xf ma)(hb:EvB K Er S OO σ tb Xf mb):EvB K Er S OO σ (tOp (rI Ws λi j=>.int (i^j.toNat)) ta tb) Xf (ma.bind λa=>mb.bind λb=>WI a b):=
 De (λK H i j c h=>by obtain⟨h1,h2⟩:=Zy h;cases h2;exact⟨h1,rfl⟩) (λi j x=>Jo) ha hb
theorem LV {ma mb:Rs Int}(ha:EvB K Er S OO σ ta Xf ma)(hb:EvB K Er S OO σ tb Xf mb):EvB K Er S OO σ (tOp (rI0 λi j=>.int (i+j)) ta tb) Xf (ma.bind λa=>mb.bind λb=>.ok (a+b)):=UE (λ_ _ _ _=>rfl) ha hb
theorem Gk {ma mb:Rs Int}(ha:EvB K Er S OO σ ta Xf ma)(hb:EvB K Er S OO σ tb Xf mb):EvB K Er S OO σ (tOp (rI0 λi j=>.int (i-j)) ta tb) Xf (ma.bind λa=>mb.bind λb=>.ok (a-b)):=UE (λ_ _ _ _=>rfl) ha hb
theorem Fy {ma mb:Rs Int}(ha:EvB K Er S OO σ ta Xf ma)(hb:EvB K Er S OO σ tb Xf mb):EvB K Er S OO σ (tOp (rI0 λi j=>.bl (decide (i<j))) ta tb) XB (ma.bind λa=>mb.bind λb=>.ok (decide (a<b))):=UE (λ_ _ _ _=>rfl) ha hb
theorem T0 {ma mb:Rs Int}(ha:EvB K Er S OO σ ta Xf ma)(hb:EvB K Er S OO σ tb Xf mb):EvB K Er S OO σ (tOp (rI0 λi j=>.bl (decide (i<=j))) ta tb) XB (ma.bind λa=>mb.bind λb=>.ok (decide (a<=b))):=UE (λ_ _ _ _=>rfl) ha hb
theorem Oo {ma mb:Rs Int}(ha:EvB K Er S OO σ ta Xf ma)(hb:EvB K Er S OO σ tb Xf mb):EvB K Er S OO σ (tOp (rI0 λi j=>.bl (decide (j<i))) ta tb) XB (ma.bind λa=>mb.bind λb=>.ok (decide (b<a))):=UE (λ_ _ _ _=>rfl) ha hb
theorem Tp {ma mb:Rs Int}(ha:EvB K Er S OO σ ta Xf ma)(hb:EvB K Er S OO σ tb Xf mb):EvB K Er S OO σ (tOp (rI0 λi j=>.bl (decide (j<=i))) ta tb) XB (ma.bind λa=>mb.bind λb=>.ok (decide (b<=a))):=UE (λ_ _ _ _=>rfl) ha hb
theorem UQ (ha:EvB K Er S OO σ ta Xf ma):EvB K Er S OO σ (tUn (rU λi=>.int (-i)) ta) Xf (ma.bind λa=>.ok (-a)):=λH Q w s P=>
 ha.run w s FB.tr P λa x H1 s1 w1 q1 r1 P1=>⟨a,r1,P1 _ H1 (Xx.refl _) rfl⟩
class Scal {α:Type}[DecidableEq α](r:Enc α):Prop where
 to:∀{K:W.Frag}{H H':Hp}{x y:V}{a b:α},r K H x a->r K H' y b->Wr x y=true/\decide (x=y)=decide (a=b)
instance:Scal Xf:=⟨fun {K H H' x y a b} h1 h2=>by cases(show x= .int a from h1);cases(show y= .int b from h2);exact⟨rfl,by simp⟩⟩
instance:Scal XB:=⟨fun {K H H' x y a b} h1 h2=>by cases(show x= .bl a from h1);cases(show y= .bl b from h2);exact⟨rfl,by simp⟩⟩
instance:Scal VY:=⟨fun {K H H' x y a b} h1 h2=>by cases(show x= .str a from h1);cases(show y= .str b from h2);exact⟨rfl,by simp⟩⟩
theorem VT [DecidableEq α]{r:Enc α}[z:Scal r][MonoE r]{ma mb:Rs α}(ha:EvB K Er S OO σ ta r ma)(hb:EvB K Er S OO σ tb r mb):EvB K Er S OO σ (tOp rEq ta tb) XB (ma.bind λa=>mb.bind λb=>.ok (decide (a=b))):=λH Q w s P=>
 ha.run w s FB.tr P λa x H1 s1 w1 q1 r1 P1=>hb.run w1 q1 FB.tr P1 λb y H2 s2 w2 q2 r2 P2=>by
  obtain⟨h1,h2⟩:=z.to r1 r2
  exact⟨h1,P2 _ H2 (Xx.refl _) (by rw[h2];rfl)⟩
theorem KU [DecidableEq α]{r:Enc α}[z:Scal r][MonoE r]{ma mb:Rs α}(ha:EvB K Er S OO σ ta r ma)(hb:EvB K Er S OO σ tb r mb):EvB K Er S OO σ (tOp rNe ta tb) XB (ma.bind λa=>mb.bind λb=>.ok (!decide (a=b))):=λH Q w s P=>
 ha.run w s FB.tr P λa x H1 s1 w1 q1 r1 P1=>hb.run w1 q1 FB.tr P1 λb y H2 s2 w2 q2 r2 P2=>by
  obtain⟨h1,h2⟩:=z.to r1 r2
  exact⟨h1,P2 _ H2 (Xx.refl _) (by rw[h2];rfl)⟩
theorem GJ [DecidableEq α]{r:Enc α}[z:MonoE r]{ma mb:Rs α}(ha:EvB K Er S OO σ ta r ma)(hb:EvB K Er S OO σ tb r mb):EvB K Er S OO σ (tOp (Wp K r) ta tb) XB (ma.bind λa=>mb.bind λb=>.ok (!decide (a=b))):=λH Q w s P=>
 ha.run w s FB.tr P λa x H1 s1 w1 q1 r1 P1=>hb.run w1 q1 FB.tr P1 λb y H2 s2 w2 q2 r2 P2=>⟨a,b,z.mono s2 r1,r2,P2 _ H2 (Xx.refl _) rfl⟩
theorem Lg (h:EvB K Er S OO σ te XB m):EvT Er S OO σ (tB te) m:=λH Q w s P=>h H _ w s (by
 cases m with
 |bad=>exact P
 |err x=>exact P
 |ok a=>exact λv H' s' r=>⟨a,r,P H' s'⟩)
theorem XD (h:EvB K Er S OO σ te XB m):EvT Er S OO σ (NO te) m:=Lg h
theorem F9 (h:EvT Er S OO σ t m):EvT Er S OO σ (Wz t) (m.bind λb=>.ok (!b)):=λH Q w s P=>h.run w s FT.tr P λb H1 s1 w1 q1 P1=>P1 H1 (Xx.refl _)
def O5 (a b:Rs Bool):Rs Bool:=a.bind λx=>if x=true then b else .ok false
def orR (a b:Rs Bool):Rs Bool:=a.bind λx=>if x=true then .ok true else b
theorem M3 {u:TT}{n:Rs Bool}(h:EvT Er S OO σ t m)(k:EvT Er S OO σ u n):EvT Er S OO σ (WX t u) (O5 m n):=λH Q w s P=>h.run w s FT.tr P λb H1 s1 w1 q1 P1=>by
 cases b with
 |true=>rw[if_pos rfl] at P1⊢;exact k H1 Q w1 q1 P1
 |false=>exact P1 H1 (Xx.refl _)
theorem Z1 {u:TT}{n:Rs Bool}(h:EvT Er S OO σ t m)(k:EvT Er S OO σ u n):EvT Er S OO σ (tOr t u) (orR m n):=λH Q w s P=>h.run w s FT.tr P λb H1 s1 w1 q1 P1=>by
 cases b with
 |true=>exact P1 H1 (Xx.refl _)
 |false=>exact k H1 Q w1 q1 P1
theorem ZJ {u:TE}{n:Rs Bool}(h:EvB K Er S OO σ t XB m)(k:EvB K Er S OO σ u XB n):EvB K Er S OO σ (Sh t u) XB (O5 m n):=λH Q w s P=>h.run w s FB.tr P λb x H1 s1 w1 q1 r1 P1=>⟨b,r1,by
 cases b with
 |true=>rw[if_pos rfl] at P1⊢;exact k H1 Q w1 q1 P1
 |false=>exact P1 _ H1 (Xx.refl _) rfl⟩
theorem OZ (hc:EvT Er S OO σ c mc)(ha:EvB K Er S OO σ ta r ma)(hb:EvB K Er S OO σ tb r mb):EvB K Er S OO σ (tIf c ta tb) r (mc.bind λb=>if b=true then ma else mb):=λH Q w s P=>
 hc.run w s FB.tr P λb H1 s1 w1 q1 P1=>by
  cases b with
  |true=>rw[if_pos rfl] at P1⊢;exact ha H1 Q w1 q1 P1
  |false=>exact hb H1 Q w1 q1 P1
theorem Nh (hc:EvT Er S OO σ c mc)(ha:Ev K Er S OO OO' σ ta o ma)(hb:Ev K Er S OO OO' σ tb o mb):Ev K Er S OO OO' σ (tIf c ta tb) o (mc.bind λb=>if b=true then ma else mb):=λH Q w s P=>
 hc.run w s FO.tr P λb H1 s1 w1 q1 P1=>by
  cases b with
  |true=>rw[if_pos rfl] at P1⊢;exact ha H1 Q w1 q1 P1
  |false=>exact hb H1 Q w1 q1 P1
end
end L2
variable {S:L2.SC}{r:L2.Enc α}{r0:L2.Enc α0}{r1:L2.Enc α1}{r2:L2.Enc α2}{r3:L2.Enc α3}{r4:L2.Enc α4}{r5:L2.Enc α5}{OO OO' OO1 aU Cs:List (List L2.XZ)}{Er:L2.Exc->L2.Hp->Prop}{C Cx_ Cy:List L2.XZ}{o:L2.OE α}{ma m:L2.Rs (List α)}{mb mi mk:L2.Rs Int}{mc:L2.Rs Bool}{f:α->L2.Rs β}{tb_:L2.TS}
namespace L2
open PySem PySem.Spec PyProof.Rows
section
variable (K:W.Frag)(Er:Exc->Hp->Prop)(S:SC)(OO:List (List XZ))(σ:St)
def FS (r:Enc α)(Q:VK)(a:α)(H:Hp):Prop:=∀ v H',Xx H H'->r K (hid H' OO) v a->Q v H'
def EvS (te:TE)(r:Enc α)(m:Rs α):Prop:=∀ H Q,W OO H->S.p (hid H OO)->PZ Er (FS K OO r Q) H m->te σ H Q
def rE (r:Enc α)(H:Hp)(v:V)(as:List α):Prop:=∃ p xs,v= .ref p/\H p=some (.lst xs)/\Paired (r K (hid H OO)) xs as
def FL (r:Enc α)(Q:VK)(as:List α)(H:Hp):Prop:=∀ v H',Xx H H'->rE K OO r H' v as->Q v H'
def EvL (te:TE)(r:Enc α)(m:Rs (List α)):Prop:=∀ H Q,W OO H->S.p (hid H OO)->PZ Er (FL K OO r Q) H m->te σ H Q
end
section
theorem FS.tr {Q:VK}:∀a H H',Xx H H'->FS K OO r Q a H->FS K OO r Q a H':=λa H H' s h v H2 s2 q=>h v H2 (s.trans s2) q
theorem PZ.run {F:β->Hp->Prop}{a:α}{m:Rs α}(hm:m= .ok a)(hF:∀b H H',Xx H H'->F b H->F b H')(s:Xx H H')(P:PZ Er F H (m.bind f)):PZ Er F H' (f a):=by
 subst hm
 have P':PZ Er F H (f a):=P
 revert P'
 cases f a with
 |bad=>exact λz=>z
 |err x=>exact λz H2 s2=>z H2 (s.trans s2)
 |ok b=>exact λz=>hF b H H' s z
theorem EvS.run {m:Rs α}(he:EvS K Er S OO σ te r m){Q:VK}(w:W OO H)(s:S.p (hid H OO)){F:β->Hp->Prop}(hF:∀b H H',Xx H H'->F b H->F b H')(P:PZ Er F H (m.bind f))
  (hk:∀a v H',Xx H H'->W OO H'->S.p (hid H' OO)->r K (hid H' OO) v a->PZ Er F H' (f a)->Q v H'):te σ H Q:=by
 refine he H Q w s ?_
 cases e:m with
 |bad=>rw[e] at P;exact P
 |err x=>rw[e] at P;exact P
 |ok a=>exact λv H' s' hr=>hk a v H' s' (w.keep s') (S.mono _ _ (Xh s') s) hr (PZ.run e hF s' P)
theorem EvL.run (he:EvL K Er S OO σ te r m){Q:VK}(w:W OO H)(s:S.p (hid H OO)){f:List α->Rs β}{F:β->Hp->Prop}(hF:∀b H H',Xx H H'->F b H->F b H')(P:PZ Er F H (m.bind f))
  (hk:∀a v H',Xx H H'->W OO H'->S.p (hid H' OO)->rE K OO r H' v a->PZ Er F H' (f a)->Q v H'):te σ H Q:=by
 refine he H Q w s ?_
 cases e:m with
 |bad=>rw[e] at P;exact P
 |err x=>rw[e] at P;exact P
 |ok a=>exact λv H' s' hr=>hk a v H' s' (w.keep s') (S.mono _ _ (Xh s') s) hr (PZ.run e hF s' P)
theorem PZ.imp {F:β->Hp->Prop}{m:Rs β}(P:PZ Er F H m)(h:∀b,m= .ok b->F b H->G b H):PZ Er G H m:=by
 cases m with
 |bad=>exact P
 |err x=>exact P
 |ok b=>exact h b rfl P
theorem EvS.ev {m:Rs α}(he:EvS K Er S OO σ te r m):Ev K Er S OO OO σ te (oF r) m:=λH Q w s P=>he H Q w s (P.imp λb _ h v H' s' q=>
 h v [] H' s' (w.keep s').nil (by rw[ZA];exact Xh s') ⟨rfl,by rw[ZA];exact q⟩)
theorem EvB.sh [z:FlatE r]{m:Rs α}(he:EvB K Er S OO σ te r m):EvS K Er S OO σ te r m:=λH Q w s P=>he H Q w s (P.imp λb _ h v H' s' q=>h v H' s' (z.flat (w.keep s').i q))
theorem Ev.sh [z:FrzC o r]{m:Rs α}(he:Ev K Er S OO OO σ te o m):EvS K Er S OO σ te r m:=λH Q w s P=>he.frz H Q w s (P.imp λb _ h v C H' s' w' m' q=>by
 obtain⟨rfl,q⟩:=q
 rw[ZA] at q
 exact h v H' s' q)
theorem GM {a:α}(i:Nat)(hσ:σ[i]?=some (some v))(h:∀x,S.p x->r K x v a):EvS K Er S OO σ (VI i) r (.ok a):=λH Q w s P=>⟨v,hσ,P v H (Xx.refl _) (h _ s)⟩
theorem EvS.ls (he:EvS K Er S OO σ te (rV r) m):EvL K Er S OO σ te r m:=λH Q w s P=>he H Q w s (P.imp λb _ h v H' s' r9=>by obtain⟨p,xs,e,q,pr⟩:=r9;exact h v H' s' ⟨p,xs,e,Xz _ _ q,pr⟩)
theorem EvB.ls [z:FlatE r](he:EvB K Er S OO σ te (rV r) m):EvL K Er S OO σ te r m:=λH Q w s P=>he H Q w s (P.imp λb _ h v H' s' r9=>by obtain⟨p,xs,e,q,pr⟩:=r9;exact h v H' s' ⟨p,xs,e,q,Paired.imp2 (λ_ _ z'=>z.flat (w.keep s').i z') pr⟩)
theorem Ev.ls [z:MonoE r](he:Ev K Er S OO OO σ te (oL (oF r)) m):EvL K Er S OO σ te r m:=he.sh.ls
def atR (as:List α)(i:Int):Rs α:=match atI as i with
 |some a=>.ok a
 |none=>.bad
theorem Cl {a:α}(h:atR as i= .ok a):atI as i=some a:=by
 unfold atR at h;split at h
 ·cases h;assumption
 ·cases h
theorem KM {x:Exc}:atR as i≠ .err x:=by unfold atR;split<;> exact λz=>nomatch z
theorem JU {F:V->α->Prop}{a:α}(p:Paired F xs as)(h:atI as i=some a):∃x,atI xs i=some x/\F x a:=by
 unfold atI at h⊢
 rw[Paired.len p]
 cases e:ixN as.length i with
 |none=>rw[e] at h;cases h
 |some j=>
  rw[e] at h
  obtain⟨x,h1,h2⟩:=Paired.getR p h
  exact⟨x,h1,h2⟩
theorem PZ.okOf {F:β->Hp->Prop}{m:Rs β}(he:∀x,m≠ .err x)(P:PZ Er F H m):∃b,m= .ok b/\F b H:=by
 cases m with
 |bad=>exact P.elim
 |err x=>exact absurd rfl (he x)
 |ok b=>exact⟨b,rfl,P⟩
theorem S9 [z:MonoE r](ha:EvB K Er S OO σ ta (rV r) ma)(hb:EvB K Er S OO σ tb Xf mb):EvB K Er S OO σ (tOp (Ih K) ta tb) r (ma.bind λas=>mb.bind λi=>atR as i):=λH Q w s P=>
 ha.run w s FB.tr P λa x H1 s1 w1 q1 ⟨p,xs,e,q,pr⟩ P1=>hb.run w1 q1 FB.tr P1 λb y H2 s2 w2 q2 r2 P2=>by
  obtain⟨c,hc,P3⟩:=P2.okOf λx=>KM
  obtain⟨u,h1,h2⟩:=JU pr (Cl hc)
  exact⟨p,xs,b,u,e,r2,SqL.of (s2 _ _ q),h1,P3 u H2 (Xx.refl _) (z.mono s2 h2)⟩
theorem Te [z:MonoE r](ha:EvL K Er S OO σ ta r ma)(hb:EvB K Er S OO σ tb Xf mb):EvS K Er S OO σ (tOp (Ih K) ta tb) r (ma.bind λas=>mb.bind λi=>atR as i):=λH Q w s P=>
 ha.run w s FS.tr P λa x H1 s1 w1 q1 ⟨p,xs,e,q,pr⟩ P1=>hb.run w1 q1 FS.tr P1 λb y H2 s2 w2 q2 r2 P2=>by
  obtain⟨c,hc,P3⟩:=P2.okOf λx=>KM
  obtain⟨u,h1,h2⟩:=JU pr (Cl hc)
  exact⟨p,xs,b,u,e,r2,SqL.of (s2 _ _ q),h1,P3 u H2 (Xx.refl _) (z.mono (Xh s2) h2)⟩
theorem Zz [z:MonoE r](ha:EvB K Er S OO σ ta (rPL r) ma)(hb:EvB K Er S OO σ tb Xf mb):EvB K Er S OO σ (tOp (Ex K) ta tb) r (ma.bind λas=>mb.bind λi=>atR as i):=λH Q w s P=>
 ha.run w s FB.tr P λa x H1 s1 w1 q1 ⟨p,xs,e,q,pr⟩ P1=>hb.run w1 q1 FB.tr P1 λb y H2 s2 w2 q2 r2 P2=>by
  obtain⟨c,hc,P3⟩:=P2.okOf λx=>KM
  obtain⟨u,h1,h2⟩:=JU pr (Cl hc)
  exact⟨p,xs,b,u,e,r2,SqT.of (s2 _ _ q),h1,P3 u H2 (Xx.refl _) (z.mono s2 h2)⟩
theorem UU {q:Enc β}{m:Rs (α×β)}(ha:EvB K Er S OO σ ta (rP2 r q) m):EvB K Er S OO σ (tOp (Ex K) ta (tC (.int 0))) r (m.bind λp=>.ok p.1):=λH Q w s P=>
 ha.run w s FB.tr P λa x H1 s1 w1 q1 r9 P1=>by obtain⟨p,x,y,e,q,h1,h2⟩:=r9;exact⟨p,_,0,x,e,rfl,SqT.of q,rfl,P1 _ H1 (Xx.refl _) h1⟩
theorem Ir {q:Enc β}{m:Rs (α×β)}(ha:EvB K Er S OO σ ta (rP2 r q) m):EvB K Er S OO σ (tOp (Ex K) ta (tC (.int 1))) q (m.bind λp=>.ok p.2):=λH Q w s P=>
 ha.run w s FB.tr P λa x H1 s1 w1 q1 r9 P1=>by obtain⟨p,x,y,e,q,h1,h2⟩:=r9;exact⟨p,_,1,y,e,rfl,SqT.of q,rfl,P1 _ H1 (Xx.refl _) h2⟩
theorem R6 {q:Enc β}{m:Rs (α×β)}(ha:EvS K Er S OO σ ta (rP2 r q) m):EvS K Er S OO σ (tOp (Ex K) ta (tC (.int 0))) r (m.bind λp=>.ok p.1):=λH Q w s P=>
 ha.run w s FS.tr P λa x H1 s1 w1 q1 r9 P1=>by obtain⟨p,x,y,e,q,h1,h2⟩:=r9;exact⟨p,_,0,x,e,rfl,SqT.of (Xz _ _ q),rfl,P1 _ H1 (Xx.refl _) h1⟩
theorem PJ {q:Enc β}{m:Rs (α×β)}(ha:EvS K Er S OO σ ta (rP2 r q) m):EvS K Er S OO σ (tOp (Ex K) ta (tC (.int 1))) q (m.bind λp=>.ok p.2):=λH Q w s P=>
 ha.run w s FS.tr P λa x H1 s1 w1 q1 r9 P1=>by obtain⟨p,x,y,e,q,h1,h2⟩:=r9;exact⟨p,_,1,y,e,rfl,SqT.of (Xz _ _ q),rfl,P1 _ H1 (Xx.refl _) h2⟩
theorem Sz (ha:EvB K Er S OO σ ta (rV r) m):EvB K Er S OO σ (tCB (K6 K) (Xv ta YK)) Xf (m.bind λas=>.ok (as.length:Int)):=λH Q w s P=>
 ha.run w s FB.tr P λa x H1 s1 w1 q1 r9 P1=>by obtain⟨p,xs,e,q,pr⟩:=r9;exact⟨p,xs,by rw[e], .inl (SqL.of q),P1 _ H1 (Xx.refl _) (by rw[Paired.len pr];rfl)⟩
theorem Hk (ha:EvB K Er S OO σ ta (rPL r) m):EvB K Er S OO σ (tCB (K6 K) (Xv ta YK)) Xf (m.bind λas=>.ok (as.length:Int)):=λH Q w s P=>
 ha.run w s FB.tr P λa x H1 s1 w1 q1 r9 P1=>by obtain⟨p,xs,e,q,pr⟩:=r9;exact⟨p,xs,by rw[e], .inr (SqT.of q),P1 _ H1 (Xx.refl _) (by rw[Paired.len pr];rfl)⟩
theorem Ic [z:MonoE r]{Q:VK}(w:W OO H)(pr:Paired (r K (hid H OO)) xs as)(P:FO K OO OO (oL (oF r)) Q as H):∀p,H p=none->Q (.ref p) (upd H p (.lst xs)):=λp hp=>by
 have hn:=Jv (OO:=OO) hp (o:=.lst xs)
 refine P (.ref p) [(p, .lst xs)] _ (XH hp _) (w.new hp rfl) hn ?_
 refine⟨p,xs,List.replicate as.length [],rfl,(P3.of (Paired.imp2 (λ_ _ h=>z.mono hn h) pr)).imp λ_ _ _ h=>h,by rw[Ym]⟩
theorem Paired.take':∀{l:List α}{m:List β} (n:Nat),Paired F l m->Paired F (l.take n) (m.take n)
 |_,_,0,_=>.nil
 |_,_,_+1, .nil=>.nil
 |_,_,n+1, .cons r t=>.cons r (Paired.take' n t)
theorem Paired.drop':∀{l:List α}{m:List β} (n:Nat),Paired F l m->Paired F (l.drop n) (m.drop n)
 |_,_,0,h=>h
 |_,_,_+1, .nil=>.nil
 |_,_,n+1, .cons _ t=>Paired.drop' n t
theorem Paired.rev':∀{l:List α}{m:List β},Paired F l m->Paired F l.reverse m.reverse
 |_,_, .nil=>.nil
 |_,_, .cons r t=>by rw[List.reverse_cons,List.reverse_cons];exact Paired.app (Paired.rev' t) (.cons r .nil)
theorem Paired.rep' {m:List β}(h:Paired F l m):∀n:Nat,Paired F (List.replicate n l).flatten (List.replicate n m).flatten
 |0=>.nil
 |n+1=>by simp only[List.replicate_succ,List.flatten_cons];exact Paired.app h (Paired.rep' h n)
def G8 (as:List α)(lo hi:Option Int):List α:=(as.drop (HT.sIx as.length 0 lo)).take (HT.sIx as.length as.length hi-HT.sIx as.length 0 lo)
theorem Uy {F:V->α->Prop}(p:Paired F xs as)(lo hi:Option Int):Paired F (Oy xs lo hi) (G8 as lo hi):=by
 unfold Oy G8;rw[Paired.len p];exact Paired.take' _ (Paired.drop' _ p)
def FP (Q:Option Int->Hp->Prop)(a:Option Int)(H:Hp):Prop:=∀ H',Xx H H'->Q a H'
def EvP (Er:Exc->Hp->Prop)(S:SC)(OO:List (List XZ))(σ:St)(t:TO)(m:Rs (Option Int)):Prop:=∀ H Q,W OO H->S.p (hid H OO)->PZ Er (FP Q) H m->t σ H Q
theorem EvP.run {m:Rs (Option Int)}(he:EvP Er S OO σ t m){Q:Option Int->Hp->Prop}(w:W OO H)(s:S.p (hid H OO)){f:Option Int->Rs β}{F:β->Hp->Prop}(hF:∀b H H',Xx H H'->F b H->F b H')(P:PZ Er F H (m.bind f))
  (hk:∀a H',Xx H H'->W OO H'->S.p (hid H' OO)->PZ Er F H' (f a)->Q a H'):t σ H Q:=by
 refine he H Q w s ?_
 cases e:m with
 |bad=>rw[e] at P;exact P
 |err x=>rw[e] at P;exact P
 |ok a=>exact λH' s'=>hk a H' s' (w.keep s') (S.mono _ _ (Xh s') s) (PZ.run e hF s' P)
theorem M9:EvP Er S OO σ BU (.ok none):=λH Q w s P=>P H (Xx.refl _)
theorem N6 {m:Rs Int}(h:EvB K Er S OO σ te Xf m):EvP Er S OO σ (Sc te) (m.bind λi=>.ok (some i)):=λH Q w s P=>
 h.run w s (λ_ _ _ s h H2 s2=>h H2 (s.trans s2)) P λa v H1 s1 w1 q1 r1 P1=>⟨a,r1,P1 H1 (Xx.refl _)⟩
theorem NI [z:MonoE r](he:EvL K Er S OO σ te r m)(hl:EvP Er S OO σ tl ml)(hh:EvP Er S OO σ th mh):
  Ev K Er S OO OO σ (tSl (T2 K) te tl th) (oL (oF r)) (m.bind λas=>ml.bind λlo=>mh.bind λhi=>.ok (G8 as lo hi)):=λH Q w s P=>
 he.run w s FO.tr P λas x H1 s1 w1 q1 ⟨p,xs,e,q,pr⟩ P1=>hl.run w1 q1 FO.tr P1 λlo H2 s2 w2 q2 P2=>hh.run w2 q2 FO.tr P2 λhi H3 s3 w3 q3 aO=>
  ⟨p,xs,e,SqL.of (s3 _ _ (s2 _ _ q)),Ic w3 (Uy (Paired.imp2 (λ_ _ h=>z.mono ((Xh s2).trans (Xh s3)) h) pr) lo hi) aO⟩
theorem NX (ha:EvB K Er S OO σ ta (rL r) m):EvB K Er S OO σ (tCB (K6 K) (Xv ta YK)) Xf (m.bind λas=>.ok (as.length:Int)):=λH Q w s P=>
 ha.run w s FB.tr P λa x H1 s1 w1 q1 r9 P1=>by obtain⟨p,xs,e,q,pr⟩:=r9;exact⟨p,xs,by rw[e], .inl q,P1 _ H1 (Xx.refl _) (by rw[Paired.len pr];rfl)⟩
theorem RO {ma:Rs (List Int)}(ha:EvB K Er S OO σ ta (rL Xf) ma)(hb:EvB K Er S OO σ tb Xf mb):EvB K Er S OO σ (tOp (Ih K) ta tb) Xf (ma.bind λas=>mb.bind λi=>atR as i):=λH Q w s P=>
 ha.run w s FB.tr P λa x H1 s1 w1 q1 ⟨p,xs,e,q,pr⟩ P1=>hb.run w1 q1 FB.tr P1 λb y H2 s2 w2 q2 r2 P2=>by
  obtain⟨c,hc,P3⟩:=P2.okOf λx=>KM
  obtain⟨u,h1,h2⟩:=JU pr (Cl hc)
  exact⟨p,xs,b,u,e,r2,s2.seq q,h1,P3 u H2 (Xx.refl _) h2⟩
theorem MM {m:Rs (List Int)}(he:EvB K Er S OO σ te (rL Xf) m)(hl:EvP Er S OO σ tl ml)(hh:EvP Er S OO σ th mh):
  Ev K Er S OO OO σ (tSl (T2 K) te tl th) (oL (oF Xf)) (m.bind λas=>ml.bind λlo=>mh.bind λhi=>.ok (G8 as lo hi)):=λH Q w s P=>
 he.run w s FO.tr P λas x H1 s1 w1 q1 ⟨p,xs,e,q,pr⟩ P1=>hl.run w1 q1 FO.tr P1 λlo H2 s2 w2 q2 P2=>hh.run w2 q2 FO.tr P2 λhi H3 s3 w3 q3 aO=>
  ⟨p,xs,e,s3.seq (s2.seq q),Ic w3 (Uy (Paired.imp2 (λ_ _ h=>h) pr) lo hi) aO⟩
def CG (as bs:List α):Rs (List α):=chk (as.length+bs.length<=sizeLine) (.ok (as++bs))
theorem Mo [z:MonoE r]{mb:Rs (List α)}(ha:EvL K Er S OO σ ta r ma)(hb:EvL K Er S OO σ tb r mb):Ev K Er S OO OO σ (tOp Wk ta tb) (oL (oF r)) (ma.bind λas=>mb.bind λbs=>CG as bs):=λH Q w s P=>
 ha.run w s FO.tr P λas x H1 s1 w1 q1 ⟨p,xs,e,q,pr⟩ P1=>hb.run w1 q1 FO.tr P1 λbs y H2 s2 w2 q2 ⟨p',ys,e',q',dR⟩ P2=>by
  obtain⟨c,hc,P3⟩:=P2.okOf λx=>Jo
  obtain⟨h1,h2⟩:=Zy hc
  cases h2
  exact⟨p,p',xs,ys,e,e',s2 _ _ q,q',by rw[Paired.len pr,Paired.len dR];exact h1,Ic w2 (Paired.app (Paired.imp2 (λ_ _ h=>z.mono (Xh s2) h) pr) dR) P3⟩
def Og (as:List α)(n:Int):Rs (List α):=chk (-(2^63)<=n/\n<2^63/\as.length*n.toNat<=sizeLine) (.ok (List.replicate n.toNat as).flatten)
theorem S1 [z:MonoE r](ha:EvL K Er S OO σ ta r ma)(hb:EvB K Er S OO σ tb Xf mb):Ev K Er S OO OO σ (tOp WS ta tb) (oL (oF r)) (ma.bind λas=>mb.bind λn=>Og as n):=λH Q w s P=>
 ha.run w s FO.tr P λas x H1 s1 w1 q1 ⟨p,xs,e,q,pr⟩ P1=>hb.run w1 q1 FO.tr P1 λn y H2 s2 w2 q2 r2 P2=>by
  obtain⟨c,hc,P3⟩:=P2.okOf λx=>Jo
  obtain⟨⟨h0,h1,h3⟩,h2⟩:=Zy hc
  cases h2
  exact⟨p,n,xs,e,r2,s2 _ _ q,h0,h1,by rw[Paired.len pr];exact h3,Ic w2 (Paired.rep' (Paired.imp2 (λ_ _ h=>z.mono (Xh s2) h) pr) _) P3⟩
theorem RT [z:MonoE r](ha:EvL K Er S OO σ ta r ma):Ev K Er S OO OO σ (tCB (F8 K) (Xv ta YK)) (oL (oF r)) (ma.bind λas=>.ok as):=λH Q w s P=>
 ha.run w s FO.tr P λas x H1 s1 w1 q1 r9 P1=>by obtain⟨p,xs,e,q,pr⟩:=r9;exact⟨p,xs,by rw[e], .inl (SqL.of q),Ic w1 pr P1⟩
def Ub (lo hi:Int):List Int:=(List.range (hi-lo).toNat).map λ(i:Nat)=>lo+(i:Int)
theorem Bn {ma:Rs Int}(ha:EvB K Er S OO σ ta Xf ma):Ev K Er S OO OO σ (EI (Xv ta YK)) (oL (oF Xf)) (ma.bind λn=>chk (0<=n/\n<=1000) (.ok (Ub 0 n))):=λH Q w s P=>
 ha.run w s FO.tr P λn x H1 s1 w1 q1 r1 P1=>by
  obtain⟨c,hc,P3⟩:=P1.okOf λx=>Jo
  obtain⟨⟨h0,h1⟩,h2⟩:=Zy hc
  cases h2
  refine⟨n,by rw[show x= .int n from r1],h0,h1,Ic w1 ?_ P3⟩
  unfold Ub
  rw[Int.sub_zero]
  have:∀l:List Nat,Paired (Xf K (hid H1 OO)) (l.map λ(i:Nat)=>V.int (i:Int)) (l.map λ(i:Nat)=>(0:Int)+(i:Int)):=λl=>by
   induction l with
   |nil=>exact .nil
   |cons a l ih=>exact .cons (by show V.int (a:Int)=V.int (0+(a:Int));rw[Int.zero_add]) ih
  exact this _
theorem G3:Ev K Er S OO OO σ (M4 YK) (oL o) (.ok []):=λH Q w s P=>⟨Nat.zero_le _,λp hp=>P (.ref p) [(p, .lst [])] _ (XH hp _) (w.new hp rfl) (Jv hp) ⟨p,[],[],rfl, .nil,rfl⟩⟩
def FA (K:W.Frag)(OO:List (List XZ))(r:Enc α)(Q:List V->Hp->Prop)(as:List α)(H:Hp):Prop:=∀ vs H',Xx H H'->Paired (r K (hid H' OO)) vs as->Q vs H'
def EvA (K:W.Frag)(Er:Exc->Hp->Prop)(S:SC)(OO:List (List XZ))(σ:St)(t:TA)(r:Enc α)(m:Rs (List α)):Prop:=∀ H Q,W OO H->S.p (hid H OO)->PZ Er (FA K OO r Q) H m->t σ H Q
theorem BD:EvA K Er S OO σ YK r (.ok []):=λH Q w s P=>P [] H (Xx.refl _) .nil
theorem XF [z:MonoE r]{m:Rs α}{n:Rs (List α)}(he:EvS K Er S OO σ te r m)(ht:EvA K Er S OO σ t r n):EvA K Er S OO σ (Xv te t) r (m.bind λa=>n.bind λas=>.ok (a::as)):=λH Q w s P=>
 he.run w s (λb H H' s h vs H2 s2 p=>h vs H2 (s.trans s2) p) P λa x H1 s1 w1 q1 r1 P1=>by
  refine ht H1 _ w1 q1 ?_
  cases e:n with
  |bad=>rw[e] at P1;exact P1
  |err x=>rw[e] at P1;exact P1
  |ok as=>rw[e] at P1;exact λvs H2 s2 p=>P1 (x::vs) H2 s2 (.cons (z.mono (Xh s2) r1) p)
theorem UZ [z:MonoE r](h:EvA K Er S OO σ t r m):Ev K Er S OO OO σ (M4 t) (oL (oF r)) (m.bind λas=>chk (as.length<=sizeLine) (.ok as)):=λH Q w s P=>by
 refine h H _ w s ?_
 cases e:m with
 |bad=>rw[e] at P;exact P
 |err x=>rw[e] at P;exact P
 |ok as=>
  rw[e] at P
  intro vs H1 s1 p
  obtain⟨c,hc,P3⟩:=PZ.okOf (λx=>Jo) (show PZ Er _ H (chk (as.length<=sizeLine) (.ok as)) from P)
  obtain⟨h1,h2⟩:=Zy hc
  cases h2
  exact⟨by rw[Paired.len p];exact h1,Ic (w.keep s1) p (FO.tr _ _ _ s1 P3)⟩
theorem YL [z:MonoE r](h:EvA K Er S OO σ t r m):EvS K Er S OO σ (SO t) (rPL r) (m.bind λas=>chk (as.length<=sizeLine) (.ok as)):=λH Q w s P=>by
 refine h H _ w s ?_
 cases e:m with
 |bad=>rw[e] at P;exact P
 |err x=>rw[e] at P;exact P
 |ok as=>
  rw[e] at P
  intro vs H1 s1 p
  obtain⟨c,hc,P3⟩:=PZ.okOf (λx=>Jo) (show PZ Er _ H (chk (as.length<=sizeLine) (.ok as)) from P)
  obtain⟨h1,h2⟩:=Zy hc
  cases h2
  have w1:=w.keep s1
  refine⟨by rw[Paired.len p];exact h1,λa ha=>P3 _ _ (s1.trans (XH ha _)) ⟨a,vs,rfl,Ud w1 ha,Paired.imp2 (λ_ _ q=>z.mono (Xh (XH ha _)) q) p⟩⟩
theorem Zq {q:Enc β}[z:MonoE r][y:MonoE q]{ma:Rs α}{mb:Rs β}(ha:EvS K Er S OO σ ta r ma)(hb:EvS K Er S OO σ tb q mb):EvS K Er S OO σ (SO (Xv ta (Xv tb YK))) (rP2 r q) (ma.bind λa=>mb.bind λb=>.ok (a,b)):=λH Q w s P=>
 ha.run w s FS.tr P λa x H1 s1 w1 q1 r1 P1=>hb.run w1 q1 FS.tr P1 λb y' H2 s2 w2 q2 r2 P2=>
  ⟨by show 2<=sizeLine;decide,λp hp=>P2 _ _ (XH hp _) ⟨p,x,y',rfl,Ud w2 hp,z.mono ((Xh s2).trans (Xh (XH hp _))) r1,y.mono (Xh (XH hp _)) r2⟩⟩
end
section
variable {α6:Type}
def noE (m:Rs α):Rs α:=match m with
 | .ok a=>.ok a
 |_=>.bad
theorem FC {m:Rs α}{a:α}(h:noE m= .ok a):m= .ok a:=by
 cases m with
 |ok b=>exact h
 |bad=>cases h
 |err x=>cases h
theorem Fh {m:Rs α}{x:Exc}:noE m≠ .err x:=by cases m<;> exact λz=>nomatch z
def FF (K:W.Frag)(o:OE α)(Q:VK)(a:α)(H:Hp):Prop:=∀ v C H',W [C] H'->Xx H (hid H' [C])->o K (hid H' [C]) v a C->Q v H'
def sp1 (r1:Enc α1)(o:OE ρ)(f:α1->Rs ρ)(K:W.Frag):Sp:=λvs H Q _=>∃ v1 a1 b,vs=[v1]/\r1 K H v1 a1/\f a1= .ok b/\FF K o Q b H
def sp2 (r1:Enc α1)(r2:Enc α2)(o:OE ρ)(f:α1->α2->Rs ρ)(K:W.Frag):Sp:=λvs H Q _=>∃ v1 v2 a1 a2 b,vs=[v1,v2]/\r1 K H v1 a1/\r2 K H v2 a2/\f a1 a2= .ok b/\FF K o Q b H
def sp3 (r1:Enc α1)(r2:Enc α2)(r3:Enc α3)(o:OE ρ)(f:α1->α2->α3->Rs ρ)(K:W.Frag):Sp:=λvs H Q _=>∃ v1 v2 v3 a1 a2 a3 b,vs=[v1,v2,v3]/\r1 K H v1 a1/\r2 K H v2 a2/\r3 K H v3 a3/\f a1 a2 a3= .ok b/\FF K o Q b H
def sp4 (r1:Enc α1)(r2:Enc α2)(r3:Enc α3)(r4:Enc α4)(o:OE ρ)(f:α1->α2->α3->α4->Rs ρ)(K:W.Frag):Sp:=λvs H Q _=>∃ v1 v2 v3 v4 a1 a2 a3 a4 b,vs=[v1,v2,v3,v4]/\r1 K H v1 a1/\r2 K H v2 a2/\r3 K H v3 a3/\r4 K H v4 a4/\f a1 a2 a3 a4= .ok b/\FF K o Q b H
theorem Pt (w:W OO H)(w':W [C] H')(m':Xx H (hid H' [C])):W (C::OO) H'/\Xx (hid H OO) (hid H' (C::OO))/\Eh (hid H' [C]) (hid H' (C::OO)):=by
 have s:Xx H H':=m'.trans Xz
 have f1:fl [C]=C.map (·.1):=by simp[fl]
 have hd:∀b,b∈fl OO->b∉C.map (·.1):=λb hb hc=>by
  obtain⟨u,hu⟩:=HI hb
  exact(Yd (m' _ _ (w.tr _ hu))).2 (by rw[f1];exact hc)
 have w2:W (C::OO) H':=by
  refine⟨λc hc=>?_,?_,λc hc=>?_⟩
  ·rw[List.flatten_cons,List.mem_append] at hc
   rcases hc with hc |hc
   ·exact w'.tr c (by simp[hc])
   ·exact s _ _ (w.tr c hc)
  ·rw[XR]
   refine List.nodup_append.mpr ⟨by rw[←f1];exact w'.nd,w.nd,λa ha b hb e=>?_⟩
   subst e;exact hd a hb ha
  ·rw[List.flatten_cons,List.mem_append] at hc
   rcases hc with hc |hc
   ·exact w'.mu c (by simp[hc])
   ·exact w.mu c hc
 refine⟨w2,λb u q=>?_,λb u q i=>?_⟩
 ·obtain⟨q1,q2⟩:=Yd q
  obtain⟨q3,q4⟩:=Yd (m' _ _ q1)
  refine Ze q3 ?_
  rw[XR,List.mem_append]
  exact λz=>z.elim (λz=>q4 (by rw[f1];exact z)) q2
 ·exact w2.i b u (Yd q).1 i
theorem DO [z:FlatO o]{Q:VK}{b:α}(w:W OO H)(P:FO K OO OO o Q b H):FF K o Q b H:=λv C H' w' m' ho=>by
 obtain⟨w2,h2,h3⟩:=Pt w w' m'
 exact P v C H' (m'.trans Xz) w2 h2 (z.flat h3 ho)
theorem Hb {o:OE ρ}[FlatO o]{f:α1->Rs ρ}{ma:Rs α1}(ha:EvB K Er S OO σ ta r1 ma):Ev K Er S OO OO σ (Vn (sp1 r1 o f K) [] E0 (Xv ta YK)) o (ma.bind λa=>noE (f a)):=λH Q w s P=>
 ha.run w s FO.tr P λa x H1 s1 w1 q1 r1 P1=>by
  obtain⟨b,hb,P2⟩:=P1.okOf λx=>Fh
  exact⟨x,a,b,rfl,r1,FC hb,DO w1 P2⟩
theorem KB [z1:MonoE r1]{o:OE ρ}[FlatO o]{f:α1->α2->Rs ρ}{ma:Rs α1}{mb:Rs α2}(ha:EvB K Er S OO σ ta r1 ma)(hb:EvB K Er S OO σ tb r2 mb):
  Ev K Er S OO OO σ (Vn (sp2 r1 r2 o f K) [] E0 (Xv ta (Xv tb YK))) o (ma.bind λa=>mb.bind λb=>noE (f a b)):=λH Q w s P=>
 ha.run w s FO.tr P λa x H1 s1 w1 q1 r1 P1=>hb.run w1 q1 FO.tr P1 λb y H2 s2 w2 q2 r2 P2=>by
  obtain⟨c,hc,P3⟩:=P2.okOf λx=>Fh
  exact⟨x,y,a,b,c,rfl,z1.mono s2 r1,r2,FC hc,DO w2 P3⟩
theorem KE [z1:MonoE r1][z2:MonoE r2]{o:OE ρ}[FlatO o]{f:α1->α2->α3->Rs ρ}{ma:Rs α1}{mb:Rs α2}{mc:Rs α3}(ha:EvB K Er S OO σ ta r1 ma)(hb:EvB K Er S OO σ tb r2 mb)(hc:EvB K Er S OO σ tc r3 mc):
  Ev K Er S OO OO σ (Vn (sp3 r1 r2 r3 o f K) [] E0 (Xv ta (Xv tb (Xv tc YK)))) o (ma.bind λa=>mb.bind λb=>mc.bind λc=>noE (f a b c)):=λH Q w s P=>
 ha.run w s FO.tr P λa x H1 s1 w1 q1 r1 P1=>hb.run w1 q1 FO.tr P1 λb y H2 s2 w2 q2 r2 P2=>hc.run w2 q2 FO.tr P2 λc z H3 s3 w3 q3 r3 P3=>by
  obtain⟨d,hd,P4⟩:=P3.okOf λx=>Fh
  exact⟨x,y,z,a,b,c,d,rfl,z1.mono (s2.trans s3) r1,z2.mono s3 r2,r3,FC hd,DO w3 P4⟩
theorem NE [z1:MonoE r1][z2:MonoE r2][z3:MonoE r3]{o:OE ρ}[FlatO o]{f:α1->α2->α3->α4->Rs ρ}{ma:Rs α1}{mb:Rs α2}{mc:Rs α3}(ha:EvB K Er S OO σ ta r1 ma)(hb:EvB K Er S OO σ tb r2 mb)(hc:EvB K Er S OO σ tc r3 mc)(hd:EvB K Er S OO σ td r4 md):
  Ev K Er S OO OO σ (Vn (sp4 r1 r2 r3 r4 o f K) [] E0 (Xv ta (Xv tb (Xv tc (Xv td YK))))) o (ma.bind λa=>mb.bind λb=>mc.bind λc=>md.bind λd=>noE (f a b c d)):=λH Q w s P=>
 ha.run w s FO.tr P λa x H1 s1 w1 q1 r1 P1=>hb.run w1 q1 FO.tr P1 λb y H2 s2 w2 q2 r2 P2=>hc.run w2 q2 FO.tr P2 λc z H3 s3 w3 q3 r3 P3=>hd.run w3 q3 FO.tr P3 λd u H4 s4 w4 q4 r4 P4=>by
  obtain⟨e,he,P5⟩:=P4.okOf λx=>Fh
  exact⟨x,y,z,u,a,b,c,d,e,rfl,z1.mono (s2.trans (s3.trans s4)) r1,z2.mono (s3.trans s4) r2,z3.mono s4 r3,r4,FC he,DO w4 P5⟩
structure Jn (γ ι:Type) where
 oo:ι->List (List XZ)
 ss:ι->St
 sc:γ->ι->SC
inductive Ctl (ρ γ:Type) where
 |ret (r:ρ) |nx (g:γ)
def FTd (K:W.Frag)(o:OE ρ)(D:Ends)(r:ρ)(h:Hp):Prop:=∀ v C OO' H',W (C::OO') H'->Xx h (hid H' (C::OO'))->o K (hid H' (C::OO')) v r C->D.rt v H'
def FNd (J:Jn γ ι)(D:Ends)(g:γ)(h:Hp):Prop:=∀ x H',W (J.oo x) H'->Xx h (hid H' (J.oo x))->(J.sc g x).p (hid H' (J.oo x))->D.nx (J.ss x) H'
def FCd (K:W.Frag)(o:OE ρ)(J:Jn γ ι)(D:Ends)(c:Ctl ρ γ)(h:Hp):Prop:=match c with
 | .ret r=>FTd K o D r h
 | .nx g=>FNd J D g h
class FdOk (Fd:Ends->β->Hp->Prop):Prop where
 tr:∀D b h h',Xx h h'->Fd D b h->Fd D b h'
instance {o:OE ρ}:FdOk (FTd K o):=⟨λD b h h' s q v C O H' w m x=>q v C O H' w (s.trans m) x⟩
instance {J:Jn γ ι}:FdOk (FNd J):=⟨λD b h h' s q x H' w m y=>q x H' w (s.trans m) y⟩
instance {o:OE ρ}{J:Jn γ ι}:FdOk (FCd K o J):=⟨λD b h h' s q=>by
 cases b with
 |ret r=>exact λv C O H' w m x=>q v C O H' w (s.trans m) x
 |nx g=>exact λx H' w m y=>q x H' w (s.trans m) y⟩
theorem PZ.tr {F:β->Hp->Prop}(hF:∀b H H',Xx H H'->F b H->F b H'){m:Rs β}(s:Xx H H')(P:PZ Er F H m):PZ Er F H' m:=by
 cases m with
 |bad=>exact P
 |err x=>exact λH2 s2=>P H2 (s.trans s2)
 |ok b=>exact hF b H H' s P
def Sv (Er:Exc->Hp->Prop)(S:SC)(OO:List (List XZ))(σ:St)(t:TS)(Fd:Ends->β->Hp->Prop)(m:Rs β):Prop:=∀ H D,W OO H->S.p (hid H OO)->PZ Er (Fd D) (hid H OO) m->t D σ H
variable [fd:FdOk Fd]{u:TS}
theorem Ev.st {m:Rs α}(he:Ev K Er S OO OO' σ te o m){Q:VK}(w:W OO H)(s:S.p (hid H OO))(P:PZ Er (Fd D) (hid H OO) (m.bind f))
  (hk:∀a v C H',W (C::OO') H'->S.p (hid H' (C::OO'))->o K (hid H' (C::OO')) v a C->PZ Er (Fd D) (hid H' (C::OO')) (f a)->Q v H'):te σ H Q:=by
 refine he H Q w s ?_
 cases m with
 |bad=>exact P
 |err x=>exact λH' s'=>P H' (Xz.trans s')
 |ok a=>exact λv C H' s' w' m' ho=>hk a v C H' w' (S.mono _ _ m' s) ho (PZ.tr (fd.tr D) m' P)
theorem EvB.st {m:Rs α}(he:EvB K Er S OO σ te r m){Q:VK}(w:W OO H)(s:S.p (hid H OO))(P:PZ Er (Fd D) (hid H OO) (m.bind f))
  (hk:∀a v H',Xx H H'->W OO H'->S.p (hid H' OO)->r K H' v a->PZ Er (Fd D) (hid H' OO) (f a)->Q v H'):te σ H Q:=by
 refine he H Q w s ?_
 cases m with
 |bad=>exact P
 |err x=>exact λH' s'=>P H' (Xz.trans s')
 |ok a=>exact λv H' s' hr=>hk a v H' s' (w.keep s') (S.mono _ _ (Xh s') s) hr (PZ.tr (fd.tr D) (Xh s') P)
theorem EvS.st {m:Rs α}(he:EvS K Er S OO σ te r m){Q:VK}(w:W OO H)(s:S.p (hid H OO))(P:PZ Er (Fd D) (hid H OO) (m.bind f))
  (hk:∀a v H',Xx H H'->W OO H'->S.p (hid H' OO)->r K (hid H' OO) v a->PZ Er (Fd D) (hid H' OO) (f a)->Q v H'):te σ H Q:=by
 refine he H Q w s ?_
 cases m with
 |bad=>exact P
 |err x=>exact λH' s'=>P H' (Xz.trans s')
 |ok a=>exact λv H' s' hr=>hk a v H' s' (w.keep s') (S.mono _ _ (Xh s') s) hr (PZ.tr (fd.tr D) (Xh s') P)
theorem EvT.st {m:Rs Bool}(he:EvT Er S OO σ tt m){Q:Bool->Hp->Prop}(w:W OO H)(s:S.p (hid H OO)){f:Bool->Rs β}(P:PZ Er (Fd D) (hid H OO) (m.bind f))
  (hk:∀b H',W OO H'->S.p (hid H' OO)->PZ Er (Fd D) (hid H' OO) (f b)->Q b H'):tt σ H Q:=by
 refine he H Q w s ?_
 cases m with
 |bad=>exact P
 |err x=>exact λH' s'=>P H' (Xz.trans s')
 |ok a=>exact λH' s'=>hk a H' (w.keep s') (S.mono _ _ (Xh s') s) (PZ.tr (fd.tr D) (Xh s') P)
theorem set_set:(OO.set k C).set k []=OO.set k []:=by simp
theorem Ww (w:W (C::OO) H)(hk:k<OO.length):W (OO.set k C) H/\Xx (hid H (C::OO)) (hid H (OO.set k C)):=by
 have h1:=XW (OO:=OO) (k:=k) (C:=OO[k]) (by simp[hk])
 have h2:=XW (OO:=OO.set k C) (k:=k) (C:=C) (by simp[hk])
 rw[set_set] at h2
 have h3:(OO.set k C).flatten.Perm (C++(OO.set k []).flatten):=by simpa using h2.symm
 have h4:(C::OO).flatten.Perm (C++(OO[k]++(OO.set k []).flatten)):=by
  rw[List.flatten_cons];exact(by simpa using h1.symm:OO.flatten.Perm (OO[k]++(OO.set k []).flatten)).append_left C
 have h5:(C++(OO.set k []).flatten).Sublist (C++(OO[k]++(OO.set k []).flatten)):=List.Sublist.append (List.Sublist.refl _) (List.sublist_append_right _ _)
 have w1:W [C++(OO[k]++(OO.set k []).flatten)] H:=w.of (by simpa using h4.symm)
 have w2:W [C++(OO.set k []).flatten] H:=w1.sub (by simpa using h5)
 refine⟨w2.of (by simpa using h3),ZW (Xx.refl _) λb hb=>?_⟩
 obtain⟨o,ho⟩:=HI hb
 exact U2 (h4.mem_iff.mpr (h5.mem (h3.mem_iff.mp ho)))
theorem Se [MonoO o]{m:Rs α}(i k:Nat)(he:Ev K Er S OO OO' σ te o m)(hk:k<OO'.length)(hr:∀a v C,Sv Er (S.addO K o v a C) (OO'.set k C) (σ.set i (some v)) u Fd (f a)):Sv Er S OO σ (ZY (Ha te (YY i)) u) Fd (m.bind f):=λH D w s P=>
 he.st w s P λa v C H' w' s' ho P'=>by
  obtain⟨w2,h2⟩:=Ww w' hk
  exact hr a v C H' D w2 ⟨S.mono _ _ h2 s',MonoO.mono h2 ho⟩ (PZ.tr (fd.tr D) h2 P')
theorem U9 [MonoE r]{m:Rs α}(i:Nat)(he:EvS K Er S OO σ te r m)(hr:∀a v,Sv Er (S.add K r v a) OO (σ.set i (some v)) u Fd (f a)):Sv Er S OO σ (ZY (Ha te (YY i)) u) Fd (m.bind f):=λH D w s P=>
 he.st w s P λa v H' s1 w' s' ho P'=>hr a v H' D w' ⟨s',ho⟩ P'
theorem Xs {o:OE ρ}{m:Rs ρ}(he:Ev K Er S OO OO' σ te o m):Sv Er S OO σ (ZY (Wj te) u) (FTd K o) m:=λH D w s P=>
 he H _ w s (by
  cases m with
  |bad=>exact P
  |err x=>exact λH' s'=>P H' (Xz.trans s')
  |ok a=>exact λv C H' s' w' m' ho=>P v C OO' H' w' m' ho)
theorem O8 {o:OE ρ}{m:Rs γ}(h:Sv Er S OO σ t (FNd J) m):Sv Er S OO σ t (FCd K o J) (m.bind λr=>.ok (.nx r)):=λH D w s P=>h H D w s (by
 cases m with
 |bad=>exact P
 |err x=>exact P
 |ok a=>exact P)
theorem Tz (x:ι)(g:γ)(h1:OO=J.oo x)(h2:σ=J.ss x)(h3:∀h,S.p h->(J.sc g x).p h):Sv Er S OO σ F3 (FNd J) (.ok g):=λH D w s P=>by
 subst h1 h2
 exact P x H w (Xx.refl _) (h3 _ s)
theorem SX:Sv Er S OO σ t Fd .bad:=λH D w s P=>P.elim
theorem XN {o:OE ρ}(hc:EvT Er S OO σ c mc)(h1:Sv Er S OO σ t1 (FTd K o) m1)(h2:Sv Er S OO σ u (FTd K o) m2):Sv Er S OO σ (ZY (PM c t1 F3) u) (FTd K o) (mc.bind λb=>if b=true then m1 else m2):=λH D w s P=>
 hc.st (Fd:=FTd K o) w s P λb H' w' s' P'=>by
  cases b with
  |true=>rw[if_pos rfl] at P'⊢;exact h1 H' _ w' s' P'
  |false=>exact h2 H' D w' s' P'
theorem Ey {o:OE ρ}(hc:EvT Er S OO σ c mc)(h1:Sv Er S OO σ t1 (FTd K o) m1)(h2:Sv Er S OO σ u (FCd K o J) m2):Sv Er S OO σ (ZY (PM c t1 F3) u) (FCd K o J) (mc.bind λb=>if b=true then m1.bind (λr=>.ok (.ret r)) else m2):=λH D w s P=>
 hc.st (Fd:=FCd K o J) w s P λb H' w' s' P'=>by
  cases b with
  |true=>
   rw[if_pos rfl] at P'⊢
   refine h1 H' _ w' s' ?_
   cases m1 with
   |bad=>exact P'
   |err x=>exact P'
   |ok a=>exact P'
  |false=>exact h2 H' D w' s' P'
theorem YW (hc:EvT Er S OO σ c mc)(h1:Sv Er S OO σ t1 Fd m1)(h2:Sv Er S OO σ t2 Fd m2):Sv Er S OO σ (PM c t1 t2) Fd (mc.bind λb=>if b=true then m1 else m2):=λH D w s P=>
 hc.st w s P λb H' w' s' P'=>by
  cases b with
  |true=>rw[if_pos rfl] at P'⊢;exact h1 H' _ w' s' P'
  |false=>exact h2 H' D w' s' P'
theorem P6 {m:Rs γ}{f:γ->Rs β}(hb:Sv Er S OO σ t (FNd J) m)(hr:∀g x,Sv Er (J.sc g x) (J.oo x) (J.ss x) u Fd (f g)):Sv Er S OO σ (ZY t u) Fd (m.bind f):=λH D w s P=>
 hb H _ w s (by
  cases m with
  |bad=>exact P
  |err x=>exact P
  |ok g=>exact λx H' w' m' q=>hr g x H' D w' q (PZ.tr (fd.tr D) m' P))
def G1 (f:γ->Rs ρ):Ctl ρ γ->Rs ρ
 | .ret r=>.ok r
 | .nx g=>f g
theorem O2 [z:FrzC o r][MonoE r]{a:α}{m:Rs β}(k:Nat)(hk:OO[k]?=some C)(h:∀x,S.p x->o K x v a C)(hr:Sv Er (S.add K r v a) (OO.set k []) σ t Fd m):Sv Er S OO σ t Fd m:=λH D w s P=>by
 have hp:=XW hk
 have w1:W (C::OO.set k []) H:=w.of hp
 have hs:Xx (hid H OO) (hid H (OO.set k [])):=by
  rw[←XU hp]
  exact ZW (Xx.refl _) λb hb=>by rw[XR];simp[hb]
 refine hr H D w1.tail ⟨S.mono _ _ hs s,z.frz (h _ s) hs λc hc=>Ze (w1.cell c hc) ?_⟩ (PZ.tr (fd.tr D) hs P)
 have:=w1.nd
 rw[XR] at this
 exact λhb=>(List.nodup_append.mp this).2.2 c.1 (List.mem_map.mpr ⟨c,hc,rfl⟩) c.1 hb rfl
theorem AD {D:List XZ}{o:HO}(w:W (D::OO) H)(hk:OO[k]?=some C)(hp:p∈C.map (·.1))(hC:(C'.map (·.1)).Perm ((C++D).map (·.1)))(ht:∀c∈C',upd H p o c.1=some c.2)(hm:∀c∈C',SN c.2=true):
  W (OO.set k C') (upd H p o)/\hid (upd H p o) (OO.set k C')=hid H (D::OO):=by
 have av:k<OO.length:=by
  rcases Nat.lt_or_ge k OO.length with h |h
  ·exact h
  ·rw[List.getElem?_eq_none h] at hk;cases hk
 have h1:=XW hk
 have h2:=XW (OO:=OO.set k C') (k:=k) (C:=C') (by simp[av])
 rw[set_set] at h2
 have h3:(OO.set k C').flatten.Perm (C'++(OO.set k []).flatten):=by simpa using h2.symm
 have h4:(D::OO).flatten.Perm (D++(C++(OO.set k []).flatten)):=by
  rw[List.flatten_cons];exact(by simpa using h1.symm:OO.flatten.Perm (C++(OO.set k []).flatten)).append_left D
 have gO:(fl (OO.set k C')).Perm (fl (D::OO)):=by
  unfold fl
  refine(h3.map _).trans (List.Perm.trans ?_ (h4.map _).symm)
  simp only[List.map_append]
  refine(hC.append_right _).trans ?_
  simp only[List.map_append]
  rw[←List.append_assoc]
  exact List.perm_append_comm.append_right _
 have nd:=w.nd
 refine⟨⟨λc hc=>?_,gO.nodup_iff.mpr nd,λc hc=>?_⟩,?_⟩
 ·rcases List.mem_append.mp (h3.mem_iff.mp hc) with hc |hc
  ·exact ht c hc
  ·have hne:c.1≠p:=λe=>by
    have eP:((D++(C++(OO.set k []).flatten)).map (·.1)).Nodup:=(h4.map _).nodup_iff.mp nd
    simp only[List.map_append] at eP
    have gP:=(List.nodup_append.mp eP).2.1
    exact(List.nodup_append.mp gP).2.2 p hp c.1 (List.mem_map.mpr ⟨c,hc,rfl⟩) e.symm
   rw[XV hne]
   exact w.tr c (h4.mem_iff.mpr (by simp[hc]))
 ·rcases List.mem_append.mp (h3.mem_iff.mp hc) with hc |hc
  ·exact hm c hc
  ·exact w.mu c (h4.mem_iff.mpr (by simp[hc]))
 ·funext b
  unfold hid
  by_cases hb:b∈fl (D::OO)
  ·rw[if_pos hb,if_pos (gO.mem_iff.mpr hb)]
  ·rw[if_neg hb,if_neg λz=>hb (gO.mem_iff.mp z)]
   refine XV λe=>hb ?_
   rw[e]
   obtain⟨c,hc,rfl⟩:=List.mem_map.mp hp
   exact U2 (h4.mem_iff.mpr (by simp[hc]))
theorem Qq {D:List XZ}:(Cs++[D]).flatten=Cs.flatten++D:=by simp
theorem Tb [MonoO o]{m:Rs α}{f:List α->Rs β}(i k:Nat)(hσ:σ[i]?=some (some v))(hk:OO[k]?=some C)(bI:OO'[k]?=some C)(h:∀x,S.p x->oL o K x v as C)(he:Ev K Er S OO OO' σ ta o m)
  (hr:∀a C',Sv Er (S.addO K (oL o) v (as++[a]) C') (OO'.set k C') σ u Fd (f (as++[a]))):Sv Er S OO σ (ZY (G5 (tBM K "list" FK (VI i) (Xv ta YK))) u) Fd (m.bind λa=>chk (as.length<sizeLine) (f (as++[a]))):=λH D w s P=>by
 obtain⟨p,xs,Cs,e,q,c⟩:=h _ s
 subst c
 have hH:H p=some (.lst xs):=w.tr (p, .lst xs) (List.mem_flatten.mpr ⟨_,List.mem_of_getElem? hk,List.mem_cons_self⟩)
 refine⟨v,hσ,by rw[e];exact .inl ⟨rfl,_,SqL.of hH⟩,he.st w s P λa y D' H' w' s' ho P'=>?_⟩
 obtain⟨p',xs',Cs',e2,q2,c2⟩:=h _ s'
 rw[e] at e2;cases e2
 have c3:(p,HO.lst xs)=(p,HO.lst xs')/\Cs.flatten=Cs'.flatten:=by
  injection c2 with h1 h2
  exact⟨h1,h2⟩
 obtain⟨c3,c4⟩:=c3
 cases c3
 have gQ:H' p=some (.lst xs):=w'.tr (p, .lst xs) (by rw[List.flatten_cons];exact List.mem_append_right _ (List.mem_flatten.mpr ⟨_,List.mem_of_getElem? bI,List.mem_cons_self⟩))
 cases av:decide (as.length<sizeLine) with
 |false=>rw[chk,if_neg (by simpa using av)] at P';exact P'.elim
 |true=>
  have gR:as.length<sizeLine:=by simpa using av
  rw[Xi gR] at P'
  have wnd:=w'.nd
  have dh:∀c∈(p,HO.lst (xs++[y]))::(Cs'++[D']).flatten,upd H' p (.lst (xs++[y])) c.1=some c.2:=λc hc=>by
   rcases List.mem_cons.mp hc with rfl |hc
   ·exact X7
   ·have gS:=XW bI
    have w3:W [D'++(((p,HO.lst xs)::Cs.flatten)++(OO'.set k []).flatten)] H':=w'.of (by
     simp only[List.flatten_cons,List.flatten_nil,List.append_nil]
     exact(by simpa using gS:(((p,HO.lst xs)::Cs.flatten)++(OO'.set k []).flatten).Perm OO'.flatten).append_left D')
    have bC:c∈D'++(((p,HO.lst xs)::Cs.flatten)++(OO'.set k []).flatten):=by
     rw[Qq,List.mem_append] at hc
     rcases hc with hc |hc
     ·rw[←c4] at hc;simp[hc]
     ·simp[hc]
    have hne:c.1≠p:=λee=>by
     have gP:=w3.nd
     rw[Qq,List.mem_append, ←c4] at hc
     simp only[fl,List.flatten_cons,List.flatten_nil,List.append_nil,List.map_append,List.cons_append,List.map_cons] at gP
     rw[List.nodup_append] at gP
     obtain⟨_,n2,n3⟩:=gP
     rcases hc with hc |hc
     ·exact(List.nodup_cons.mp n2).1 (List.mem_append_left _ (List.mem_map.mpr ⟨c,hc,ee⟩))
     ·exact n3 c.1 (List.mem_map.mpr ⟨c,hc,rfl⟩) p List.mem_cons_self ee
    rw[XV hne]
    exact w3.tr c (by simpa using bC)
  obtain⟨w4,h4⟩:=AD (C':=(p, .lst (xs++[y]))::(Cs'++[D']).flatten) w' bI List.mem_cons_self (by simp[Qq,c4]) dh (λc hc=>by
   rcases List.mem_cons.mp hc with rfl |hc
   ·rfl
   ·rw[Qq,List.mem_append, ←c4] at hc
    rcases hc with hc |hc
    ·exact w'.mu c (by rw[List.flatten_cons];exact List.mem_append_right _ (List.mem_flatten.mpr ⟨_,List.mem_of_getElem? bI,List.mem_cons_of_mem _ hc⟩))
    ·exact w'.mu c (by rw[List.flatten_cons];exact List.mem_append_left _ hc))
  refine⟨p,xs,y,e,rfl,gQ,by rw[(P3.len q).1];exact gR,?_⟩
  refine hr a _ _ D w4 ?_ (by rw[h4];exact P')
  rw[h4]
  exact⟨s',⟨p,xs++[y],Cs'++[D'],e,q2.snoc ho,rfl⟩⟩
end
section
variable [fd:FdOk Fd]{u:TS}
def forN:List α->γ->(γ->α->Rs γ)->Rs γ
 | [],g,_=>.ok g
 |a::as,g,f=>(f g a).bind λg'=>forN as g' f
def M5:List α->γ->(γ->α->Rs (Ctl ρ γ))->Rs (Ctl ρ γ)
 | [],g,_=>.ok (.nx g)
 |a::as,g,f=>(f g a).bind λc=>match c with
  | .ret r=>.ok (.ret r)
  | .nx g'=>M5 as g' f
theorem Yy {m:Rs α}:(m.bind f).bind g=m.bind λa=>(f a).bind g:=by cases m<;> rfl
structure Tgt (K:W.Frag)(OO:List (List XZ))(g:TG)(r:Enc α)(κ:Type) where
 set:κ->St->St
 sc:α->κ->SC->SC
 ok:∀{H:Hp}{v:V}{a:α}{σ:St}{S:SC}{Q:St->Hp->Prop},r K (hid H OO) v a->S.p (hid H OO)->(∀x,(sc a x S).p (hid H OO)->Q (set x σ) H)->g v σ H Q
@[reducible] def tg1 [MonoE r](i:Nat):Tgt K OO (YY i) r V where
 set:=λv σ=>σ.set i (some v)
 sc:=λa v S=>S.add K r v a
 ok:=fun {H v a σ S Q} hr hs hq=>hq v ⟨hs,hr⟩
@[reducible] def tg2 {q:Enc β}[MonoE r][MonoE q](i j:Nat):Tgt K OO (O4 K 2 (QP (YY i) (QP (YY j) RW))) (rP2 r q) (V×V) where
 set:=λv σ=>(σ.set i (some v.1)).set j (some v.2)
 sc:=λa v S=>(S.add K r v.1 a.1).add K q v.2 a.2
 ok:=fun {H v a σ S Q} r9 hs hq=>by obtain⟨p,x,y,e,h,h1,h2⟩:=r9;exact⟨p,_,e,SqT.of (Xz _ _ h),rfl,x,[y],rfl,y,[],rfl,rfl,hq (x,y) ⟨⟨hs,h1⟩,h2⟩⟩
@[reducible] def tg3 {q:Enc β}[MonoE r][MonoE q][MonoE t](i j k:Nat):Tgt K OO (O4 K 3 (QP (YY i) (QP (YY j) (QP (YY k) RW)))) (rP3 r q t) (V×V×V) where
 set:=λv σ=>((σ.set i (some v.1)).set j (some v.2.1)).set k (some v.2.2)
 sc:=λa v S=>((S.add K r v.1 a.1).add K q v.2.1 a.2.1).add K t v.2.2 a.2.2
 ok:=fun {H v a σ S Q} r9 hs hq=>by obtain⟨p,x,y,z,e,h,h1,h2,h3⟩:=r9;exact⟨p,_,e,SqT.of (Xz _ _ h),rfl,x,[y,z],rfl,y,[z],rfl,z,[],rfl,rfl,hq (x,y,z) ⟨⟨⟨hs,h1⟩,h2⟩,h3⟩⟩
structure Walk (K:W.Frag)(Er:Exc->Hp->Prop)(S:SC)(OO:List (List XZ))(σ:St)(wi:TI)(r:Enc α)(m:Rs (List α)):Prop where
 ok:∀{H:Hp}{R:It->Hp->Prop},W OO H->S.p (hid H OO)->PZ Er (λas H=>∀ J H',Xx H H'->
   (∀(i:Nat) a,as[i]?=some a->∀aU H2,W aU H2->Xx (hid H' OO) (hid H2 aU)->J.go i H2/\∀x H3,J.yld i H2 x H3->Xx H2 H3/\r K (hid H3 aU) x a)->
   (∀aU H2,W aU H2->Xx (hid H' OO) (hid H2 aU)->J.stop as.length H2)->R J H') H m->wi σ H R
theorem ZT [z:MonoE r](he:EvS K Er S OO σ te (rV r) m):Walk K Er S OO σ (HE K te) r m:=⟨fun {H R} w s P=>by
 refine he H _ w s (P.imp λas _ h v H' s' ⟨p,xs,e,hp,pr⟩=>⟨p,e,⟨xs,SqL.of (Xz _ _ hp)⟩,h _ H' s' ?_ ?_⟩)
 ·intro i a ha aU H2 w2 m2
  obtain⟨x,hx,rx⟩:=Paired.getR pr ha
  have hq:SqL K H2 p xs:=SqL.of (Xz _ _ (m2 _ _ hp))
  refine⟨⟨xs,x,hq,hx⟩,λy H3 r9=>?_⟩
  obtain⟨e3,hy⟩:=r9
  subst e3
  refine⟨Xx.refl _,?_⟩
  have:=hy xs hq
  rw[hx] at this
  cases this
  exact z.mono m2 rx
 ·intro aU H2 w2 m2
  exact⟨xs,SqL.of (Xz _ _ (m2 _ _ hp)),by rw[Paired.len pr];exact Nat.le_refl _⟩⟩
theorem E7 [z:MonoE r](he:EvS K Er S OO σ te (rPL r) m):Walk K Er S OO σ (Wo K te) r m:=⟨fun {H R} w s P=>by
 refine he H _ w s (P.imp λas _ h v H' s' ⟨p,xs,e,hp,pr⟩=>⟨p,e,⟨xs,SqT.of (Xz _ _ hp)⟩,h _ H' s' ?_ ?_⟩)
 ·intro i a ha aU H2 w2 m2
  obtain⟨x,hx,rx⟩:=Paired.getR pr ha
  have hq:SqT K H2 p xs:=SqT.of (Xz _ _ (m2 _ _ hp))
  refine⟨⟨xs,x,hq,hx⟩,λy H3 r9=>?_⟩
  obtain⟨e3,hy⟩:=r9
  subst e3
  refine⟨Xx.refl _,?_⟩
  have:=hy xs hq
  rw[hx] at this
  cases this
  exact z.mono m2 rx
 ·intro aU H2 w2 m2
  exact⟨xs,SqT.of (Xz _ _ (m2 _ _ hp)),by rw[Paired.len pr];exact Nat.le_refl _⟩⟩
theorem HU {lo hi:Int}{i:Nat}{a:Int}(h:(Ub lo hi)[i]?=some a):a=lo+i/\i<(hi-lo).toNat:=by
 unfold Ub at h
 rw[List.getElem?_map] at h
 rcases Nat.lt_or_ge i (hi-lo).toNat with q |q
 ·rw[List.getElem?_range q] at h;exact⟨(Option.some.inj h).symm,q⟩
 ·rw[List.getElem?_eq_none (by simpa using q)] at h;cases h
theorem HQ {lo hi:Int}:(Ub lo hi).length=(hi-lo).toNat:=by simp[Ub]
def Ov (lo hi:Int):Rs (List Int):=chk (-(2^62)<=lo/\lo<2^62/\ -(2^62)<=hi/\hi<2^62) (.ok (Ub lo hi))
theorem Gy {m:Rs Int}(he:EvB K Er S OO σ te Xf m):Walk K Er S OO σ (Sb (Xv te YK)) Xf (m.bind λn=>Ov 0 n):=⟨fun {H R} w s P=>
 he.run w s (λas H H' s' h J H2 s2=>h J H2 (s'.trans s2)) P λn v H1 s1 w1 q1 r1 P1=>by
  obtain⟨c,hc,P2⟩:=P1.okOf λx=>Jo
  obtain⟨⟨_,_,h1,h2⟩,h3⟩:=Zy hc
  cases h3
  refine⟨n,by rw[show v= .int n from r1],h1,h2,P2 _ H1 (Xx.refl _) (λi a ha aU H2 w2 m2=>?_) λaU H2 w2 m2=>?_⟩
  ·obtain⟨e1,e2⟩:=HU ha
   rw[Int.sub_zero] at e2
   refine⟨e2,λx H3 r9=>?_⟩
   obtain⟨e3,e4⟩:=r9
   subst e3
   exact⟨Xx.refl _,by rw[e4,e1];rfl⟩
  ·show n.toNat<=_
   rw[HQ,Int.sub_zero];exact Nat.le_refl _⟩
theorem TM {tb:TS}{f:γ->Rs β}(J:Jn γ ι)(T:∀OO,Tgt K OO g r κ)(x0:ι)(g0:γ)(he:Walk K Er S OO σ wi r m)(h1:OO=J.oo x0)(h2:σ=J.ss x0)(h3:∀h,S.p h->(J.sc g0 x0).p h)
  (hb:∀g x a v,Sv Er ((T (J.oo x)).sc a v (J.sc g x)) (J.oo x) ((T (J.oo x)).set v (J.ss x)) tb (FNd J) (body g a))
  (hr:∀g x,Sv Er (J.sc g x) (J.oo x) (J.ss x) u Fd (f g)):Sv Er S OO σ (ZY (PB wi g tb) u) Fd (m.bind λas=>(forN as g0 body).bind f):=λH D w s P=>by
 refine he.ok w s ?_
 cases em:m with
 |bad=>rw[em] at P;exact P
 |err x=>rw[em] at P;exact λH' s'=>P H' (Xz.trans s')
 |ok as=>
  rw[em] at P
  have P:PZ Er (Fd D) (hid H OO) ((forN as g0 body).bind f):=P
  intro It H' s' hgo bQ
  refine⟨λi mm σ' H2=>mm=as.length-i/\i<=as.length/\∃x gg,σ'=J.ss x/\W (J.oo x) H2/\Xx (hid H' OO) (hid H2 (J.oo x))/\(J.sc gg x).p (hid H2 (J.oo x))/\PZ Er (Fd D) (hid H2 (J.oo x)) ((forN (as.drop i) gg body).bind f),⟨as.length,rfl,Nat.zero_le _,x0,g0,h2,?_,?_,?_,?_⟩,?_⟩
  ·rw[←h1];exact w.keep s'
  ·rw[←h1];exact Xx.refl _
  ·rw[←h1];exact h3 _ (S.mono _ _ (Xh s') s)
  ·rw[←h1,List.drop_zero];exact PZ.tr (fd.tr D) (Xh s') P
  ·rintro i mm σ' H2 ⟨rfl,hi,x,gg,rfl,w2,m2,eQ,P2⟩
   by_cases av:i<as.length
   ·right
    have ha:as[i]?=some as[i]:=by simp[av]
    obtain⟨h4,h5⟩:=hgo i _ ha (J.oo x) H2 w2 m2
    refine⟨h4,λσ3 H3=>∃ x gg,σ3=J.ss x/\W (J.oo x) H3/\Xx (hid H' OO) (hid H3 (J.oo x))/\(J.sc gg x).p (hid H3 (J.oo x))/\PZ Er (Fd D) (hid H3 (J.oo x)) ((forN (as.drop (i+1)) gg body).bind f),λσ3 H3 q=>⟨as.length-(i+1),Nat.sub_lt_sub_left av (Nat.lt_succ_self i),rfl,av,q⟩,λy H3 hy=>?_⟩
    obtain⟨s3,r3⟩:=h5 y H3 hy
    have w3:=w2.keep s3
    have m3:=Xh (OO:=J.oo x) s3
    refine(T (J.oo x)).ok r3 ((J.sc gg x).mono _ _ m3 eQ) λv hv=>hb gg x as[i] v H3 _ w3 hv ?_
    rw[List.drop_eq_getElem_cons av] at P2
    have P3:PZ Er (Fd D) (hid H2 (J.oo x)) ((body gg as[i]).bind λg'=>(forN (as.drop (i+1)) g' body).bind f):=by rw[←Yy];exact P2
    cases eb:body gg as[i] with
    |bad=>rw[eb] at P3;exact P3
    |err x=>rw[eb] at P3;exact λH4 s4=>P3 H4 (m3.trans s4)
    |ok g'=>
     rw[eb] at P3
     exact λx' H4 w4 m4 gT=>⟨x',g',rfl,w4,m2.trans (m3.trans m4),gT,PZ.tr (fd.tr D) (m3.trans m4) P3⟩
   ·left
    have e:i=as.length:=Nat.le_antisymm hi (Nat.not_lt.mp av)
    subst e
    refine⟨bQ (J.oo x) H2 w2 m2,hr gg x H2 D w2 eQ ?_⟩
    rw[List.drop_length] at P2
    exact P2
theorem Rw {o:OE ρ}{tb:TS}{f:γ->Rs ρ}(J:Jn γ ι)(T:∀OO,Tgt K OO g r κ)(x0:ι)(g0:γ)(he:Walk K Er S OO σ wi r m)(h1:OO=J.oo x0)(h2:σ=J.ss x0)(h3:∀h,S.p h->(J.sc g0 x0).p h)
  (hb:∀g x a v,Sv Er ((T (J.oo x)).sc a v (J.sc g x)) (J.oo x) ((T (J.oo x)).set v (J.ss x)) tb (FCd K o J) (body g a))
  (hr:∀g x,Sv Er (J.sc g x) (J.oo x) (J.ss x) u (FTd K o) (f g)):Sv Er S OO σ (ZY (PB wi g tb) u) (FTd K o) (m.bind λas=>(M5 as g0 body).bind (G1 f)):=λH D w s P=>by
 refine he.ok w s ?_
 cases em:m with
 |bad=>rw[em] at P;exact P
 |err x=>rw[em] at P;exact λH' s'=>P H' (Xz.trans s')
 |ok as=>
  rw[em] at P
  have P:PZ Er (FTd K o D) (hid H OO) ((M5 as g0 body).bind (G1 f)):=P
  intro It H' s' hgo bQ
  refine⟨λi mm σ' H2=>mm=as.length-i/\i<=as.length/\∃x gg,σ'=J.ss x/\W (J.oo x) H2/\Xx (hid H' OO) (hid H2 (J.oo x))/\(J.sc gg x).p (hid H2 (J.oo x))/\PZ Er (FTd K o D) (hid H2 (J.oo x)) ((M5 (as.drop i) gg body).bind (G1 f)),⟨as.length,rfl,Nat.zero_le _,x0,g0,h2,?_,?_,?_,?_⟩,?_⟩
  ·rw[←h1];exact w.keep s'
  ·rw[←h1];exact Xx.refl _
  ·rw[←h1];exact h3 _ (S.mono _ _ (Xh s') s)
  ·rw[←h1,List.drop_zero];exact PZ.tr (FdOk.tr D) (Xh s') P
  ·rintro i mm σ' H2 ⟨rfl,hi,x,gg,rfl,w2,m2,eQ,P2⟩
   by_cases av:i<as.length
   ·right
    have ha:as[i]?=some as[i]:=by simp[av]
    obtain⟨h4,h5⟩:=hgo i _ ha (J.oo x) H2 w2 m2
    refine⟨h4,λσ3 H3=>∃ x gg,σ3=J.ss x/\W (J.oo x) H3/\Xx (hid H' OO) (hid H3 (J.oo x))/\(J.sc gg x).p (hid H3 (J.oo x))/\PZ Er (FTd K o D) (hid H3 (J.oo x)) ((M5 (as.drop (i+1)) gg body).bind (G1 f)),λσ3 H3 q=>⟨as.length-(i+1),Nat.sub_lt_sub_left av (Nat.lt_succ_self i),rfl,av,q⟩,λy H3 hy=>?_⟩
    obtain⟨s3,r3⟩:=h5 y H3 hy
    have w3:=w2.keep s3
    have m3:=Xh (OO:=J.oo x) s3
    refine(T (J.oo x)).ok r3 ((J.sc gg x).mono _ _ m3 eQ) λv hv=>hb gg x as[i] v H3 _ w3 hv ?_
    rw[List.drop_eq_getElem_cons av] at P2
    have P3:PZ Er (FTd K o D) (hid H2 (J.oo x)) ((body gg as[i]).bind λc=>(match c with
     | .ret r=>Rs.ok (Ctl.ret r)
     | .nx g'=>M5 (as.drop (i+1)) g' body).bind (G1 f)):=by rw[←Yy];exact P2
    cases eb:body gg as[i] with
    |bad=>rw[eb] at P3;exact P3
    |err x=>rw[eb] at P3;exact λH4 s4=>P3 H4 (m3.trans s4)
    |ok c=>
     rw[eb] at P3
     cases c with
     |ret r=>exact FdOk.tr (Fd:=FTd K o) D r _ _ m3 P3
     |nx g'=>exact λx' H4 w4 m4 gT=>⟨x',g',rfl,w4,m2.trans (m3.trans m4),gT,PZ.tr (FdOk.tr D) (m3.trans m4) P3⟩
   ·left
    have e:i=as.length:=Nat.le_antisymm hi (Nat.not_lt.mp av)
    subst e
    refine⟨bQ (J.oo x) H2 w2 m2,hr gg x H2 D w2 eQ ?_⟩
    rw[List.drop_length] at P2
    exact P2
def KR:Nat->γ->(γ->Rs Bool)->(γ->Rs γ)->Rs γ
 |0,_,_,_=>.bad
 |n+1,g,c,f=>(c g).bind λb=>if b=true then(f g).bind λg'=>KR n g' c f else .ok g
theorem Nb {tb:TS}{mc:γ->Rs Bool}{f:γ->Rs β}(J:Jn γ ι)(n:Nat)(x0:ι)(g0:γ)(h1:OO=J.oo x0)(h2:σ=J.ss x0)(h3:∀h,S.p h->(J.sc g0 x0).p h)
  (hc:∀g x,EvT Er (J.sc g x) (J.oo x) (J.ss x) c (mc g))(hb:∀g x,Sv Er (J.sc g x) (J.oo x) (J.ss x) tb (FNd J) (body g))
  (hr:∀g x,Sv Er (J.sc g x) (J.oo x) (J.ss x) u Fd (f g)):Sv Er S OO σ (ZY (IV c tb) u) Fd ((KR n g0 mc body).bind f):=λH D w s P=>by
 refine⟨λmm σ' H2=>∃ x gg,σ'=J.ss x/\W (J.oo x) H2/\(J.sc gg x).p (hid H2 (J.oo x))/\PZ Er (Fd D) (hid H2 (J.oo x)) ((KR mm gg mc body).bind f),⟨n,x0,g0,h2,by rw[←h1];exact w,by rw[←h1];exact h3 _ s,by rw[←h1];exact P⟩,?_⟩
 rintro mm σ' H2 ⟨x,gg,rfl,w2,eQ,P2⟩
 cases mm with
 |zero=>exact P2.elim
 |succ mm=>
  have P3:PZ Er (Fd D) (hid H2 (J.oo x)) ((mc gg).bind λb=>(if b=true then(body gg).bind λg'=>KR mm g' mc body else .ok gg).bind f):=by rw[←Yy];exact P2
  refine(hc gg x).st w2 eQ P3 λb H3 w3 sc3 P4=>?_
  cases b with
  |false=>exact hr gg x H3 D w3 sc3 P4
  |true=>
   rw[if_pos rfl] at P4⊢
   refine⟨λσ3 H4=>∃ x gg,σ3=J.ss x/\W (J.oo x) H4/\(J.sc gg x).p (hid H4 (J.oo x))/\PZ Er (Fd D) (hid H4 (J.oo x)) ((KR mm gg mc body).bind f),λσ3 H4 q=>⟨mm,Nat.lt_succ_self _,q⟩,hb gg x H3 _ w3 sc3 ?_⟩
   rw[Yy] at P4
   cases eb:body gg with
   |bad=>rw[eb] at P4;exact P4
   |err x=>rw[eb] at P4;exact P4
   |ok g'=>
    rw[eb] at P4
    exact λx' H5 w5 m5 sc5=>⟨x',g',rfl,w5,sc5,PZ.tr (fd.tr D) m5 P4⟩
def Ie (as:List α)(f:α->Rs β):Rs (List β):=match as with
 | []=>.ok []
 |a::as=>(f a).bind λb=>(Ie as f).bind λbs=>.ok (b::bs)
def Wq (as:List α)(f:α->Rs β):Rs (List β):=chk (as.length<=sizeLine) (Ie as f)
def E2 (as:List α)(c:α->Rs Bool)(f:α->Rs β):Rs (List β):=match as with
 | []=>.ok []
 |a::as=>(c a).bind λb=>if b=true then(f a).bind λb=>(E2 as c f).bind λbs=>.ok (b::bs) else E2 as c f
def Wi (as:List α)(c:α->Rs Bool)(f:α->Rs β):Rs (List β):=chk (as.length<=sizeLine) (E2 as c f)
theorem PZ.chk {F:β->Hp->Prop}[Decidable c]{m:Rs β}(P:PZ Er F H (chk c m)):c/\PZ Er F H m:=by
 unfold L2.chk at P;split at P
 ·exact⟨by assumption,P⟩
 ·exact P.elim
theorem Wa [z:MonoO o]{Q:VK}(w:W (Cs.flatten::OO) H)(m0:Xx (hid H0 OO) (hid H (Cs.flatten::OO)))(s0:Xx H0 H)(pr:P3 (o K (hid H (Cs.flatten::OO))) xs as Cs)(P:FO K OO OO (oL o) Q as H0):∀p,H p=none->Q (.ref p) (upd H p (.lst xs)):=λp hp=>by
 have hn:=Jv (OO:=Cs.flatten::OO) hp (o:=.lst xs)
 have wn:=w.new hp (o:=.lst xs) rfl
 have pe:(((p,HO.lst xs)::Cs.flatten)::OO).flatten.Perm ([(p,HO.lst xs)]::Cs.flatten::OO).flatten:=by simp
 refine P (.ref p) ((p, .lst xs)::Cs.flatten) _ (s0.trans (XH hp _)) (wn.of pe) ?_ ?_
 ·rw[XU pe];exact m0.trans hn
 ·rw[XU pe]
  exact⟨p,xs,Cs,rfl,pr.imp λ_ _ _ h=>z.mono hn h,rfl⟩
theorem Y5 {o:OE β}[z:MonoO o](T:∀OO,Tgt K OO g r κ)(he:Walk K Er S OO σ wi r m)
  (hb:∀C a v,Ev K Er ((T (C::OO)).sc a v S) (C::OO) (C::OO) ((T (C::OO)).set v (Yt n caps σ)) te o (f a)):Ev K Er S OO OO σ (B1 n caps wi g Dl te) (oL o) (m.bind λas=>Wq as f):=λH Q w s P=>by
 refine he.ok w s ?_
 cases em:m with
 |bad=>rw[em] at P;exact P
 |err x=>rw[em] at P;exact P
 |ok as=>
  rw[em] at P
  obtain⟨hsz,P⟩:=PZ.chk (show PZ Er _ H (chk (as.length<=sizeLine) (Ie as f)) from P)
  intro It H' s' hgo bQ
  -- what is left: df Q3 of df items, then all
  refine⟨λi mm ys H2=>mm=as.length-i/\i<=as.length/\∃bs Cs,Xx H H2/\W (Cs.flatten::OO) H2/\Xx (hid H' OO) (hid H2 (Cs.flatten::OO))/\P3 (o K (hid H2 (Cs.flatten::OO))) ys bs Cs/\bs.length=i/\PZ Er (FO K OO OO (oL o) Q) H ((Ie (as.drop i) f).bind λQ3=>.ok (bs++Q3)),
   ⟨as.length,rfl,Nat.zero_le _,[],[],s',(w.keep s').nil,by show Xx _ (hid H' ([]::OO));rw[ZA];exact Xx.refl _, .nil,rfl,?_⟩,?_⟩
  ·rw[List.drop_zero]
   revert P
   cases Ie as f<;> exact λz=>z
  ·rintro i mm ys H2 ⟨rfl,hi,bs,Cs,s2,w2,m2,pr,aj,P2⟩
   refine⟨by rw[pr.len.1,aj];omega,?_⟩
   by_cases av:i<as.length
   ·right
    have ha:as[i]?=some as[i]:=by simp[av]
    obtain⟨h4,h5⟩:=hgo i _ ha (Cs.flatten::OO) H2 w2 m2
    refine⟨h4,λys' H3=>∃ bs Cs,Xx H H3/\W (Cs.flatten::OO) H3/\Xx (hid H' OO) (hid H3 (Cs.flatten::OO))/\P3 (o K (hid H3 (Cs.flatten::OO))) ys' bs Cs/\bs.length=i+1/\PZ Er (FO K OO OO (oL o) Q) H ((Ie (as.drop (i+1)) f).bind λQ3=>.ok (bs++Q3)),λys' H3 q=>⟨as.length-(i+1),Nat.sub_lt_sub_left av (Nat.lt_succ_self i),rfl,av,q⟩,λy H3 hy=>?_⟩
    obtain⟨s3,r3⟩:=h5 y H3 hy
    have w3:=w2.keep s3
    have m3:=Xh (OO:=Cs.flatten::OO) s3
    have sS:S.p (hid H3 (Cs.flatten::OO)):=S.mono _ _ ((Xh s').trans (m2.trans m3)) s
    refine(T (Cs.flatten::OO)).ok r3 sS λv hv=>?_
    show Dl _ _ _
    refine TB ?_
    rw[List.drop_eq_getElem_cons av] at P2
    have aO:PZ Er (FO K OO OO (oL o) Q) H ((f as[i]).bind λb=>(Ie (as.drop (i+1)) f).bind λQ3=>.ok (bs++b::Q3)):=by
     have:((f as[i]).bind λb=>(Ie (as.drop (i+1)) f).bind λQ3=>Rs.ok (bs++b::Q3))=(Ie (as[i]::as.drop (i+1)) f).bind λQ3=>.ok (bs++Q3):=by
      show _=((f as[i]).bind λb=>(Ie (as.drop (i+1)) f).bind λbs=>Rs.ok (b::bs)).bind _
      rw[Yy];congr 1;funext b;rw[Yy];rfl
     rw[this];exact P2
    refine hb Cs.flatten as[i] v H3 _ w3 hv ?_
    cases eb:f as[i] with
    |bad=>rw[eb] at aO;exact aO
    |err x=>rw[eb] at aO;exact λH4 s4=>aO H4 (s2.trans (s3.trans s4))
    |ok b=>
     rw[eb] at aO
     intro v' C' H4 s4 w4 m4 ho
     have pe:((Cs++[C']).flatten::OO).flatten.Perm (C'::Cs.flatten::OO).flatten:=by
      simp only[Qq,List.flatten_cons]
      rw[List.append_assoc, ←List.append_assoc, ←List.append_assoc]
      exact List.perm_append_comm.append_right _
     refine⟨bs++[b],Cs++[C'],s2.trans (s3.trans s4),w4.of pe,?_,?_,by simp[aj],?_⟩
     ·rw[XU pe];exact m2.trans (m3.trans m4)
     ·rw[XU pe];exact P3.snoc (pr.imp λ_ _ _ h=>z.mono (m3.trans m4) h) ho
     ·have P4:PZ Er (FO K OO OO (oL o) Q) H ((Ie (as.drop (i+1)) f).bind λQ3=> .ok (bs++b::Q3)):=aO
      simpa using P4
   ·left
    have e:i=as.length:=Nat.le_antisymm hi (Nat.not_lt.mp av)
    subst e
    refine⟨bQ (Cs.flatten::OO) H2 w2 m2,?_⟩
    rw[List.drop_length] at P2
    have aO:FO K OO OO (oL o) Q (bs++[]) H:=P2
    rw[List.append_nil] at aO
    exact Wa (H0:=H) w2 ((Xh s').trans m2) s2 pr aO
theorem V1 {o:OE β}[z:MonoO o](T:∀OO,Tgt K OO g r κ)(he:Walk K Er S OO σ wi r m)
  (hc:∀C a v,EvT Er ((T (C::OO)).sc a v S) (C::OO) ((T (C::OO)).set v (Yt n caps σ)) tt (c a))
  (hb:∀C a v,Ev K Er ((T (C::OO)).sc a v S) (C::OO) (C::OO) ((T (C::OO)).set v (Yt n caps σ)) te o (f a)):Ev K Er S OO OO σ (B1 n caps wi g tt te) (oL o) (m.bind λas=>Wi as c f):=λH Q w s P=>by
 refine he.ok w s ?_
 cases em:m with
 |bad=>rw[em] at P;exact P
 |err x=>rw[em] at P;exact P
 |ok as=>
  rw[em] at P
  obtain⟨hsz,P⟩:=PZ.chk (show PZ Er _ H (chk (as.length<=sizeLine) (E2 as c f)) from P)
  intro It H' s' hgo bQ
  refine⟨λi mm ys H2=>mm=as.length-i/\i<=as.length/\∃bs Cs,Xx H H2/\W (Cs.flatten::OO) H2/\Xx (hid H' OO) (hid H2 (Cs.flatten::OO))/\P3 (o K (hid H2 (Cs.flatten::OO))) ys bs Cs/\bs.length<=i/\PZ Er (FO K OO OO (oL o) Q) H ((E2 (as.drop i) c f).bind λQ3=>.ok (bs++Q3)),
   ⟨as.length,rfl,Nat.zero_le _,[],[],s',(w.keep s').nil,by show Xx _ (hid H' ([]::OO));rw[ZA];exact Xx.refl _, .nil,Nat.zero_le _,?_⟩,?_⟩
  ·rw[List.drop_zero]
   revert P
   cases E2 as c f<;> exact λz=>z
  ·rintro i mm ys H2 ⟨rfl,hi,bs,Cs,s2,w2,m2,pr,aj,P2⟩
   refine⟨by rw[pr.len.1];omega,?_⟩
   by_cases av:i<as.length
   ·right
    have ha:as[i]?=some as[i]:=by simp[av]
    obtain⟨h4,h5⟩:=hgo i _ ha (Cs.flatten::OO) H2 w2 m2
    refine⟨h4,λys' H3=>∃ bs Cs,Xx H H3/\W (Cs.flatten::OO) H3/\Xx (hid H' OO) (hid H3 (Cs.flatten::OO))/\P3 (o K (hid H3 (Cs.flatten::OO))) ys' bs Cs/\bs.length<=i+1/\PZ Er (FO K OO OO (oL o) Q) H ((E2 (as.drop (i+1)) c f).bind λQ3=>.ok (bs++Q3)),λys' H3 q=>⟨as.length-(i+1),Nat.sub_lt_sub_left av (Nat.lt_succ_self i),rfl,av,q⟩,λy H3 hy=>?_⟩
    obtain⟨s3,r3⟩:=h5 y H3 hy
    have w3:=w2.keep s3
    have m3:=Xh (OO:=Cs.flatten::OO) s3
    have sS:S.p (hid H3 (Cs.flatten::OO)):=S.mono _ _ ((Xh s').trans (m2.trans m3)) s
    refine(T (Cs.flatten::OO)).ok r3 sS λv hv=>?_
    rw[List.drop_eq_getElem_cons av] at P2
    have aO:PZ Er (FO K OO OO (oL o) Q) H ((c as[i]).bind λb=>(if b=true then(f as[i]).bind λb=>(E2 (as.drop (i+1)) c f).bind λbs=>.ok (b::bs) else E2 (as.drop (i+1)) c f).bind λQ3=>.ok (bs++Q3)):=by
     rw[←Yy];exact P2
    refine hc Cs.flatten as[i] v H3 _ w3 hv ?_
    cases ec:c as[i] with
    |bad=>rw[ec] at aO;exact aO
    |err x=>rw[ec] at aO;exact λH4 s4=>aO H4 (s2.trans (s3.trans s4))
    |ok b=>
     rw[ec] at aO
     intro H4 s4
     have w4:=w3.keep s4
     have m4:=Xh (OO:=Cs.flatten::OO) s4
     cases b with
     |false=>exact⟨bs,Cs,s2.trans (s3.trans s4),w4,m2.trans (m3.trans m4),pr.imp λ_ _ _ h=>z.mono (m3.trans m4) h,Nat.le_succ_of_le aj,aO⟩
     |true=>
      rw[if_pos rfl]
      have P4:PZ Er (FO K OO OO (oL o) Q) H ((f as[i]).bind λb=>(E2 (as.drop (i+1)) c f).bind λQ3=>.ok (bs++b::Q3)):=by
       have:((f as[i]).bind λb=>(E2 (as.drop (i+1)) c f).bind λQ3=>Rs.ok (bs++b::Q3))=((f as[i]).bind λb=>(E2 (as.drop (i+1)) c f).bind λbs=>Rs.ok (b::bs)).bind λQ3=>.ok (bs++Q3):=by
        rw[Yy];congr 1;funext b;rw[Yy];rfl
       rw[this];exact aO
      refine hb Cs.flatten as[i] v H4 _ w4 (((T (Cs.flatten::OO)).sc as[i] v S).mono _ _ m4 hv) ?_
      cases eb:f as[i] with
      |bad=>rw[eb] at P4;exact P4
      |err x=>rw[eb] at P4;exact λH5 s5=>P4 H5 (s2.trans (s3.trans (s4.trans s5)))
      |ok b=>
       rw[eb] at P4
       intro v' C' H5 s5 w5 m5 ho
       have pe:((Cs++[C']).flatten::OO).flatten.Perm (C'::Cs.flatten::OO).flatten:=by
        simp only[Qq,List.flatten_cons]
        rw[List.append_assoc, ←List.append_assoc, ←List.append_assoc]
        exact List.perm_append_comm.append_right _
       refine⟨bs++[b],Cs++[C'],s2.trans (s3.trans (s4.trans s5)),w5.of pe,?_,?_,by simpa using aj,?_⟩
       ·rw[XU pe];exact m2.trans (m3.trans (m4.trans m5))
       ·rw[XU pe];exact P3.snoc (pr.imp λ_ _ _ h=>z.mono (m3.trans (m4.trans m5)) h) ho
       ·have P5:PZ Er (FO K OO OO (oL o) Q) H ((E2 (as.drop (i+1)) c f).bind λQ3=> .ok (bs++b::Q3)):=P4
        simpa using P5
   ·left
    have e:i=as.length:=Nat.le_antisymm hi (Nat.not_lt.mp av)
    subst e
    refine⟨bQ (Cs.flatten::OO) H2 w2 m2,?_⟩
    rw[List.drop_length] at P2
    have aO:FO K OO OO (oL o) Q (bs++[]) H:=P2
    rw[List.append_nil] at aO
    exact Wa (H0:=H) w2 ((Xh s').trans m2) s2 pr aO
def Ui (as:List α)(i:Int)(a:α):Rs (List α):=match ixN as.length i with
 |some j=>.ok (as.set j a)
 |none=>.bad
end
section
variable [fd:FdOk Fd]{u:TS}
theorem MG {D:List XZ}{o:HO}(w:W (D::OO) H)(hk:OO[k]?=some C)(hp:p∈C.map (·.1))(e8:p∈C'.map (·.1))(dQ:(C'.map (·.1)).Nodup)(bC:∀b∈C'.map (·.1),b∈(C++D).map (·.1))(ht:∀c∈C',upd H p o c.1=some c.2)(hm:∀c∈C',SN c.2=true):
  W (OO.set k C') (upd H p o)/\Xx (hid H (D::OO)) (hid (upd H p o) (OO.set k C')):=by
 have av:k<OO.length:=by
  rcases Nat.lt_or_ge k OO.length with h |h
  ·exact h
  ·rw[List.getElem?_eq_none h] at hk;cases hk
 have h1:=XW hk
 have h2:=XW (OO:=OO.set k C') (k:=k) (C:=C') (by simp[av])
 rw[set_set] at h2
 have h3:(OO.set k C').flatten.Perm (C'++(OO.set k []).flatten):=by simpa using h2.symm
 have h4:(D::OO).flatten.Perm ((C++D)++(OO.set k []).flatten):=by
  rw[List.flatten_cons]
  refine((by simpa using h1.symm:OO.flatten.Perm (C++(OO.set k []).flatten)).append_left D).trans ?_
  rw[←List.append_assoc]
  exact List.perm_append_comm.append_right _
 have eP:(((C++D)++(OO.set k []).flatten).map (·.1)).Nodup:=(h4.map _).nodup_iff.mp w.nd
 rw[List.map_append] at eP
 obtain⟨n1,n2,n3⟩:=List.nodup_append.mp eP
 refine⟨⟨λc hc=>?_,?_,λc hc=>?_⟩,λb v q=>?_⟩
 ·rcases List.mem_append.mp (h3.mem_iff.mp hc) with hc |hc
  ·exact ht c hc
  ·have hne:c.1≠p:=λe=>n3 p (bC p e8) c.1 (List.mem_map.mpr ⟨c,hc,rfl⟩) e.symm
   rw[XV hne]
   exact w.tr c (h4.mem_iff.mpr (by simp[hc]))
 ·refine((h3.map _).nodup_iff).mpr ?_
  rw[List.map_append]
  exact List.nodup_append.mpr ⟨dQ,n2,λa ha b hb=>n3 a (bC a ha) b hb⟩
 ·rcases List.mem_append.mp (h3.mem_iff.mp hc) with hc |hc
  ·exact hm c hc
  ·exact w.mu c (h4.mem_iff.mpr (by simp[hc]))
 ·obtain⟨q1,q2⟩:=Yd q
  have hbp:b≠p:=λe=>q2 (by
   rw[e]
   obtain⟨c,hc,rfl⟩:=List.mem_map.mp hp
   exact U2 (h4.mem_iff.mpr (by simp[hc])))
  refine Ze (by rw[XV hbp];exact q1) λz=>q2 ?_
  obtain⟨o',cq⟩:=HI z
  rcases List.mem_append.mp (h3.mem_iff.mp cq) with hc |hc
  ·obtain⟨c,dZ,e⟩:=List.mem_map.mp (bC b (List.mem_map.mpr ⟨_,hc,rfl⟩))
   rw[←e]
   exact U2 (h4.mem_iff.mpr (List.mem_append_left _ dZ))
  ·exact U2 (c:=(b,o')) (h4.mem_iff.mpr (by simp[hc]))
theorem WF {D:List XZ}{Cs':List (List XZ)}{xs':List V}(w:W (D::OO) H)(hk:OO[k]?=some ((p, .lst xs)::Cs.flatten))(bC:∀c∈Cs'.flatten,c∈Cs.flatten++D)(dQ:(Cs'.flatten.map (·.1)).Nodup):
  W (OO.set k ((p, .lst xs')::Cs'.flatten)) (upd H p (.lst xs'))/\Xx (hid H (D::OO)) (hid (upd H p (.lst xs')) (OO.set k ((p, .lst xs')::Cs'.flatten))):=by
 have h1:=XW hk
 have w3:W [((p,HO.lst xs)::(Cs.flatten++D))++(OO.set k []).flatten] H:=w.of (by
  simp only[List.flatten_cons,List.flatten_nil,List.append_nil]
  refine List.Perm.trans ?_ ((by simpa using h1:(((p,HO.lst xs)::Cs.flatten)++(OO.set k []).flatten).Perm OO.flatten).append_left D)
  rw[←List.append_assoc]
  refine List.Perm.append_right _ ?_
  exact(List.perm_append_comm (l₁:=(p,HO.lst xs)::Cs.flatten) (l₂:=D)))
 have nd:=w3.nd
 simp only[fl,List.flatten_cons,List.flatten_nil,List.append_nil,List.map_append,List.cons_append,List.map_cons] at nd
 have hne:∀c∈Cs'.flatten,c.1≠p:=λc hc e=>by
  refine(List.nodup_cons.mp nd).1 ?_
  rw[←e]
  refine List.mem_append_left _ ?_
  rw[←List.map_append]
  exact List.mem_map.mpr ⟨c,bC c hc,rfl⟩
 refine MG w hk List.mem_cons_self List.mem_cons_self ?_ ?_ ?_ ?_
 ·rw[List.map_cons,List.nodup_cons]
  refine⟨λz=>?_,dQ⟩
  obtain⟨c,hc,e⟩:=List.mem_map.mp z
  exact hne c hc e
 ·intro b hb
  rcases List.mem_cons.mp hb with rfl |hb
  ·exact List.mem_cons_self
  ·obtain⟨c,hc,rfl⟩:=List.mem_map.mp hb
   rw[List.cons_append,List.map_cons]
   exact List.mem_cons_of_mem _ (List.mem_map.mpr ⟨c,bC c hc,rfl⟩)
 ·intro c hc
  rcases List.mem_cons.mp hc with rfl |hc
  ·exact X7
  ·rw[XV (hne c hc)]
   exact w3.tr c (by
    rw[List.flatten_cons,List.flatten_nil,List.append_nil]
    exact List.mem_append_left _ (List.mem_cons_of_mem _ (bC c hc)))
 ·intro c hc
  rcases List.mem_cons.mp hc with rfl |hc
  ·rfl
  ·exact w3.mu c (by
    rw[List.flatten_cons,List.flatten_nil,List.append_nil]
    exact List.mem_append_left _ (List.mem_cons_of_mem _ (bC c hc)))
theorem LI {R:List XZ}(q:oL o K h (.ref p) as ((p, .lst xs)::R)):∃Cs,P3 (o K h) xs as Cs/\R=Cs.flatten:=by
 obtain⟨p',xs',Cs,e,q,c⟩:=q
 injection c with c1 c2
 injection c1 with c3 c4
 injection c4 with c5
 subst c5
 exact⟨Cs,q,c2⟩
theorem Ml {a:α}(h:Ui as i a= .ok bs):∃j,ixN as.length i=some j/\bs=as.set j a:=by
 unfold Ui at h;split at h
 ·cases h;exact⟨_,by assumption,rfl⟩
 ·cases h
theorem Mb {a:α}{x:Exc}:Ui as i a≠ .err x:=by unfold Ui;split<;> exact λz=>nomatch z
theorem UW {r m:List XZ}(h:(l++r).Perm m)(n:(m.map (·.1)).Nodup):(l.map (·.1)).Nodup:=by
 have:((l++r).map (·.1)).Nodup:=(h.map _).nodup_iff.mpr n
 rw[List.map_append] at this
 exact(List.nodup_append.mp this).1
theorem ZH {D:List XZ}(hj:j<Cs.length):((Cs.set j D).flatten++Cs[j]).Perm (Cs.flatten++D):=by
 have h1:=XW (OO:=Cs) (k:=j) (C:=Cs[j]) (by simp[hj])
 have h2:=XW (OO:=Cs.set j D) (k:=j) (C:=D) (by simp[hj])
 rw[set_set] at h2
 have h3:(Cs.set j D).flatten.Perm (D++(Cs.set j []).flatten):=by simpa using h2.symm
 have h4:Cs.flatten.Perm (Cs[j]++(Cs.set j []).flatten):=by simpa using h1.symm
 refine(h3.append_right _).trans (List.Perm.trans ?_ (h4.append_right _).symm)
 refine List.perm_append_comm.trans ((List.perm_append_comm.append_left _).trans ?_)
 rw[List.append_assoc]
theorem VE {D:List XZ}(w:W (D::OO) H)(hk:OO[k]?=some ((p, .lst xs)::Cs.flatten)):((Cs.flatten++D).map (·.1)).Nodup:=by
 have h1:=XW hk
 have w3:W [((p,HO.lst xs)::(Cs.flatten++D))++(OO.set k []).flatten] H:=w.of (by
  simp only[List.flatten_cons,List.flatten_nil,List.append_nil]
  refine List.Perm.trans ?_ ((by simpa using h1:(((p,HO.lst xs)::Cs.flatten)++(OO.set k []).flatten).Perm OO.flatten).append_left D)
  rw[←List.append_assoc]
  refine List.Perm.append_right _ ?_
  exact(List.perm_append_comm (l₁:=(p,HO.lst xs)::Cs.flatten) (l₂:=D)))
 have nd:=w3.nd
 simp only[fl,List.flatten_cons,List.flatten_nil,List.append_nil,List.cons_append,List.map_cons] at nd
 have n2:=(List.nodup_cons.mp nd).2
 rw[List.map_append] at n2
 exact(List.nodup_append.mp n2).1
theorem No {ti:TE}[MonoO o]{m:Rs α}{f:List α->Rs β}{v:V}(i k:Nat)(hσ:σ[i]?=some (some v))(bI:OO'[k]?=some C)(h:∀x,S.p x->oL o K x v as C)(he:Ev K Er S OO OO' σ ta o m)
  (hi:∀D,EvB K Er S (D::OO') σ ti Xf mi)
  (hr:∀bs C',Sv Er (S.addO K (oL o) v bs C') (OO'.set k C') σ u Fd (f bs)):Sv Er S OO σ (ZY (Ha ta (Wf (VI i) ti NV)) u) Fd (m.bind λa=>mi.bind λj=>(Ui as j a).bind f):=λH D w s P=>
 he.st w s P λa y D' H' w' s' ho P'=>⟨v,hσ,(hi D').st w' s' P' λj z H2 s2 w2 q2 r2 P2=>by
  obtain⟨p,xs,Cs,e,q,c⟩:=h _ q2
  subst c
  have hH:H2 p=some (.lst xs):=w2.tr (p, .lst xs) (by rw[List.flatten_cons];exact List.mem_append_right _ (List.mem_flatten.mpr ⟨_,List.mem_of_getElem? bI,List.mem_cons_self⟩))
  cases es:Ui as j a with
  |bad=>rw[es] at P2;exact P2.elim
  |err x=>exact absurd es Mb
  |ok bs=>
   rw[es] at P2
   obtain⟨jj,h1,rfl⟩:=Ml es
   have hjl:jj<as.length:=by
    unfold ixN at h1
    split at h1
    ·split at h1
     ·cases h1;omega
     ·cases h1
    ·split at h1
     ·cases h1;omega
     ·cases h1
   have hjC:jj<Cs.length:=by rw[q.len.2];exact hjl
   have hp:=ZH (Cs:=Cs) (j:=jj) (D:=D') hjC
   obtain⟨w3,m3⟩:=WF (xs':=xs.set jj y) (Cs':=Cs.set jj D') w2 bI (λc hc=>hp.mem_iff.mp (List.mem_append_left _ hc)) (UW hp (VE w2 bI))
   refine⟨p,xs,j,jj,e,r2,hH,by rw[q.len.1];exact h1,hr _ _ _ D w3 ⟨S.mono _ _ m3 q2,⟨p,_,_,e,P3.imp (λ_ _ _ z=>MonoO.mono m3 z) (P3.set (MonoO.mono (Xh s2) ho) jj q),rfl⟩⟩ (PZ.tr (fd.tr D) m3 P2)⟩⟩
theorem S0 [MonoO o]{f:List α->Rs β}{v:V}(i k:Nat)(hσ:σ[i]?=some (some v))(hk:OO[k]?=some C)(bI:OO'[k]?=some C)(h:∀x,S.p x->oL o K x v as C)(he:Ev K Er S OO OO' σ ta (oL o) m)
  (hr:∀bs C',Sv Er (S.addO K (oL o) v (as++bs) C') (OO'.set k C') σ u Fd (f (as++bs))):Sv Er S OO σ (ZY (G5 (tBM K "list" BX (VI i) (Xv ta YK))) u) Fd (m.bind λbs=>chk (as.length+bs.length<=sizeLine) (f (as++bs))):=λH D w s P=>by
 obtain⟨p,xs,Cs,e,q,c⟩:=h _ s
 subst c
 have hH:H p=some (.lst xs):=w.tr (p, .lst xs) (List.mem_flatten.mpr ⟨_,List.mem_of_getElem? hk,List.mem_cons_self⟩)
 refine⟨v,hσ,by rw[e];exact .inl ⟨rfl,_,SqL.of hH⟩,he.st w s P λbs y D' H' w' s' ho P'=>?_⟩
 obtain⟨hsz,P'⟩:=PZ.chk P'
 subst e
 obtain⟨cP,q2,c2⟩:=LI (h _ s')
 obtain⟨p',zs,Ds,e3,q3,c3⟩:=ho
 subst c3
 have gQ:H' p=some (.lst xs):=w'.tr (p, .lst xs) (by rw[List.flatten_cons];exact List.mem_append_right _ (List.mem_flatten.mpr ⟨_,List.mem_of_getElem? bI,List.mem_cons_self⟩))
 have fP:H' p'=some (.lst zs):=w'.tr (p', .lst zs) (by rw[List.flatten_cons];exact List.mem_append_left _ List.mem_cons_self)
 have cn:=VE w' bI
 obtain⟨w3,m3⟩:=WF (xs':=xs++zs) (Cs':=cP++Ds) w' bI (λc hc=>by
   rw[List.flatten_append,List.mem_append] at hc
   rcases hc with hc |hc
   ·rw[c2];exact List.mem_append_left _ hc
   ·exact List.mem_append_right _ (List.mem_cons_of_mem _ hc)) (by
   rw[List.flatten_append, ←c2]
   refine List.Nodup.sublist (List.Sublist.map _ ?_) cn
   exact List.Sublist.append (List.Sublist.refl _) (List.sublist_cons_self _ _))
 refine⟨p,p',xs,zs,rfl,by rw[e3],gQ,fP,by rw[q2.len.1,q3.len.1];exact hsz,?_⟩
 exact hr bs _ _ D w3 ⟨S.mono _ _ m3 s',⟨p,_,_,rfl,P3.imp (λ_ _ _ z=>MonoO.mono m3 z) (q2.app q3),rfl⟩⟩ (PZ.tr (fd.tr D) m3 P')
def NF (as:List α)(i:Int):Rs (α×List α):=chk (-(2^63)<=i/\i<2^63) (match seqIndex? i as.length with
 |none=>.bad
 |some k=>match as[k]? with
  |none=>.bad
  |some a=>.ok (a,as.eraseIdx k))
theorem SD {p:α×List α}(h:NF as i= .ok p):(-(2^63)<=i/\i<2^63)/\∃k,seqIndex? i as.length=some k/\as[k]?=some p.1/\p.2=as.eraseIdx k:=by
 obtain⟨h1,h2⟩:=Zy h
 refine⟨h1,?_⟩
 split at h2
 ·cases h2
 ·split at h2
  ·cases h2
  ·cases h2;exact⟨_,by assumption,by assumption,rfl⟩
theorem PH {x:Exc}:NF as i≠ .err x:=by
 unfold NF chk;split
 ·split
  ·exact λz=>nomatch z
  ·split<;> exact λz=>nomatch z
 ·exact λz=>nomatch z
theorem Paired.erase' {F:α->γ->Prop}:∀{l:List α}{m:List γ} (n:Nat),Paired F l m->Paired F (l.eraseIdx n) (m.eraseIdx n)
 |_,_,_, .nil=>.nil
 |_,_,0, .cons _ t=>t
 |_,_,n+1, .cons r t=>.cons r (Paired.erase' n t)
theorem Rj {te ti:TE}[MonoE r]{f:α×List α->Rs β}{v:V}{Q:VK}(i k:Nat)(hσ:σ[i]?=some (some v))(hk:OO[k]?=some C)(h:∀x,S.p x->oL (oF r) K x v as C)(hi:EvB K Er S OO σ ti Xf mi)
  (w:W OO H)(s:S.p (hid H OO))(P:PZ Er (Fd D) (hid H OO) (mi.bind λj=>(NF as j).bind f))
  (hr:∀a bs y C' H',W (OO.set k C') H'->((S.add K r y a).addO K (oL (oF r)) v bs C').p (hid H' (OO.set k C'))->PZ Er (Fd D) (hid H' (OO.set k C')) (f (a,bs))->Q y H'):tBM K "list" Hj (VI i) (Xv ti YK) σ H Q:=by
 obtain⟨p,xs,Cs,e,q,c⟩:=h _ s
 subst c
 have hH:H p=some (.lst xs):=w.tr (p, .lst xs) (List.mem_flatten.mpr ⟨_,List.mem_of_getElem? hk,List.mem_cons_self⟩)
 refine⟨v,hσ,by rw[e];exact .inl ⟨rfl,_,SqL.of hH⟩,hi.st w s P λj z H' s1 w' s' ho P'=>?_⟩
 subst e
 obtain⟨cP,q2,c2⟩:=LI (h _ s')
 obtain⟨pr,gO⟩:=P3.flat q2
 cases es:NF as j with
 |bad=>rw[es] at P';exact P'.elim
 |err x=>exact absurd es PH
 |ok pp=>
  rw[es] at P'
  obtain⟨a,bs⟩:=pp
  obtain⟨h1,kk,h2,h3,h4⟩:=SD es
  obtain⟨y,hy,ry⟩:=Paired.getR pr h3
  have w0:W ([]::OO) H':=w'.nil
  have hk0:OO[k]?=some ((p, .lst xs)::([]:List (List XZ)).flatten):=by rw[hk,c2,gO];rfl
  obtain⟨w3,m3⟩:=WF (D:=[]) (Cs:=[]) (xs':=xs.eraseIdx kk) (Cs':=List.replicate bs.length []) w0 hk0 (λc hc=>by rw[Ym] at hc;cases hc) (by rw[Ym];exact List.nodup_nil)
  rw[ZA] at m3
  refine⟨p,xs,j,kk,y,rfl,by rw[show z= .int j from ho],s1 _ _ hH,h1.1,h1.2,by rw[Paired.len pr];exact h2,hy,?_⟩
  have eF:Paired (r K (hid H' OO)) (xs.eraseIdx kk) bs:=by rw[show bs=as.eraseIdx kk from h4];exact Paired.erase' kk pr
  exact hr a bs y _ _ w3 ⟨⟨S.mono _ _ m3 s',MonoE.mono m3 ry⟩,⟨p,_,_,rfl,(P3.of (Paired.imp2 (λ_ _ z=>MonoE.mono m3 z) eF)).imp λ_ _ _ z=>z,rfl⟩⟩ (PZ.tr (fd.tr D) m3 P')
theorem TF [MonoE r]{f:α×List α->Rs β}(x i k:Nat)(hσ:σ[i]?=some (some v))(hk:OO[k]?=some C)(h:∀x,S.p x->oL (oF r) K x v as C)(hi:EvB K Er S OO σ ti Xf mi)
  (hr:∀a bs y C',Sv Er ((S.add K r y a).addO K (oL (oF r)) v bs C') (OO.set k C') (σ.set x (some y)) u Fd (f (a,bs))):Sv Er S OO σ (ZY (Ha (tBM K "list" Hj (VI i) (Xv ti YK)) (YY x)) u) Fd (mi.bind λj=>(NF as j).bind f):=λH D w s P=>
 Rj (te:=ti) i k hσ hk h hi w s P λa bs y C' H' w' s' P'=>hr a bs y C' H' D w' s' P'
theorem Ou {q:Enc γ}[z:MonoE r][MonoE q]{ma:Rs α}{mb:Rs γ}{f:α->γ->Rs β}(i j:Nat)(ha:EvS K Er S OO σ ta r ma)(hb:EvS K Er S OO σ tb q mb)
  (hr:∀a b v w,Sv Er ((S.add K r v a).add K q w b) OO ((σ.set i (some v)).set j (some w)) u Fd (f a b)):Sv Er S OO σ (ZY (W9 i j (Xv ta (Xv tb YK))) u) Fd (ma.bind λa=>mb.bind λb=>f a b):=λH D w s P=>
 ha.st w s P λa x H1 s1 w1 q1 r1 P1=>hb.st w1 q1 P1 λb y H2 s2 w2 q2 r2 P2=>⟨x,y,rfl,hr a b x y H2 D w2 ⟨⟨q2,z.mono (Xh s2) r1⟩,r2⟩ P2⟩
theorem EJ {q:Enc γ}[MonoE r][MonoE q]{m:Rs (α×γ)}{f:α×γ->Rs β}(i j:Nat)(he:EvS K Er S OO σ te (rP2 r q) m)
  (hr:∀a v w,Sv Er ((S.add K r v a.1).add K q w a.2) OO ((σ.set i (some v)).set j (some w)) u Fd (f a)):Sv Er S OO σ (ZY (Ha te (O4 K 2 (QP (YY i) (QP (YY j) RW)))) u) Fd (m.bind f):=λH D w s P=>
 he.st w s P λa v H1 s1 w1 q1 r9 P1=>by obtain⟨p,x,y,e,h,h1,h2⟩:=r9;exact⟨p,_,e,SqT.of (Xz _ _ h),rfl,x,[y],rfl,y,[],rfl,rfl,hr a x y H1 D w1 ⟨⟨q1,h1⟩,h2⟩ P1⟩
theorem LR {ma:Rs Int}(ha:EvB K Er S OO σ ta Xf ma)(hb:EvB K Er S OO σ tb Xf mb):EvB K Er S OO σ (tCB (λxs H Q=>∃ i j:Int,xs=[.int i, .int j]/\Q (.int (if j > i then j else i)) H) (Xv ta (Xv tb YK))) Xf (ma.bind λa=>mb.bind λb=>.ok (max a b)):=λH Q w s P=>
 ha.run w s FB.tr P λa x H1 s1 w1 q1 r1 P1=>hb.run w1 q1 FB.tr P1 λb y H2 s2 w2 q2 r2 P2=>⟨a,b,by rw[show x= .int a from r1,show y= .int b from r2],P2 _ H2 (Xx.refl _) (by show V.int _=V.int _;congr 1;omega)⟩
theorem Ix {ma:Rs Int}(ha:EvB K Er S OO σ ta Xf ma)(hb:EvB K Er S OO σ tb Xf mb):EvB K Er S OO σ (tCB (λxs H Q=>∃ i j:Int,xs=[.int i, .int j]/\Q (.int (if j<i then j else i)) H) (Xv ta (Xv tb YK))) Xf (ma.bind λa=>mb.bind λb=>.ok (min a b)):=λH Q w s P=>
 ha.run w s FB.tr P λa x H1 s1 w1 q1 r1 P1=>hb.run w1 q1 FB.tr P1 λb y H2 s2 w2 q2 r2 P2=>⟨a,b,by rw[show x= .int a from r1,show y= .int b from r2],P2 _ H2 (Xx.refl _) (by show V.int _=V.int _;congr 1;omega)⟩
theorem Ke:∀{xs:List V}{bs:List Bool}{H:Hp},Paired (XB K H) xs bs->xs=bs.map V.bl
 |_,_,_, .nil=>rfl
 |_,_,_, .cons r t=>by rw[show _=V.bl _ from r,Ke t];rfl
theorem Sx {ma:Rs (List Bool)}(ha:EvB K Er S OO σ ta (rV XB) ma):EvB K Er S OO σ (tCB (Af K) (Xv ta YK)) XB (ma.bind λa=>.ok (a.all id)):=λH Q w s P=>
 ha.run w s FB.tr P λa x H1 s1 w1 q1 r9 P1=>by obtain⟨p,xs,e,q,pr⟩:=r9;exact⟨p,a,by rw[e],by rw[←Ke pr];exact SqL.of q,P1 _ H1 (Xx.refl _) rfl⟩
class TyE {α:Type}(r:Enc α)(n:outParam String):Prop where
 ty:∀{K:W.Frag}{H:Hp}{v:V}{a:α},r K H v a->TyOf K H v (.type n)
instance:TyE Xf "int":=⟨fun {K H v a} h=>by cases(show v= .int a from h);exact .int a⟩
instance:TyE XB "bool":=⟨fun {K H v a} h=>by cases(show v= .bl a from h);exact .bl a⟩
instance:TyE VY "str":=⟨fun {K H v a} h=>by cases(show v= .str a from h);exact .str a⟩
instance {r:Enc α}:TyE (rV r) "list":=⟨λr9=>by obtain⟨p,xs,e,q,_⟩:=r9;exact by subst e;exact .lst q⟩
instance {r:Enc α}:TyE (rPL r) "tuple":=⟨λr9=>by obtain⟨p,xs,e,q,_⟩:=r9;exact by subst e;exact .tup q⟩
instance {r:Enc α}{q:Enc γ}:TyE (rP2 r q) "tuple":=⟨λr9=>by obtain⟨p,x,y,e,q,_⟩:=r9;exact by subst e;exact .tup q⟩
instance {r:Enc α}{q:Enc γ}{t:Enc δ}:TyE (rP3 r q t) "tuple":=⟨λr9=>by obtain⟨p,x,y,z,e,q,_⟩:=r9;exact by subst e;exact .tup q⟩
theorem Fm {n:String}[z:TyE r n]{m:Rs α}(t:String)(b:Bool)(hk:W.kitOne K (.type n) (.type t)=some b)(he:EvB K Er S OO σ te r m):
  EvB K Er S OO σ (tCB (λxs H Q=>∃ x n t b,xs=[x, .ty n]/\TyOf K H x t/\W.kitOne K t (.type n)=some b/\Q (.bl b) H) (Xv te (Xv (tC (.ty t)) YK))) XB (m.bind λ_=>.ok b):=λH Q w s P=>
 he.run w s FB.tr P λa x H1 s1 w1 q1 r1 P1=>⟨x,t, .type n,b,rfl,z.ty r1,hk,P1 _ H1 (Xx.refl _) rfl⟩
theorem PX {ma:Rs Int}(ha:EvB K Er S OO σ ta Xf ma):EvB K Er S OO σ (tCB (λxs H Q=>∃ i:Int,xs=[.int i]/\Q (.int (if i<0 then-i else i)) H) (Xv ta YK)) Xf (ma.bind λa=>.ok (a.natAbs:Int)):=λH Q w s P=>
 ha.run w s FB.tr P λa x H1 s1 w1 q1 r1 P1=>⟨a,by rw[show x= .int a from r1],P1 _ H1 (Xx.refl _) (by show V.int _=V.int _;congr 1;omega)⟩
end
section
variable [fd:FdOk Fd]{u:TS}
theorem TX (n:Nat)(H:Hp):W (List.replicate n []) H:=⟨λc hc=>(by rw[Ym] at hc;cases hc),(by unfold fl;rw[Ym];exact List.nodup_nil),λc hc=>(by rw[Ym] at hc;cases hc)⟩
theorem NJ (n:Nat)(H:Hp):hid H (List.replicate n [])=H:=by funext b;unfold hid fl;rw[Ym];simp
theorem OT {o:OE ρ}[z:MonoO o]{Q:VK}{b:ρ}(q:FF K o Q b H):∀v C OO' H',W (C::OO') H'->Xx H (hid H' (C::OO'))->o K (hid H' (C::OO')) v b C->Q v H':=λv C OO' H' w m ho=>by
 have hs:Xx (hid H' (C::OO')) (hid H' [C]):=ZW (Xx.refl _) λb hb=>by
  rw[XR]
  refine List.mem_append_left _ ?_
  simpa[fl] using hb
 exact q v C H' (w.sub (by simp)) (m.trans hs) (z.mono hs ho)
theorem B3 {o:OE ρ}[MonoO o]{m:Rs ρ}{Q:VK}{b:ρ}(n:Nat)(h:Sv (λ_ _=>False) S (List.replicate n []) σ t (FTd K o) m)(hs:S.p H)(hm:m= .ok b)(q:FF K o Q b H)(hD:D.rt=Q):t D σ H:=by
 refine h H D (TX n H) (by rw[NJ];exact hs) ?_
 subst hm
 rw[NJ]
 intro v C OO' H' w mm ho
 rw[hD]
 exact OT q v C OO' H' w mm ho
def oU:OE Unit:=λ_ _ v _ C=>v= .non/\C=[]
instance:MonoO oU:=⟨λ_ h=>h⟩
instance:FlatO oU:=⟨λ_ h=>h⟩
def rU0:Enc Unit:=λ_ _ v _=>v= .non
instance:FlatE rU0:=⟨λ_ h=>h⟩
instance:FrzC oU rU0:=⟨λh _ _=>h.1⟩
theorem WQ {m:Rs Unit}{Q:VK}{b:Unit}(n:Nat)(h:Sv (λ_ _=>False) S (List.replicate n []) σ t (FNd J) m)(hs:S.p H)(hm:m= .ok b)(q:FF K oU Q b H)(hD:∀σ H,D.nx σ H=Q .non H):t D σ H:=by
 refine h H D (TX n H) (by rw[NJ];exact hs) ?_
 subst hm
 rw[NJ]
 intro x H' w mm ho
 rw[hD]
 have hs:Xx (hid H' (J.oo x)) (hid H' [[]]):=ZW (Xx.refl _) λb hb=>by simp[fl] at hb
 exact q .non [] H' ⟨λc hc=>by simp at hc,by simp[fl],λc hc=>by simp at hc⟩ (mm.trans hs) ⟨rfl,rfl⟩
theorem L9 {m:Rs β}(k:Nat)(hr:Sv Er S (OO.set k []) σ t Fd m):Sv Er S OO σ t Fd m:=λH D w s P=>by
 cases hk:OO[k]? with
 |none=>
  rw[List.set_eq_of_length_le (List.getElem?_eq_none_iff.mp hk)] at hr
  exact hr H D w s P
 |some C=>
  have hp:=XW hk
  have w1:W (C::OO.set k []) H:=w.of hp
  have hs:Xx (hid H OO) (hid H (OO.set k [])):=by
   rw[←XU hp]
   exact ZW (Xx.refl _) λb hb=>by rw[XR];simp[hb]
  exact hr H D w1.tail (S.mono _ _ hs s) (PZ.tr (fd.tr D) hs P)
theorem Mc {m:Rs α}{f:Rs β}(he:EvB K Er S OO σ te r m)(hr:Sv Er S OO σ u Fd f):Sv Er S OO σ (ZY (G5 te) u) Fd (m.bind λ_=>f):=λH D w s P=>
 he.st w s P λa v H' s1 w' s' ho P'=>hr H' D w' s' P'
class InE {α:Type}[DecidableEq α](r:Enc α):Prop where
 fl:∀{K:W.Frag}{H:Hp}{x:V}{a:α},r K H x a->G4 x=true
 eq:∀{K:W.Frag}{H H':Hp}{x y:V}{a b:α},r K H x a->r K H' y b->eqV x y=decide (a=b)
instance:InE Xf:=⟨fun {K H x a} h=>by cases(show x= .int a from h);rfl,fun {K H H' x y a b} h h'=>by
 cases(show x= .int a from h);cases(show y= .int b from h');show(a==b)=_;rw[Nk]⟩
instance:InE VY:=⟨fun {K H x a} h=>by cases(show x= .str a from h);rfl,fun {K H H' x y a b} h h'=>by
 cases(show x= .str a from h);cases(show y= .str b from h');show(a==b)=_
 rw[Bool.eq_iff_iff];simp⟩
theorem VN [DecidableEq α][z:InE r]{x:V}{a:α}(hx:r K H x a):∀{xs:List V}{as:List α},Paired (r K H') xs as->xs.all G4=true/\inV x xs=decide (a∈as)
 |_,_, .nil=>⟨rfl,by simp[inV]⟩
 |_,_, .cons h t=>by
  obtain⟨h1,h2⟩:=VN hx t
  refine⟨by rw[List.all_cons,h1,z.fl h];rfl,?_⟩
  unfold inV at h2⊢
  rw[List.any_cons,h2,z.eq h hx,Bool.eq_iff_iff,Bool.or_eq_true,decide_eq_true_eq,decide_eq_true_eq,decide_eq_true_eq,List.mem_cons]
  exact or_congr ⟨Eq.symm,Eq.symm⟩ Iff.rfl
theorem PD [DecidableEq α][z:InE r]{ma:Rs α}{mb:Rs (List α)}(ha:EvB K Er S OO σ ta r ma)(hb:EvB K Er S OO σ tb (rV r) mb):EvB K Er S OO σ (tOp (rIn K true) ta tb) XB (ma.bind λa=>mb.bind λas=>.ok (!decide (a∈as))):=λH Q w s P=>
 ha.run w s FB.tr P λa x H1 s1 w1 q1 r1 P1=>hb.run w1 q1 FB.tr P1 λb y H2 s2 w2 q2 ⟨p,xs,e,q,pr⟩ P2=>by
  obtain⟨h1,h2⟩:=VN r1 pr
  exact⟨p,xs,e, .inl (SqL.of q),z.fl r1,h1,P2 _ H2 (Xx.refl _) (by rw[h2];rfl)⟩
theorem K9 [DecidableEq α][z:InE r]{ma:Rs α}{mb:Rs (List α)}(ha:EvB K Er S OO σ ta r ma)(hb:EvB K Er S OO σ tb (rPL r) mb):EvB K Er S OO σ (tOp (rIn K false) ta tb) XB (ma.bind λa=>mb.bind λas=>.ok (decide (a∈as))):=λH Q w s P=>
 ha.run w s FB.tr P λa x H1 s1 w1 q1 r1 P1=>hb.run w1 q1 FB.tr P1 λb y H2 s2 w2 q2 ⟨p,xs,e,q,pr⟩ P2=>by
  obtain⟨h1,h2⟩:=VN r1 pr
  exact⟨p,xs,e, .inr (SqT.of q),z.fl r1,h1,P2 _ H2 (Xx.refl _) (by rw[h2];rfl)⟩
theorem Da [DecidableEq α][z:InE r]{ma:Rs α}{mb:Rs (List α)}(ha:EvB K Er S OO σ ta r ma)(hb:EvB K Er S OO σ tb (rPL r) mb):EvB K Er S OO σ (tOp (rIn K true) ta tb) XB (ma.bind λa=>mb.bind λas=>.ok (!decide (a∈as))):=λH Q w s P=>
 ha.run w s FB.tr P λa x H1 s1 w1 q1 r1 P1=>hb.run w1 q1 FB.tr P1 λb y H2 s2 w2 q2 ⟨p,xs,e,q,pr⟩ P2=>by
  obtain⟨h1,h2⟩:=VN r1 pr
  exact⟨p,xs,e, .inr (SqT.of q),z.fl r1,h1,P2 _ H2 (Xx.refl _) (by rw[h2];rfl)⟩
theorem En {tb:TE}{m:Rs (Option α)}(ha:EvB K Er S OO σ ta (Gm r) m):EvB K Er S OO σ (tOp (λx y H Q=>y= .non/\Q (.bl (decide (x= .non))) H) ta (tC .non)) XB (m.bind λa=>.ok a.isNone):=λH Q w s P=>
 ha.run w s FB.tr P λa x H1 s1 w1 q1 r1 P1=>⟨rfl,P1 _ H1 (Xx.refl _) (by
  cases a with
  |none=>rw[show x= .non from r1];rfl
  |some a=>show V.bl _=V.bl _;rw[decide_eq_false r1.1];rfl)⟩
theorem Dx {tb:TE}{m:Rs (Option α)}(ha:EvB K Er S OO σ ta (Gm r) m):EvB K Er S OO σ (tOp (λx y H Q=>y= .non/\Q (.bl (!decide (x= .non))) H) ta (tC .non)) XB (m.bind λa=>.ok a.isSome):=λH Q w s P=>
 ha.run w s FB.tr P λa x H1 s1 w1 q1 r1 P1=>⟨rfl,P1 _ H1 (Xx.refl _) (by
  cases a with
  |none=>rw[show x= .non from r1];rfl
  |some a=>show V.bl _=V.bl _;rw[decide_eq_false r1.1];rfl)⟩
theorem V4 {p q:Int->Int->Bool}{ma mc:Rs Int}(ha:EvB K Er S OO σ ta Xf ma)(hb:EvB K Er S OO σ tb Xf mb)(hc:EvB K Er S OO σ tc Xf mc):
  EvB K Er S OO σ (MC (rI0 λi j=>.bl (p i j)) (rI0 λi j=>.bl (q i j)) ta tb tc) XB (ma.bind λa=>mb.bind λb=>if p a b=true then mc.bind λc=>.ok (q b c) else .ok false):=λH Q w s P=>
 ha.run w s FB.tr P λa x H1 s1 w1 q1 r1 P1=>hb.run w1 q1 FB.tr P1 λb y H2 s2 w2 q2 r2 P2=>⟨a,b,r1,r2,p a b,rfl,by
  cases h:p a b with
  |false=>rw[h] at P2;exact P2 _ H2 (Xx.refl _) rfl
  |true=>
   rw[h,if_pos rfl] at P2
   rw[if_pos rfl]
   exact hc.run w2 q2 FB.tr P2 λc z H3 s3 w3 q3 r3 P3=>⟨b,c,r2,r3,P3 _ H3 (Xx.refl _) rfl⟩⟩
theorem MF [DecidableEq α]{d:Nat}(E:EqOk r d)(h:∀{K:W.Frag}{H:Hp}{v:V}{a:α},r' K H v a->r K H v a)(m:MonoE r'):EqOk r' d where
 uniq:=λI h1 h2=>E.uniq I (h h1) (h h2)
 eq:=λI rx ry h1 h2 hu=>E.eq I rx ry (h h1) (h h2) hu
 rc:=λI rx ry h1 h2 hu=>E.rc I rx ry (h h1) (h h2) hu
 ne:=λI rx ry h1 h2 hu=>E.ne I rx ry (h h1) (h h2) hu
 keep:=λs q=>m.mono s q
theorem Ib [DecidableEq α]{d:Nat}[m:MonoE r](E:EqOk r d):EqOk (rV r) (d+1):=MF (Px E) (λr9=>by obtain⟨a,xs,e,q,p⟩:=r9;exact⟨a,xs,e,SqL.of q,p⟩) inferInstance
theorem Cv [DecidableEq α][DecidableEq β]{q:Enc β}{d:Nat}[m:MonoE r][n:MonoE q](E:EqOk r d)(F:EqOk q d):EqOk (rP2 r q) (d+1):=MF (PY E F) (λr9=>by obtain⟨a,x,y,e,q,p⟩:=r9;exact⟨a,x,y,e,SqT.of q,p⟩) inferInstance
end
section
variable [fd:FdOk Fd]{u:TS}
theorem Zo {q:OE β}[z:MonoO o][y:MonoO q]{ma:Rs α}{mb:Rs β}(ha:Ev K Er S OO OO1 σ ta o ma)(hb:∀C,Ev K Er S (C::OO1) (C::aU) σ tb q mb):Ev K Er S OO aU σ (SO (Xv ta (Xv tb YK))) (oT2 o q) (ma.bind λa=>mb.bind λb=>.ok (a,b)):=λH Q w s P=>by
 refine ha H _ w s ?_
 cases em:ma with
 |bad=>rw[em] at P;exact P
 |err x=>rw[em] at P;exact P
 |ok a=>
  rw[em] at P
  intro v C H1 s1 w1 m1 ho
  refine hb C H1 _ w1 (S.mono _ _ m1 s) ?_
  have P1:PZ Er (FO K OO aU (oT2 o q) Q) H (mb.bind λb=>.ok (a,b)):=P
  cases en:mb with
  |bad=>rw[en] at P1;exact P1
  |err x=>rw[en] at P1;exact λH2 s2=>P1 H2 (s1.trans s2)
  |ok b=>
   rw[en] at P1
   have P1:FO K OO aU (oT2 o q) Q (a,b) H:=P1
   intro v2 C2 H2 s2 w2 m2 di
   refine⟨by show 2<=sizeLine;decide,λp hp=>?_⟩
   have pe:((C++C2)::aU).flatten.Perm (C2::C::aU).flatten:=by
    simp only[List.flatten_cons]
    rw[←List.append_assoc]
    exact List.perm_append_comm.append_right _
   have s3:Xx H2 (upd H2 p (.tup [v,v2])):=XH hp _
   have w3:=(w2.keep s3).of pe
   have m3:Xx (hid H2 (C2::C::aU)) (hid (upd H2 p (.tup [v,v2])) ((C++C2)::aU)):=by rw[XU pe];exact Xh s3
   refine P1 (.ref p) (C++C2) _ (s1.trans (s2.trans s3)) w3 (m1.trans (m2.trans m3)) ⟨p,v,v2,C,C2,rfl,?_,z.mono (m2.trans m3) ho,y.mono m3 di,rfl⟩
   rw[XU pe]
   exact Ud w2 hp
theorem Tk (hc:EvT Er S OO σ c mc)(h2:Sv Er S OO σ u Fd m2):Sv Er S OO σ (ZY (PM c t1 F3) u) Fd (mc.bind λb=>if b=true then .bad else m2):=λH D w s P=>
 hc.st w s P λb H' w' s' P'=>by
  cases b with
  |true=>rw[if_pos rfl] at P';exact P'.elim
  |false=>exact h2 H' D w' s' P'
theorem CJ:∀{l:List XZ}{a b:XZ},(l.map (·.1)).Nodup->a∈l->b∈l->a.1=b.1->a=b
 | [],_,_,_,h,_,_=>by cases h
 |c::l,a,b,n,ha,hb,e=>by
  rw[List.map_cons,List.nodup_cons] at n
  cases ha with
  |head=>cases hb with
   |head=>rfl
   |tail _ hb=>exact absurd (List.mem_map.mpr ⟨b,hb,e.symm⟩) n.1
  |tail _ ha=>cases hb with
   |head=>exact absurd (List.mem_map.mpr ⟨a,ha,e⟩) n.1
   |tail _ hb=>exact CJ n.2 ha hb e
theorem DB (h:Cs[k]?=some C):∀c∈C,c∈Cs.flatten:=λc hc=>List.mem_flatten.mpr ⟨C,List.mem_of_getElem? h,hc⟩
theorem Ly {a:α}(h:atR as i= .ok a):∃k,ixN as.length i=some k/\as[k]?=some a:=by
 have:=Cl h
 unfold atI at this
 cases e:ixN as.length i with
 |none=>rw[e] at this;cases this
 |some k=>rw[e] at this;exact⟨k,rfl,this⟩
theorem Ll [z:MonoE r]{v:V}{as:List (List α)}(w:W OO H)(hk:OO[k]?=some ((p, .lst xs)::Cs.flatten))(hP:P3 (oL (oF r) K (hid H OO)) xs as Cs)(ca:as[kk]?=some row)
  (hx:xs[kk]?=some (.ref q))(hq:H q=some (.lst ys))(eO:Cs[kk]?=some [(q, .lst ys)])(pr:Paired (r K (hid H OO)) ys' row'):
  ∃C',W (OO.set k C') (upd H q (.lst ys'))/\Xx (hid H OO) (hid (upd H q (.lst ys')) (OO.set k C'))/\oL (oL (oF r)) K (hid (upd H q (.lst ys')) (OO.set k C')) (.ref p) (as.set kk row') C':=by
 have gU:kk<Cs.length:=by
  rcases Nat.lt_or_ge kk Cs.length with h |h
  ·exact h
  ·rw[List.getElem?_eq_none h] at eO;cases eO
 have bC:∀c∈(p,HO.lst xs)::Cs.flatten,c∈OO.flatten:=λc hc=>List.mem_flatten.mpr ⟨_,List.mem_of_getElem? hk,hc⟩
 have w0:W ([]::OO) H:=w.nil
 have cn0:=VE w0 hk
 rw[List.append_nil] at cn0
 have e0:Cs[kk]=[(q, .lst ys)]:=by
  rw[List.getElem?_eq_getElem gU] at eO;exact Option.some.inj eO
 have hp:=ZH (Cs:=Cs) (j:=kk) (D:=[(q,HO.lst ys')]) gU
 rw[e0] at hp
 have eG:((Cs.set kk [(q,HO.lst ys')]).flatten.map (·.1)).Perm (Cs.flatten.map (·.1)):=by
  have:=hp.map (·.1)
  simp only[List.map_append,List.map_cons,List.map_nil] at this
  exact(List.perm_append_right_iff _).mp this
 have gW:p∉Cs.flatten.map (·.1):=by
  have h1:=XW hk
  have:=(w.of (OO':=((p,HO.lst xs)::Cs.flatten)::OO.set k []) h1).nd
  rw[XR,List.map_cons,List.cons_append,List.nodup_cons] at this
  exact λz=>this.1 (List.mem_append_left _ z)
 have hqC:q∈Cs.flatten.map (·.1):=List.mem_map.mpr ⟨(q, .lst ys),DB eO _ (by simp),rfl⟩
 have hpq:p≠q:=λe=>gW (e▸hqC)
 have eI:∀c∈(p,HO.lst xs)::(Cs.set kk [(q,HO.lst ys')]).flatten,upd H q (.lst ys') c.1=some c.2/\SN c.2=true:=λc hc=>by
  rcases List.mem_cons.mp hc with rfl |hc
  ·rw[XV hpq];exact⟨w.tr _ (bC _ List.mem_cons_self),rfl⟩
  ·obtain⟨D,hD,hcD⟩:=List.mem_flatten.mp hc
   rcases List.mem_or_eq_of_mem_set hD with hD |hD
   ·by_cases hcq:c.1=q
    ·-- a cell at q in another place:then it is this one
     have dZ:c∈(Cs.set kk [(q,HO.lst ys')]).flatten:=hc
     have n1:((Cs.set kk [(q,HO.lst ys')]).flatten.map (·.1)).Nodup:=eG.nodup_iff.mpr cn0
     have hm:(q,HO.lst ys')∈(Cs.set kk [(q,HO.lst ys')]).flatten:=List.mem_flatten.mpr ⟨[(q, .lst ys')],List.mem_set (by simpa using gU) _,by simp⟩
     have e1:c=(q,HO.lst ys'):=by
      have:=CJ n1 dZ hm hcq
      exact this
     rw[e1];exact⟨X7,rfl⟩
    ·rw[XV hcq]
     have:c∈OO.flatten:=bC c (List.mem_cons_of_mem _ (List.mem_flatten.mpr ⟨D,hD,hcD⟩))
     exact⟨w.tr c this,w.mu c this⟩
   ·rw[hD] at hcD
    have e1:c=(q,HO.lst ys'):=by simpa using hcD
    rw[e1];exact⟨X7,rfl⟩
 have fu:q∈(Cs.set kk [(q,HO.lst ys')]).flatten.map (·.1):=eG.mem_iff.mpr hqC
 obtain⟨w2,m2⟩:=MG (C':=(p, .lst xs)::(Cs.set kk [(q,HO.lst ys')]).flatten) (p:=q) (o:=.lst ys') w0 hk (List.mem_cons_of_mem _ hqC) (List.mem_cons_of_mem _ fu) (by
   rw[List.map_cons,List.nodup_cons]
   exact⟨λz=>gW (eG.mem_iff.mp z),eG.nodup_iff.mpr cn0⟩) (λb hb=>by
   rw[List.append_nil]
   rcases List.mem_cons.mp hb with rfl |hb
   ·exact List.mem_cons_self
   ·exact List.mem_cons_of_mem _ (eG.mem_iff.mp hb)) (λc hc=>(eI c hc).1) λc hc=>(eI c hc).2
 rw[ZA] at m2
 have e3:xs.set kk (.ref q)=xs:=by
  apply List.ext_getElem?
  intro n
  by_cases hn:n=kk
  ·subst hn
   rw[hx,List.getElem?_set_self (by
    rcases Nat.lt_or_ge n xs.length with h |h
    ·exact h
    ·rw[List.getElem?_eq_none h] at hx;cases hx)]
  ·rw[List.getElem?_set_ne (λe=>hn e.symm)]
 refine⟨_,w2,m2,⟨p,xs,Cs.set kk [(q,HO.lst ys')],rfl,?_,rfl⟩⟩
 have:=P3.set (F:=oL (oF r) K (hid (upd H q (.lst ys')) (OO.set k ((p, .lst xs)::(Cs.set kk [(q,HO.lst ys')]).flatten)))) (a:=V.ref q) (b:=row') (c:=[(q,HO.lst ys')])
  ⟨q,ys',List.replicate row'.length [],rfl,(P3.of (Paired.imp2 (λ_ _ h=>z.mono m2 h) pr)).imp λ_ _ _ h=>h,by rw[Ym]⟩ kk (P3.imp (λ_ _ _ h=>MonoO.mono m2 h) hP)
 rw[e3] at this
 exact this
theorem Mk {h:Hp}{as:List (List α)}{kk:Nat}{row:List α}(q:P3 (oL (oF r) K h) xs as Cs)(ca:as[kk]?=some row):∃q0 ys,xs[kk]?=some (.ref q0)/\Cs[kk]?=some [(q0, .lst ys)]/\Paired (r K h) ys row:=by
 obtain⟨x,c,h1,h2,p,ys,Ds,e,h3,h4⟩:=q.get ca
 obtain⟨h5,h6⟩:=P3.flat h3
 rw[h6] at h4
 exact⟨p,ys,by rw[h1,e],by rw[h2,h4],h5⟩
theorem Fw {F:V->α->Prop}{y:V}{a:α}(r:F y a):∀{l:List V}{m:List α} (i:Nat),Paired F l m->Paired F (l.set i y) (m.set i a)
 |_,_,_, .nil=>.nil
 |_,_,0, .cons _ t=>.cons r t
 |_,_,i+1, .cons q t=>.cons q (Fw r i t)
theorem Uc {ti tj:TE}[z:MonoE r]{m:Rs α}{mj:Rs Int}{f:List (List α)->Rs β}{v:V}{as:List (List α)}(i k:Nat)(hσ:σ[i]?=some (some v))(hk:OO[k]?=some C)(h:∀x,S.p x->oL (oL (oF r)) K x v as C)(he:EvS K Er S OO σ ta r m)
  (hi:EvB K Er S OO σ ti Xf mi)(hj:EvB K Er S OO σ tj Xf mj)
  (hr:∀bs C',Sv Er (S.addO K (oL (oL (oF r))) v bs C') (OO.set k C') σ u Fd (f bs)):
  Sv Er S OO σ (ZY (Ha ta (Wf (tOp (Ih K) (VI i) ti) tj NV)) u) Fd (m.bind λa=>mi.bind λx=>(atR as x).bind λrow=>mj.bind λy=>(Ui row y a).bind λrow'=>(Ui as x row').bind f):=λH D w s P=>
 he.st w s P λa va H1 s1 w1 q1 r1 P1=>⟨v,hσ,hi.st w1 q1 P1 λx vx H2 s2 w2 q2 r2 P2=>by
  cases ea:atR as x with
  |bad=>rw[ea] at P2;exact P2.elim
  |err ex=>exact absurd ea KM
  |ok row=>
   rw[ea] at P2
   obtain⟨kk,eY,ca⟩:=Ly ea
   obtain⟨p,xs,Cs,e,q,c⟩:=h _ q2
   subst c e
   obtain⟨q0,ys,g1,g2,g3⟩:=Mk q ca
   have bC:∀c∈(p,HO.lst xs)::Cs.flatten,c∈OO.flatten:=λc hc=>List.mem_flatten.mpr ⟨_,List.mem_of_getElem? hk,hc⟩
   have hH:H2 p=some (.lst xs):=w2.tr (p, .lst xs) (bC _ List.mem_cons_self)
   have gi:H2 q0=some (.lst ys):=w2.tr (q0, .lst ys) (bC _ (List.mem_cons_of_mem _ (DB g2 _ (by simp))))
   refine⟨p,xs,x, .ref q0,rfl,r2,SqL.of hH,by unfold atI;rw[q.len.1,eY];exact g1,hj.st w2 q2 (f:=λy=>(Ui row y a).bind λrow'=>(Ui as x row').bind f) P2 λy vy H3 s3 w3 q3 r3 aO=>?_⟩
   cases eb:Ui row y a with
   |bad=>rw[eb] at aO;exact aO.elim
   |err ex=>exact absurd eb Mb
   |ok row'=>
    rw[eb] at aO
    obtain⟨jj,hjj,rfl⟩:=Ml eb
    have P4:PZ Er (Fd D) (hid H3 OO) (f (as.set kk (row.set jj a))):=by
     have e5:Ui as x (row.set jj a)= .ok (as.set kk (row.set jj a)):=by unfold Ui;rw[eY]
     have:PZ Er (Fd D) (hid H3 OO) ((Ui as x (row.set jj a)).bind f):=aO
     rw[e5] at this
     exact this
    have m3:=Xh (OO:=OO) s3
    obtain⟨C',w4,m4,o4⟩:=Ll (ys':=ys.set jj va) (row':=row.set jj a) (v:=.ref p) w3 hk (P3.imp (λ_ _ _ h=>MonoO.mono m3 h) q) ca g1 (s3 _ _ gi) g2 (Fw (z.mono ((Xh s2).trans m3) r1) jj (Paired.imp2 (λ_ _ h=>z.mono m3 h) g3))
    exact⟨q0,ys,y,jj,rfl,r3,s3 _ _ gi,by rw[Paired.len g3];exact hjj,hr _ C' _ D w4 ⟨S.mono _ _ m4 q3,o4⟩ (PZ.tr (fd.tr D) m4 P4)⟩⟩
theorem Od {ti:TE}[z:MonoE r]{m:Rs α}{f:List (List α)->Rs β}{v:V}{as:List (List α)}(i k:Nat)(hσ:σ[i]?=some (some v))(hk:OO[k]?=some C)(h:∀x,S.p x->oL (oL (oF r)) K x v as C)(he:EvS K Er S OO σ ta r m)
  (hi:EvB K Er S OO σ ti Xf mi)
  (hr:∀bs C',Sv Er (S.addO K (oL (oL (oF r))) v bs C') (OO.set k C') σ u Fd (f bs)):
  Sv Er S OO σ (ZY (G5 (tBM K "list" FK (tOp (Ih K) (VI i) ti) (Xv ta YK))) u) Fd (mi.bind λx=>(atR as x).bind λrow=>m.bind λa=>chk (row.length<sizeLine) ((Ui as x (row++[a])).bind f)):=λH D w s P=>
 ⟨v,hσ,hi.st w s P λx vx H2 s2 w2 q2 r2 P2=>by
  cases ea:atR as x with
  |bad=>rw[ea] at P2;exact P2.elim
  |err ex=>exact absurd ea KM
  |ok row=>
   rw[ea] at P2
   obtain⟨kk,eY,ca⟩:=Ly ea
   obtain⟨p,xs,Cs,e,q,c⟩:=h _ q2
   subst c e
   obtain⟨q0,ys,g1,g2,g3⟩:=Mk q ca
   have bC:∀c∈(p,HO.lst xs)::Cs.flatten,c∈OO.flatten:=λc hc=>List.mem_flatten.mpr ⟨_,List.mem_of_getElem? hk,hc⟩
   have hH:H2 p=some (.lst xs):=w2.tr (p, .lst xs) (bC _ List.mem_cons_self)
   have gi:H2 q0=some (.lst ys):=w2.tr (q0, .lst ys) (bC _ (List.mem_cons_of_mem _ (DB g2 _ (by simp))))
   refine⟨p,xs,x, .ref q0,rfl,r2,SqL.of hH,by unfold atI;rw[q.len.1,eY];exact g1, .inl ⟨rfl,_,SqL.of gi⟩,he.st w2 q2 (f:=λa=>chk (row.length<sizeLine) ((Ui as x (row++[a])).bind f)) P2 λa va H3 s3 w3 q3 r3 aO=>?_⟩
   obtain⟨hsz,aO⟩:=PZ.chk aO
   have P4:PZ Er (Fd D) (hid H3 OO) (f (as.set kk (row++[a]))):=by
    have e5:Ui as x (row++[a])= .ok (as.set kk (row++[a])):=by unfold Ui;rw[eY]
    rw[e5] at aO
    exact aO
   have m3:=Xh (OO:=OO) s3
   obtain⟨C',w4,m4,o4⟩:=Ll (ys':=ys++[va]) (row':=row++[a]) (v:=.ref p) w3 hk (P3.imp (λ_ _ _ h=>MonoO.mono m3 h) q) ca g1 (s3 _ _ gi) g2 (Paired.app (Paired.imp2 (λ_ _ h=>z.mono m3 h) g3) (.cons r3 .nil))
   exact⟨q0,ys,va,rfl,rfl,s3 _ _ gi,by rw[Paired.len g3];exact hsz,hr _ C' _ D w4 ⟨S.mono _ _ m4 q3,o4⟩ (PZ.tr (fd.tr D) m4 P4)⟩⟩
theorem WE {D:List XZ}(w:W OO H)(hk:OO[k]?=some C)(s:Xx H H')(w':W (D::OO.set k []) H')(m:Xx (hid H (OO.set k [])) (hid H' (D::OO.set k []))):
  W (D::OO) H'/\Xx (hid H OO) (hid H' (D::OO))/\Eh (hid H' (D::OO.set k [])) (hid H' (D::OO)):=by
 have hp:=XW hk
 have wk:W (C::OO.set k []) H:=w.of hp
 have hC:∀c∈C,hid H (OO.set k []) c.1=some c.2:=λc hc=>Ze (wk.cell c hc) (by
  have:=wk.nd
  rw[XR] at this
  exact λhb=>(List.nodup_append.mp this).2.2 c.1 (List.mem_map.mpr ⟨c,hc,rfl⟩) c.1 hb rfl)
 have hC':∀c∈C,H' c.1=some c.2/\c.1∉fl (D::OO.set k []):=λc hc=>Yd (m _ _ (hC c hc))
 have w2:W (C::D::OO.set k []) H':=by
  refine⟨λc hc=>?_,?_,λc hc=>?_⟩
  ·rw[List.flatten_cons,List.mem_append] at hc
   exact hc.elim (λhc=>(hC' c hc).1) λhc=>w'.tr c hc
  ·rw[XR]
   refine List.nodup_append.mpr ⟨?_,w'.nd,λa ha b hb e=>?_⟩
   ·have:=wk.nd
    rw[XR] at this
    exact(List.nodup_append.mp this).1
   ·obtain⟨c,hc,rfl⟩:=List.mem_map.mp ha
    subst e
    exact(hC' c hc).2 hb
  ·rw[List.flatten_cons,List.mem_append] at hc
   exact hc.elim (λhc=>wk.mu c (by simp[hc])) λhc=>w'.mu c hc
 have pe:(D::OO).flatten.Perm (C::D::OO.set k []).flatten:=by
  simp only[List.flatten_cons]
  refine List.Perm.trans (List.Perm.append_left D (by simpa using hp.symm:OO.flatten.Perm (C++(OO.set k []).flatten))) ?_
  rw[←List.append_assoc, ←List.append_assoc]
  exact List.perm_append_comm.append_right _
 have w3:=w2.of pe
 refine⟨w3,λb u q=>?_,λb u q i=>w3.i b u (Yd q).1 i⟩
 obtain⟨q1,q2⟩:=Yd q
 have q3:hid H (OO.set k []) b=some u:=Ze q1 λz=>q2 ((Uo hp b).mp (by rw[XR];simp[z]))
 obtain⟨q4,q5⟩:=Yd (m _ _ q3)
 refine Ze q4 λz=>?_
 have z2:=(Uo pe b).mp z
 rw[XR,List.mem_append] at z2
 rcases z2 with z2 |z2
 ·exact q2 ((Uo hp b).mp (by rw[XR];exact List.mem_append_left _ z2))
 ·exact q5 z2
theorem WV {r1:Enc γ}[z:FrzC o1 r1][MonoE r1]{a:γ}(w:W OO H)(hk:OO[k]?=some C)(s:S.p (hid H OO))(h:∀x,S.p x->o1 K x v a C):
  W (OO.set k []) H/\(S.add K r1 v a).p (hid H (OO.set k [])):=by
 have hp:=XW hk
 have wk:W (C::OO.set k []) H:=w.of hp
 have hs:Xx (hid H OO) (hid H (OO.set k [])):=by
  rw[←XU hp]
  exact ZW (Xx.refl _) λb hb=>by rw[XR];simp[hb]
 refine⟨wk.tail,S.mono _ _ hs s,z.frz (h _ s) hs λc hc=>Ze (wk.cell c hc) ?_⟩
 have:=wk.nd
 rw[XR] at this
 exact λhb=>(List.nodup_append.mp this).2.2 c.1 (List.mem_map.mpr ⟨c,hc,rfl⟩) c.1 hb rfl
theorem Mf [y:FlatO o]{r1:Enc γ}[FrzC o1 r1][MonoE r1]{m:Rs α}{a:γ}(k:Nat)(hk:OO[k]?=some C)(h:∀x,S.p x->o1 K x v a C)(he:Ev K Er (S.add K r1 v a) (OO.set k []) (OO.set k []) σ te o m):Ev K Er S OO OO σ te o m:=λH Q w s P=>by
 obtain⟨w1,s1⟩:=WV (r1:=r1) w hk s h
 refine he H Q w1 s1 (P.imp λb _ hb v' D H' s' w' m' ho=>?_)
 obtain⟨w3,m3,i3⟩:=WE w hk s' w' m'
 exact hb v' D H' s' w3 m3 (y.flat i3 ho)
theorem JZ (K:W.Frag)(T:String):W.kitOne K (.type T) (.type T)=some true:=by
 unfold W.kitOne
 rw[if_pos (beq_self_eq_true _)]
theorem U1 (K:W.Frag):W.kitOne K (.type "int") (.type "bool")=some false:=by
 first
  |rfl
  |decide+kernel
  | (unfold W.kitOne PySem.W.kitCls;rfl)
end
section
variable [fd:FdOk Fd]{u:TS}
def Gz:Option α->Rs α
 |some a=>.ok a
 |none=>.bad
theorem Kh {m:Rs (Option α)}(he:EvB K Er S OO σ te (Gm r) m):EvB K Er S OO σ te r (m.bind Gz):=λH Q w s P=>by
 refine he H Q w s ?_
 cases m with
 |bad=>exact P
 |err x=>exact P
 |ok a=>
  cases a with
  |none=>exact P.elim
  |some a=>exact λv H' s' hr=>P v H' s' hr.2
theorem Wv {q:Enc γ}{a:α×γ}(q:oF (rP2 r q) K h v a C):v≠ .non:=by
 obtain⟨_,p,x,y,e,_⟩:=q
 rw[e];exact λz=>nomatch z
end
section
--
def rP4 (r1:Enc α1)(r2:Enc α2)(r3:Enc α3)(r4:Enc α4):Enc (α1×α2×α3×α4):=λK H v p=>∃ a x1 x2 x3 x4,v= .ref a/\H a=some (.tup [x1,x2,x3,x4])/\r1 K H x1 p.1/\r2 K H x2 p.2.1/\r3 K H x3 p.2.2.1/\r4 K H x4 p.2.2.2
instance {r1:Enc α1}{r2:Enc α2}{r3:Enc α3}{r4:Enc α4}[m1:MonoE r1][m2:MonoE r2][m3:MonoE r3][m4:MonoE r4]:MonoE (rP4 r1 r2 r3 r4):=⟨λs r9=>by obtain⟨a,x1,x2,x3,x4,e,h,p1,p2,p3,p4⟩:=r9;exact⟨a,x1,x2,x3,x4,e,s _ _ h,m1.mono s p1,m2.mono s p2,m3.mono s p3,m4.mono s p4⟩⟩
instance {r1:Enc α1}{r2:Enc α2}{r3:Enc α3}{r4:Enc α4}[m1:FlatE r1][m2:FlatE r2][m3:FlatE r3][m4:FlatE r4]:FlatE (rP4 r1 r2 r3 r4):=⟨λs r9=>by obtain⟨a,x1,x2,x3,x4,e,h,p1,p2,p3,p4⟩:=r9;exact⟨a,x1,x2,x3,x4,e,s _ _ h rfl,m1.flat s p1,m2.flat s p2,m3.flat s p3,m4.flat s p4⟩⟩
instance {r1:Enc α1}{r2:Enc α2}{r3:Enc α3}{r4:Enc α4}:TyE (rP4 r1 r2 r3 r4) "tuple":=⟨λr9=>by obtain⟨p,x1,x2,x3,x4,e,q,_⟩:=r9;exact by subst e;exact .tup q⟩
theorem Vb {m:Rs (α1×α2×α3×α4)}(ha:EvB K Er S OO σ ta (rP4 r1 r2 r3 r4) m):EvB K Er S OO σ (tOp (Ex K) ta (tC (.int 2))) r3 (m.bind λp=>.ok p.2.2.1):=λH Q w s P=>
 ha.run w s FB.tr P λa x H1 s1 w1 q1 r9 P1=>by obtain⟨p,x1,x2,x3,x4,e,q,h1,h2,h3,h4⟩:=r9;exact⟨p,_,2,x3,e,rfl,SqT.of q,rfl,P1 _ H1 (Xx.refl _) h3⟩
theorem DC {m:Rs (α1×α2×α3×α4)}(ha:EvB K Er S OO σ ta (rP4 r1 r2 r3 r4) m):EvB K Er S OO σ (tOp (Ex K) ta (tC (.int 3))) r4 (m.bind λp=>.ok p.2.2.2):=λH Q w s P=>
 ha.run w s FB.tr P λa x H1 s1 w1 q1 r9 P1=>by obtain⟨p,x1,x2,x3,x4,e,q,h1,h2,h3,h4⟩:=r9;exact⟨p,_,3,x4,e,rfl,SqT.of q,rfl,P1 _ H1 (Xx.refl _) h4⟩
theorem NK [z1:MonoE r1][z2:MonoE r2][z3:MonoE r3][z4:MonoE r4](h1:EvS K Er S OO σ t1 r1 m1)(h2:EvS K Er S OO σ t2 r2 m2)(h3:EvS K Er S OO σ t3 r3 m3)(h4:EvS K Er S OO σ t4 r4 m4):EvS K Er S OO σ (SO (Xv t1 (Xv t2 (Xv t3 (Xv t4 YK))))) (rP4 r1 r2 r3 r4) (m1.bind λa1=>m2.bind λa2=>m3.bind λa3=>m4.bind λa4=>.ok (a1,a2,a3,a4)):=λH Q w s P=>
 h1.run w s FS.tr P λa1 y1 H1 s1 w1 u1 q1 P1=>h2.run w1 u1 FS.tr P1 λa2 y2 H2 s2 w2 u2 q2 P2=>h3.run w2 u2 FS.tr P2 λa3 y3 H3 s3 w3 u3 q3 P3=>h4.run w3 u3 FS.tr P3 λa4 y4 H4 s4 w4 u4 q4 P4=>⟨by show 4<=sizeLine;decide,λp hp=>P4 _ _ (XH hp _) ⟨p,y1,y2,y3,y4,rfl,Ud w4 hp,z1.mono ((Xh s2).trans ((Xh s3).trans ((Xh s4).trans (Xh (XH hp _))))) q1,z2.mono ((Xh s3).trans ((Xh s4).trans (Xh (XH hp _)))) q2,z3.mono ((Xh s4).trans (Xh (XH hp _))) q3,z4.mono (Xh (XH hp _)) q4⟩⟩
@[reducible] def tg4 [MonoE r1][MonoE r2][MonoE r3][MonoE r4](i1 i2 i3 i4:Nat):Tgt K OO (O4 K 4 (QP (YY i1) (QP (YY i2) (QP (YY i3) (QP (YY i4) RW))))) (rP4 r1 r2 r3 r4) (V×V×V×V) where
 set:=λv σ=>((((σ.set i1 (some v.1)).set i2 (some v.2.1)).set i3 (some v.2.2.1)).set i4 (some v.2.2.2))
 sc:=λa v S=>((((S.add K r1 v.1 a.1).add K r2 v.2.1 a.2.1).add K r3 v.2.2.1 a.2.2.1).add K r4 v.2.2.2 a.2.2.2)
 ok:=fun {H v a σ S Q} r9 hs hq=>by obtain⟨p,x1,x2,x3,x4,e,h,h1,h2,h3,h4⟩:=r9;exact⟨p,_,e,SqT.of (Xz _ _ h),rfl,x1,[x2,x3,x4],rfl,x2,[x3,x4],rfl,x3,[x4],rfl,x4,[],rfl,rfl,hq (x1,x2,x3,x4) ⟨⟨⟨⟨hs,h1⟩,h2⟩,h3⟩,h4⟩⟩
def rP5 (r1:Enc α1)(r2:Enc α2)(r3:Enc α3)(r4:Enc α4)(r5:Enc α5):Enc (α1×α2×α3×α4×α5):=λK H v p=>∃ a x1 x2 x3 x4 x5,v= .ref a/\H a=some (.tup [x1,x2,x3,x4,x5])/\r1 K H x1 p.1/\r2 K H x2 p.2.1/\r3 K H x3 p.2.2.1/\r4 K H x4 p.2.2.2.1/\r5 K H x5 p.2.2.2.2
instance {r1:Enc α1}{r2:Enc α2}{r3:Enc α3}{r4:Enc α4}{r5:Enc α5}[m1:MonoE r1][m2:MonoE r2][m3:MonoE r3][m4:MonoE r4][m5:MonoE r5]:MonoE (rP5 r1 r2 r3 r4 r5):=⟨λs r9=>by obtain⟨a,x1,x2,x3,x4,x5,e,h,p1,p2,p3,p4,p5⟩:=r9;exact⟨a,x1,x2,x3,x4,x5,e,s _ _ h,m1.mono s p1,m2.mono s p2,m3.mono s p3,m4.mono s p4,m5.mono s p5⟩⟩
instance {r1:Enc α1}{r2:Enc α2}{r3:Enc α3}{r4:Enc α4}{r5:Enc α5}[m1:FlatE r1][m2:FlatE r2][m3:FlatE r3][m4:FlatE r4][m5:FlatE r5]:FlatE (rP5 r1 r2 r3 r4 r5):=⟨λs r9=>by obtain⟨a,x1,x2,x3,x4,x5,e,h,p1,p2,p3,p4,p5⟩:=r9;exact⟨a,x1,x2,x3,x4,x5,e,s _ _ h rfl,m1.flat s p1,m2.flat s p2,m3.flat s p3,m4.flat s p4,m5.flat s p5⟩⟩
instance {r1:Enc α1}{r2:Enc α2}{r3:Enc α3}{r4:Enc α4}{r5:Enc α5}:TyE (rP5 r1 r2 r3 r4 r5) "tuple":=⟨λr9=>by obtain⟨p,x1,x2,x3,x4,x5,e,q,_⟩:=r9;exact by subst e;exact .tup q⟩
@[reducible] def tg5 [MonoE r1][MonoE r2][MonoE r3][MonoE r4][MonoE r5](i1 i2 i3 i4 i5:Nat):Tgt K OO (O4 K 5 (QP (YY i1) (QP (YY i2) (QP (YY i3) (QP (YY i4) (QP (YY i5) RW)))))) (rP5 r1 r2 r3 r4 r5) (V×V×V×V×V) where
 set:=λv σ=>(((((σ.set i1 (some v.1)).set i2 (some v.2.1)).set i3 (some v.2.2.1)).set i4 (some v.2.2.2.1)).set i5 (some v.2.2.2.2))
 sc:=λa v S=>(((((S.add K r1 v.1 a.1).add K r2 v.2.1 a.2.1).add K r3 v.2.2.1 a.2.2.1).add K r4 v.2.2.2.1 a.2.2.2.1).add K r5 v.2.2.2.2 a.2.2.2.2)
 ok:=fun {H v a σ S Q} r9 hs hq=>by obtain⟨p,x1,x2,x3,x4,x5,e,h,h1,h2,h3,h4,h5⟩:=r9;exact⟨p,_,e,SqT.of (Xz _ _ h),rfl,x1,[x2,x3,x4,x5],rfl,x2,[x3,x4,x5],rfl,x3,[x4,x5],rfl,x4,[x5],rfl,x5,[],rfl,rfl,hq (x1,x2,x3,x4,x5) ⟨⟨⟨⟨⟨hs,h1⟩,h2⟩,h3⟩,h4⟩,h5⟩⟩
def WB (as:List Int):Rs Int:=chk (0<as.length) (.ok (NG as))
def Ag (as:List Int):Rs Int:=chk (0<as.length) (.ok (Nz as))
theorem KD {ma:Rs (List Int)}(ha:EvB K Er S OO σ ta (rPL Xf) ma):EvB K Er S OO σ (tCB (M6 K NG) (Xv ta YK)) Xf (ma.bind WB):=λH Q w s P=>
 ha.run w s FB.tr P λa x H1 s1 w1 q1 ⟨p,xs,e,q,pr⟩ P1=>by
  obtain⟨h1,P1⟩:=PZ.chk P1
  exact⟨p,a,by rw[e],by rw[←Ga pr];exact SqT.of q,h1,P1 _ H1 (Xx.refl _) rfl⟩
theorem GR {m:Rs (Int×Int)}(ha:EvB K Er S OO σ ta (rP2 Xf Xf) m):EvB K Er S OO σ ta (rPL Xf) (m.bind λp=>.ok [p.1,p.2]):=λH Q w s P=>
 ha.run w s FB.tr P λa x H1 s1 w1 q1 r9 P1=>by obtain⟨p,x1,x2,e,q,h1,h2⟩:=r9;exact P1 _ H1 (Xx.refl _) ⟨p,_,e,q, .cons h1 (.cons h2 .nil)⟩
theorem QE {m:Rs (Int×Int×Int×Int)}(ha:EvB K Er S OO σ ta (rP4 Xf Xf Xf Xf) m):EvB K Er S OO σ ta (rPL Xf) (m.bind λp=>.ok [p.1,p.2.1,p.2.2.1,p.2.2.2]):=λH Q w s P=>
 ha.run w s FB.tr P λa x H1 s1 w1 q1 r9 P1=>by obtain⟨p,x1,x2,x3,x4,e,q,h1,h2,h3,h4⟩:=r9;exact P1 _ H1 (Xx.refl _) ⟨p,_,e,q, .cons h1 (.cons h2 (.cons h3 (.cons h4 .nil)))⟩
theorem Yz [z:MonoE r](he:EvB K Er S OO σ te (rPL r) m)(hl:EvP Er S OO σ tl ml)(hh:EvP Er S OO σ th mh):
  EvB K Er S OO σ (tSl (Wl K) te tl th) (rPL r) (m.bind λas=>ml.bind λlo=>mh.bind λhi=>chk (¬(HT.sIx as.length 0 lo=0/\HT.sIx as.length as.length hi=as.length)) (.ok (G8 as lo hi))):=λH Q w s P=>
 he.run w s FB.tr P λas x H1 s1 w1 q1 ⟨p,xs,e,q,pr⟩ P1=>hl.run w1 q1 FB.tr P1 λlo H2 s2 w2 q2 P2=>hh.run w2 q2 FB.tr P2 λhi H3 s3 w3 q3 aO=>by
  obtain⟨hn,aO⟩:=PZ.chk aO
  have eF:=Uy (Paired.imp2 (G:=r K H3) (λ_ _ h=>z.mono (s2.trans s3) h) pr) lo hi
  exact⟨p,xs,e,SqT.of (s3 _ _ (s2 _ _ q)),by rw[Paired.len pr];exact hn,λa ha=>aO _ _ (XH ha _) ⟨a,_,rfl,X7,Paired.imp2 (λ_ _ h=>z.mono (XH ha _) h) eF⟩⟩
def rDP (r:Enc α)(K:W.Frag)(H:Hp)(kv:Key×V)(kx:Int×α):Prop:=kv.1= .inl kx.1/\r K H kv.2 kx.2
def rD (r:Enc α):Enc (List (Int×α)):=λK H v d=>∃ p kvs,v= .ref p/\H p=some (.dK kvs)/\Paired (rDP r K H) kvs d
def oD (r:Enc α):OE (List (Int×α)):=λK h v d C=>∃ p kvs,v= .ref p/\Paired (rDP r K h) kvs d/\C=[(p, .dK kvs)]
instance {r:Enc α}[m:MonoE r]:MonoE (rD r):=⟨λs r9=>by obtain⟨p,kvs,e,q,pr⟩:=r9;exact⟨p,kvs,e,s _ _ q,Paired.imp2 (λ_ _ z=>⟨z.1,m.mono s z.2⟩) pr⟩⟩
instance {r:Enc α}[m:MonoE r]:MonoO (oD r):=⟨λs r9=>by obtain⟨p,kvs,e,pr,c⟩:=r9;exact⟨p,kvs,e,Paired.imp2 (λ_ _ z=>⟨z.1,m.mono s z.2⟩) pr,c⟩⟩
instance {r:Enc α}[m:FlatE r]:FlatO (oD r):=⟨λs r9=>by obtain⟨p,kvs,e,pr,c⟩:=r9;exact⟨p,kvs,e,Paired.imp2 (λ_ _ z=>⟨z.1,m.flat s z.2⟩) pr,c⟩⟩
instance {r:Enc α}[m:MonoE r]:FrzC (oD r) (rD r):=⟨λr9 s hc=>by obtain⟨p,kvs,e,pr,c⟩:=r9;exact⟨p,kvs,e,hc (p, .dK kvs) (by rw[c];simp),Paired.imp2 (λ_ _ z=>⟨z.1,m.mono s z.2⟩) pr⟩⟩
def Q5 (d:List (Int×α))(k:Int):Option α:=(d.find? λkv=>decide (kv.1=k)).map (·.2)
def G2 (d:List (Int×α))(k:Int)(v:α):List (Int×α):=if(d.any λkv=>decide (kv.1=k))=true then d.map (λkv=>if kv.1=k then(kv.1,v) else kv) else d++[(k,v)]
def I9 (d:List (Int×α))(k:Int):Rs α:=Gz (Q5 d k)
theorem QU {k:Int}:∀{kvs:List (Key×V)}{d:List (Int×α)},Paired (rDP r K H) kvs d->(∀a,Q5 d k=some a->∃v,Bp kvs (.inl k)=some v/\r K H v a)/\(Bp kvs (.inl k)).isSome=(Q5 d k).isSome
 |_,_, .nil=>⟨λa h=>(by cases h),rfl⟩
 |kv::kvs,kx::d, .cons h t=>by
  obtain⟨h1,h2⟩:=QU (k:=k) t
  by_cases e:kx.1=k
  ·have e2:kv.1= .inl k:=by rw[h.1,e]
   rw[VU e2]
   have e3:Q5 (kx::d) k=some kx.2:=by simp[Q5,List.find?_cons,e]
   rw[e3]
   exact⟨λa ha=>by cases ha;exact⟨_,rfl,h.2⟩,rfl⟩
  ·have e2:¬kv.1= .inl k:=by rw[h.1];exact λz=>e (Sum.inl.inj z)
   rw[VP e2]
   have e3:Q5 (kx::d) k=Q5 d k:=by simp[Q5,List.find?_cons,e]
   rw[e3]
   exact⟨h1,h2⟩
theorem G7 {k:Int}:∀{kvs:List (Key×V)}{d:List (Int×α)},Paired (rDP r K H) kvs d->(kvs.any λkv=>decide (kv.1= .inl k))=d.any λkx=>decide (kx.1=k)
 |_,_, .nil=>rfl
 |kv::kvs,kx::d, .cons h t=>by
  rw[List.any_cons,List.any_cons,G7 t,h.1]
  congr 1
  rw[Bool.eq_iff_iff];simp
theorem KY {k:Int}{a:α}(hv:r K H v a){d:List (Int×α)}(h:Paired (rDP r K H) kvs d):Paired (rDP r K H) (Uj kvs (.inl k) v) (G2 d k a):=by
 unfold Uj G2
 rw[G7 h]
 by_cases e:(d.any λkx=>decide (kx.1=k))=true
 ·rw[if_pos e,if_pos e]
  clear e
  induction h with
  |nil=>exact .nil
  | @cons kv kx l m h t ih=>
   refine .cons ?_ ih
   show rDP r K H (if kv.1= .inl k then(kv.1,v) else kv) (if kx.1=k then(kx.1,a) else kx)
   by_cases e:kx.1=k
   ·rw[if_pos (show kv.1= .inl k by rw[h.1,e]),if_pos e];exact⟨h.1,hv⟩
   ·rw[if_neg (show ¬kv.1= .inl k by rw[h.1];exact λz=>e (Sum.inl.inj z)),if_neg e];exact h
 ·rw[if_neg e,if_neg e]
  exact Paired.app h (.cons ⟨rfl,hv⟩ .nil)
theorem Po:Ev K Er S OO OO σ O3 (oD r) (.ok []):=λH Q w s P=>λp hp=>P (.ref p) [(p, .dK [])] _ (XH hp _) (w.new hp rfl) (Jv hp) ⟨p,[],rfl, .nil,rfl⟩
theorem Kz [z:MonoE r](hd:EvB K Er S OO σ td (rD r) md)(hk:EvB K Er S OO σ ty Xf mk):EvB K Er S OO σ (SM td ty) r (md.bind λd=>mk.bind λk=>I9 d k):=λH Q w s P=>
 hd.run w s FB.tr P λd x H1 s1 w1 q1 ⟨p,kvs,e,q,pr⟩ P1=>hk.run w1 q1 FB.tr P1 λk y H2 s2 w2 q2 r2 P2=>by
  cases eg:Q5 d k with
  |none=>rw[I9,eg] at P2;exact P2.elim
  |some a=>
   rw[I9,eg] at P2
   obtain⟨v,hv,rv⟩:=(QU (k:=k) pr).1 a eg
   exact⟨p,v,e, .inl ⟨kvs, .inl k, .inl (s2 _ _ q),r2,hv.symm⟩,P2 _ H2 (Xx.refl _) (z.mono s2 rv)⟩
theorem B8 (hk:EvB K Er S OO σ ty Xf mk)(hd:EvB K Er S OO σ td (rD r) md):EvB K Er S OO σ (Ac ty td) XB (mk.bind λk=>md.bind λd=>.ok (Q5 d k).isSome):=λH Q w s P=>
 hk.run w s FB.tr P λk y H1 s1 w1 q1 r1 P1=>hd.run w1 q1 FB.tr P1 λd x H2 s2 w2 q2 r9 P2=>by obtain⟨p,kvs,e,q,pr⟩:=r9;exact⟨p,Bp kvs (.inl k),e, .inl ⟨kvs, .inl k, .inl q,r1,rfl⟩,P2 _ H2 (Xx.refl _) (by rw[(QU (k:=k) pr).2];rfl)⟩
variable [fd:FdOk Fd]{u:TS}
theorem Rp [z:MonoE r]{f:List (Int×α)->Rs β}{d:List (Int×α)}(i k:Nat)(hσ:σ[i]?=some (some v))(hk:OO[k]?=some C)(h:∀x,S.p x->oD r K x v d C)(hv:EvS K Er S OO σ tv r mv)(hy:EvB K Er S OO σ ty Xf mk)
  (hr:∀d' C',Sv Er (S.addO K (oD r) v d' C') (OO.set k C') σ u Fd (f d')):Sv Er S OO σ (ZY (R4 (VI i) ty tv) u) Fd (mv.bind λa=>mk.bind λn=>chk (d.length<sizeLine) (f (G2 d n a))):=λH D w s P=>
 hv.st w s P λa va H1 s1 w1 q1 r1 P1=>⟨v,hσ,hy.st w1 q1 P1 λn vn H2 s2 w2 q2 r2 P2=>by
  obtain⟨hsz,P2⟩:=PZ.chk P2
  obtain⟨p,kvs,e,pr,c⟩:=h _ q2
  subst c e
  have hH:H2 p=some (.dK kvs):=w2.tr (p, .dK kvs) (List.mem_flatten.mpr ⟨_,List.mem_of_getElem? hk,by simp⟩)
  obtain⟨w3,m3⟩:=MG (D:=[]) (C':=[(p, .dK (Uj kvs (.inl n) va))]) (p:=p) (o:=.dK (Uj kvs (.inl n) va)) w2.nil hk (by simp) (by simp) (by simp) (λb hb=>by simpa using hb) (λc hc=>by
   have:c=(p, .dK (Uj kvs (.inl n) va)):=by simpa using hc
   rw[this];exact X7) (λc hc=>by
   have:c=(p, .dK (Uj kvs (.inl n) va)):=by simpa using hc
   rw[this];rfl)
  rw[ZA] at m3
  refine⟨p,_,rfl, .inl ⟨kvs, .inl n,hH,r2,by rw[Paired.len pr];exact hsz,rfl⟩,?_⟩
  exact hr _ _ _ D w3 ⟨S.mono _ _ m3 q2,⟨p,_,rfl,KY (z.mono ((Xh s2).trans m3) r1) (Paired.imp2 (λ_ _ h=>⟨h.1,z.mono m3 h.2⟩) pr),rfl⟩⟩ (PZ.tr (fd.tr D) m3 P2)⟩
end
section
variable {h0 h:Heap}{T:Addr}{cls a0:Value}{l:List Env}
end
section
variable {fs fs2 ex ex2:List Addr}{H0:Hp}{h0 h:Heap}
end
section
variable {qual:Str}{f:Addr}{cd:Value}{outer:List Env}{s0:Shared}{H0:Hp}{E:XK}
end
section
variable {sp:Sp}{t:TA}{p:Pos}{E:XK}
end
section
variable {E:XK}{C:Addr}{t:TA}{np aF:Pos}
end
abbrev TJ:=St->Hp->(Hp->Prop)->Prop
section
variable {t:TJ}{p:Pos}
end
section
end
section
variable {body suite:List Stmt}{b₀:Stmt}{cn n:Str}{Ch:Addr}{i:Nat}{tb:XK->TS}{ts:Addr->Addr->TS}{np hpos:Pos}
end
section
variable {α6:Type}{E:XK}
def FJ (Q:Hp->Prop)(_:Unit)(H:Hp):Prop:=∀ H',Xx H H'->Q H'
theorem FJ.tr {Q:Hp->Prop}:∀(b:Unit) (H H':Hp),Xx H H'->FJ Q b H->FJ Q b H':=λ_ _ _ s h H2 s2=>h H2 (s.trans s2)
variable [fd:FdOk Fd]{u:TS}
section
variable {te:XK->TE}{m:Rs α}{ts:Addr->Addr->TS}{N i:Nat}{Ch:Addr}{o:OE ρ}{g:Exc->Rs ρ}{ns:List Str}{d:Str}
end
end
end L2
namespace L2
open PySem PySem.Spec PyProof.Rows PySem.W PySem.Builtin PySem.Builtin.ObjectAttr PySem.Builtin.Getset_descriptor
section
variable {K:Frag}{x D:Addr}
end
theorem TY (h:∃u,X.mg x=some u/\Ya v u)(hg:Gl X x)(hd:(x==("__debug__":Str))=false:=by decide):PE X (.Name x pos) (tC v):=by
 obtain⟨u,hm,r⟩:=h
 exact Pr hg hm r hd
section
variable {C D:Addr}{b:Bool}
end
end L2
namespace L2
open PySem PySem.Spec PyProof.Rows
section
variable [fd:FdOk Fd]{u:TS}
end
section
theorem SG {a b:Str}:(a==b)=decide (a=b):=by rw[Bool.eq_iff_iff];simp
theorem qc:EqOk VY 0 where
 uniq:=λ_ h1 h2=>by
  have bB:_=V.str _:=h1
  have bv:_=V.str _:=h2
  rw[bB] at bv;injection bv
 eq:=fun {X aa σ H s x y v u a b A} I rx ry h1 h2 _=>by
  have bB:x=V.str a:=h1
  have bv:y=V.str b:=h2
  subst bB bv
  obtain⟨t,rfl⟩:=rx
  obtain⟨t',rfl⟩:=ry
  rw[←SG];exact SeqAt.EqAt.str_str a t b t'
 rc:=fun {X aa σ H s x y v u a b A} I rx ry h1 h2 _=>by
  have bB:x=V.str a:=h1
  have bv:y=V.str b:=h2
  subst bB bv
  obtain⟨t,rfl⟩:=rx
  obtain⟨t',rfl⟩:=ry
  rw[←SG];exact SeqAt.RcAt.str_str a t b t'
 ne:=fun {X aa σ H s x y v u a b A} I rx ry h1 h2 _=>by
  have bB:x=V.str a:=h1
  have bv:y=V.str b:=h2
  subst bB bv
  obtain⟨t,rfl⟩:=rx
  obtain⟨t',rfl⟩:=ry
  rw[←SG];exact SeqAt.RcNeAt.str_str a t b t'
 keep:=λ_ h=>h
theorem PK {a b:Bool}:(a==b)=decide (a=b):=by rw[Bool.eq_iff_iff];simp
theorem WA:EqOk XB 0 where
 uniq:=λ_ h1 h2=>by
  have bB:_=V.bl _:=h1
  have bv:_=V.bl _:=h2
  rw[bB] at bv;injection bv
 eq:=fun {X aa σ H s x y v u a b A} I rx ry h1 h2 _=>by
  have bB:x=V.bl a:=h1
  have bv:y=V.bl b:=h2
  subst bB bv
  cases rx;cases ry
  rw[←PK];exact SeqAt.EqAt.bool_bool a b
 rc:=fun {X aa σ H s x y v u a b A} I rx ry h1 h2 _=>by
  have bB:x=V.bl a:=h1
  have bv:y=V.bl b:=h2
  subst bB bv
  cases rx;cases ry
  rw[←PK];exact SeqAt.RcAt.bool_bool a b
 ne:=fun {X aa σ H s x y v u a b A} I rx ry h1 h2 _=>by
  have bB:x=V.bl a:=h1
  have bv:y=V.bl b:=h2
  subst bB bv
  cases rx;cases ry
  rw[←PK];exact SeqAt.RcNeAt.bool_bool a b
 keep:=λ_ h=>h
end
section
variable {ζ:Type}
variable [fd:FdOk Fd]{u:TS}
def getL:α ⊕ γ->Rs α
 | .inl a=>.ok a
 | .inr _=>.bad
def getR:α ⊕ γ->Rs γ
 | .inl _=>.bad
 | .inr b=>.ok b
end
end L2
namespace L2
theorem TR {us:List α}(h:us.length=1):∃a,us=[a]:=List.length_eq_one_iff.mp h
theorem T7 {us:List α}(h:us.length=2):∃a0 a1,us=[a0,a1]:=by
 cases us with
 |nil=>cases h
 |cons a0 t=>
  obtain⟨a1,rfl⟩:=TR (Nat.succ.inj h)
  exact⟨a0,a1,rfl⟩
theorem Wb {us:List α}(h:us.length=3):∃a0 a1 a2,us=[a0,a1,a2]:=by
 cases us with
 |nil=>cases h
 |cons a0 t=>
  obtain⟨a1,a2,rfl⟩:=T7 (Nat.succ.inj h)
  exact⟨a0,a1,a2,rfl⟩
theorem S2 {us:List α}(h:us.length=4):∃a0 a1 a2 a3,us=[a0,a1,a2,a3]:=by
 cases us with
 |nil=>cases h
 |cons a0 t=>
  obtain⟨a1,a2,a3,rfl⟩:=Wb (Nat.succ.inj h)
  exact⟨a0,a1,a2,a3,rfl⟩
theorem WT {us:List α}(h:us.length=5):∃a0 a1 a2 a3 a4,us=[a0,a1,a2,a3,a4]:=by
 cases us with
 |nil=>cases h
 |cons a0 t=>
  obtain⟨a1,a2,a3,a4,rfl⟩:=S2 (Nat.succ.inj h)
  exact⟨a0,a1,a2,a3,a4,rfl⟩
end L2
namespace L2
open PySem PySem.Spec PyProof.Rows
section
end
section
end
section
variable {ζ:Type}
variable [fd:FdOk Fd]{u:TS}
theorem RM:Ev K Er S OO OO σ (tC .non) (oF (Gm r)) (.ok none):=λH Q w s P=>P _ [] H (Xx.refl _) w.nil (by rw[ZA];exact Xx.refl _) ⟨rfl,rfl⟩
theorem M8 {m:Rs α}(hn:∀{K h v a C},oF r K h v a C->v≠ .non)(he:Ev K Er S OO OO' σ te (oF r) m):Ev K Er S OO OO' σ te (oF (Gm r)) (m.bind λa=>.ok (some a)):=λH Q w s P=>by
 refine he H Q w s ?_
 cases m with
 |bad=>exact P
 |err x=>exact P
 |ok a=>exact λv C H' s' w' m' ho=>P v C H' s' w' m' ⟨ho.1,hn ho,ho.2⟩
end
section
end
section
variable {ζ:Type}
variable [fd:FdOk Fd]{u:TS}
end
set_option maxRecDepth 100000
section
theorem Eu:typeLookup (.type "list") "keys" =pure none:=by rw[typeLookup_type,builtinLookup_eq_fast];kernel_rfl
theorem NB {o:Obj}{xs:Array Value}{R:Option Value->Shared->Prop}(hx:s.heap.get? a=some o)(hc:o.cls= .type "list")(cS:o.data= .seq xs k)(hd:o.dict=none)(hA:A.handled=none)
    (h:∀g tk,(∀b u,s.heap.get? b=some u->g.get? b=some u)->R none {s with heap:=g,toks:=tk}):wpAny (model prog w) A (getAttr? (.ref a) "keys") R E s:=by
  obtain⟨c,dct,dat,sl⟩:=o
  simp only at hc cS hd
  subst hc cS hd
  obtain⟨hp,g,d,tk,os⟩:=s
  have hT:∀tk',(⟨hp,g,d,tk',os⟩:Shared).TypeIs (.ref a) "list":=λ_=>⟨_,hx,rfl⟩
  have f1:=sub_AttributeError
  have f3:=F.slot_list_getattribute.lookup
  have f4:=F.slot_list_getattribute.bind (.ref a)
  have f5:=am_list_getattr_none
  unfold getAttr? getAttrBy? getAttrBy
  repeat (any_goals (first
    |assumption
    |exact hT _
    | ((with_reducible show wpAny _ _ (call (Value.builtin "list.__getattribute__") _ _) _ _ _)
       refine call_meets F.slot_list_getattribute (hT _) am_entry_list_getattribute (F.args_list_getattribute_2 _ _) (meets_getattribute_miss_list a xs k sl "keys" _ Eu (by decide+kernel)) ⟨hx,hA,λh' tk' e fk=>?_⟩)
    |wp_step))
  obtain⟨t',u',he⟩:=fk.there
  show wpAny _ _ (getattributeRaised _ _ _ _ _ _ _) _ _ _
  unfold getattributeRaised
  repeat (any_goals (first |wp_step |assumption))
  exact h _ _ fk.keeps
theorem QZ:plainId "dict.update.loop" =true:=by decide+kernel
theorem Gi:entryFor table "dict.update.loop" =some Builtin.«dict.update.loop»:=entryFor_of_fast (by kernel_rfl)
end
section
variable {K:Type}[DecidableEq K]{knd:KeyKind prog w K}
def RN (knd:KeyKind prog w K)(h:Heap)(its:Array Value)(kv:List (K×Value)):Prop:=its.size=kv.length/\∀(j:Nat) (x:Value) (p:K×Value),its[j]?=some x->kv[j]?=some p->∃t key,x= .ref t/\h.IsTuple t #[key,p.2]/\knd.is p.1 key=true
def Di (acc kv:List (K×Value)):List (K×Value):=kv.foldl (λa p=>stored a p.1 p.2) acc
theorem Hw (acc:List (K×Value))(k:K)(v:Value):(stored acc k v).length<=acc.length+1:=by
 unfold stored
 split
 ·simp
 ·simp
theorem CZ {h:Heap}{t l:Addr}{i:Nat}{xs:Array Value}(ht:h.IsTuple t xs)(it:h.IsListIter I l i):t≠I:=λe=>by
 subst e
 obtain⟨o,ho,hc,_⟩:=ht
 obtain⟨o',cq,dU,_⟩:=it
 rw[ho] at cq
 cases cq
 rw[hc] at dU
 exact absurd dU (by decide)
theorem MX {h:Heap}{t:Addr}{xs:Array Value}{acc:List (K×Value)}(ht:h.IsTuple t xs)(hd:h.DictOf knd d acc):t≠d:=λe=>by
 subst e
 obtain⟨o,ho,hc,_⟩:=ht
 obtain⟨o',_,_,cq,dU,_⟩:=hd
 rw[ho] at cq
 cases cq
 have:=dU.1
 rw[hc] at this
 exact absurd this (by decide)
theorem Wt (hh:A.in1.handled=none)(hdI:d≠I)(hlI:l≠I)(hld:l≠d){its:Array Value}:
  ∀(k i:Nat) (s:Shared) (acc:List (K×Value)),its.size-i=k->i<=its.size->s.heap.IsListIter I l i->s.heap.IsList l its->RN knd s.heap its kv->s.heap.DictOf knd d acc->acc.length+its.size<=sizeLine+i->
  (∀g tk,g.DictOf knd d (Di acc (kv.drop i))->(∀b o,b≠I->b≠d->s.heap.get? b=some o->g.get? b=some o)->R (.ok (.ret .none)) {s with heap:=g,toks:=tk})->
  codeAny (model prog w) A (.builtin "dict.update.loop" ⟨[.ref d, .ref I,rawInt i, .none],[]⟩) R s:=by
 intro k
 induction k with
 |zero=>
  intro i s acc hk hi it hl hp hd hz r
  refine codeAny_builtin Gi ?_
  rw[Around.under_plainId QZ _]
  show wpAny _ A.in1 (pyNext (.ref I) >>= _) _ _ s
  refine wpAny_bind (wpAny_pyNext_list_end hh it hl (by simp;omega) λg hx=>?_)
  show wpAny _ _ (Builtin.Dict.addKeywords d [] >>= λ_=>ret Value.none) _ _ _
  refine wpAny_bind (wpAny_pure (wpAny_pure (r g s.toks ?_ λb o hb _ e=>hx b o hb e)))
  have e:kv.drop i=[]:=List.drop_eq_nil_of_le (by have:=hp.1;omega)
  rw[e]
  exact hd.extBut hx hdI
 |succ k ih=>
  intro i s acc hk hi it hl hp hd hz r
  have lt:i<its.size:=by omega
  refine codeAny_builtin Gi ?_
  rw[Around.under_plainId QZ _]
  show wpAny _ A.in1 (pyNext (.ref I) >>= _) _ _ s
  refine wpAny_bind (wpAny_pyNext_list_item it hl (x:=its[i]) (by simp[lt]) λg it' hx=>?_)
  have lt2:i<kv.length:=by have:=hp.1;omega
  obtain⟨t,key,et,ht,fH⟩:=hp.2 i its[i] kv[i] (by simp[lt]) (by simp[lt2])
  have htI:t≠I:=CZ ht it
  have ht1:g.IsTuple t #[key,kv[i].2]:=ht.extBut hx.extBut htI
  obtain⟨o,ho,hc,n,hdt⟩:=id ht1
  rw[et]
  show wpAny _ _ (holding [Value.ref t] _ >>= λ_=>again (.builtin "dict.update.loop" ⟨[.ref d, .ref I,rawInt ((i:Int)+1), .none],[]⟩)) _ _ _
  refine wpAny_bind (wpAny_holding ?_)
  refine wpAny_bind (wpAny_tryCatch ?_)
  unfold Builtin.Dict.pairItems
  refine wpAny_bind (wpAny_typeOf (s:={s with heap:=g}) ⟨o,ho,hc⟩ ?_)
  rw[if_pos (by decide)]
  refine wpAny_bind (wpAny_seqItems (s:={s with heap:=g}) ho hdt (wpAny_pure ?_))
  show wpAny _ _ (holding [key,kv[i].2] (dictSet d key kv[i].2)) _ _ _
  refine wpAny_holding (wpAny_dictSet_pairs (s:={s with heap:=g}) fH (hd.extBut hx.extBut hdI) (λg2 eW eE=>?_) (by omega))
  refine wpAny_pure ⟨plainId_quiet QZ _,?_⟩
  have hne:∀{b:Addr}{u:Obj},s.heap.get? b=some u->b≠I->b≠d->g2.get? b=some u:=fun {b u} e h1 h2=>(eE.2 b h2).trans (hx.extBut b u h1 e)
  refine ih (i+1) {s with heap:=g2,toks:=s.toks+1} (stored acc kv[i].1 kv[i].2) (by omega) (by omega) ?_ ?_ ?_ eW ?_ ?_
  ·exact it'.extBut eE.extBut (λe=>hdI e.symm)
  ·exact(hl.extBut hx.extBut hlI).extBut eE.extBut hld
  ·refine⟨hp.1,λj x p h1 h2=>?_⟩
   obtain⟨t2,fS,e2,ht2,dr⟩:=hp.2 j x p h1 h2
   exact⟨t2,fS,e2,(ht2.extBut hx.extBut (CZ ht2 it)).extBut eE.extBut (MX ht2 hd),dr⟩
  ·have:=Hw acc kv[i].1 kv[i].2
   omega
  ·intro g3 tk hd3 kp
   refine r g3 tk ?_ λb o h1 h2 e=>kp b o h1 h2 (hne e h1 h2)
   rw[List.drop_eq_getElem_cons lt2]
   exact hd3
theorem Hy (hh:A.handled=none){o:Obj}{its:Array Value}(hx:s.heap.get? l=some o)(hc:o.cls= .type "list")(cS:o.data= .seq its n)(hd:o.dict=none)(hp:RN knd s.heap its kv)(hz:its.size<=sizeLine)
  (r:∀g tk,g.DictOf knd s.heap.objs.size (Di [] kv)->(∀b u,s.heap.get? b=some u->g.get? b=some u)->Q (.ref s.heap.objs.size) {s with heap:=g,toks:=tk}):wpAny (model prog w) A (call (.type "dict") [.ref l]) Q E s:=by
 refine callType_codes (Q₁:=λobj s₁=>obj= .ref s.heap.objs.size/\s₁={s with heap:=s.heap.push {cls:=.type "dict",data:=.dict #[]}}) F.kt_called_dict (F.kt_typeCall_dict_1 _) F.entry_dict_init (kt_code_dict_new _ ⟨rfl,rfl⟩) ?_
 rintro obj s₁ ⟨rfl,rfl⟩
 have d9:(s.heap.push {cls:=.type "dict",data:=.dict #[]}).DictOf knd s.heap.objs.size []:=Heap.DictOf.new s.heap
 have gX:(s.heap.push {cls:=.type "dict",data:=.dict #[]}).get? l=some o:=Heap.get?_push_of_some _ hx
 refine⟨d9.typeIs,F.args_dict_init_2 _ _,?_⟩
 unfold Builtin.«dict.__init__»
 refine wpAny_bind ?_
 unfold Builtin.Dict.selfAndRest
 refine wpAny_bind (wpAny_notOrdered_dict d9.typeIs ?_)
 show wpAny _ _ (pure (s.heap.objs.size,[Value.ref l])) _ _ _
 refine wpAny_pure ?_
 show wpAny _ _ (Builtin.Dict.updateFrom "dict.__init__" s.heap.objs.size (.ref l) [] .none) _ _ _
 unfold Builtin.Dict.updateFrom
 refine wpAny_bind (wpAny_typeOf ⟨o,gX,hc⟩ ?_)
 rw[if_pos (by decide)]
 refine wpAny_bind (NB gX hc cS hd hh λg tk kp=>?_)
 rw[if_pos (show(none:Option Value).isNone=true from rfl)]
 refine wpAny_bind (wpAny_rule ?_)
 have hlg:g.IsList l its:=⟨o,kp _ _ gX,hc,n,cS⟩
 have hdg:g.DictOf knd s.heap.objs.size []:=by
  obtain⟨o',es,ep,ho,q⟩:=d9
  exact⟨o',es,ep,kp _ _ ho,q⟩
 have fT:s.heap.objs.size<g.objs.size:=by
  obtain⟨o',es,ep,ho,q⟩:=hdg
  exact Heap.lt_size ho
 have gY:l<s.heap.objs.size:=Heap.lt_size hx
 refine wpAny_bind (wpAny_pyIter_list (s:={s with heap:=g,toks:=tk}) hlg ?_)
 refine wpAny_pure ⟨plainId_quiet QZ _,?_⟩
 refine Wt (A:=A.in1) (show A.in1.in1.handled=none from hh) (d:=s.heap.objs.size) (I:=g.objs.size) (l:=l) (its:=its) (kv:=kv) (Nat.ne_of_lt fT) (Nat.ne_of_lt (Nat.lt_trans gY fT)) (Nat.ne_of_lt gY) its.size 0 _ [] rfl (Nat.zero_le _) ⟨_,Heap.get?_push_size _ rfl,rfl,rfl⟩ (hlg.push _) ?_ (hdg.push _) (by simpa using hz) ?_
 ·refine⟨hp.1,λj x p h1 h2=>?_⟩
  obtain⟨t2,fS,e2,⟨ot,hot,q⟩,dr⟩:=hp.2 j x p h1 h2
  exact⟨t2,fS,e2,⟨ot,Heap.get?_push_of_some _ (kp _ _ (Heap.get?_push_of_some _ hot)),q⟩,dr⟩
 ·intro g2 tk2 eW kp2
  refine⟨rfl,r g2 tk2 eW λb u e=>?_⟩
  have hb:=Heap.lt_size e
  exact kp2 b u (Nat.ne_of_lt (Nat.lt_trans hb fT)) (Nat.ne_of_lt hb) (Heap.get?_push_of_some _ (kp _ _ (Heap.get?_push_of_some _ e)))
end
section
def Uh (acc kvs:List (Key×V)):List (Key×V):=kvs.foldl (λa p=>Uj a p.1 p.2) acc
theorem Nd (kvs:List (Key×V))(k:Key)(v:V):(Uj kvs k v).length<=kvs.length+1:=by
 unfold Uj
 split<;> simp
theorem Fj:∀(kvs acc:List (Key×V)),(Uh acc kvs).length<=acc.length+kvs.length
 | [],acc=>by simp[Uh]
 |p::kvs,acc=>by
  have h1:=Fj kvs (Uj acc p.1 p.2)
  have h2:=Nd acc p.1 p.2
  show(Uh (Uj acc p.1 p.2) kvs).length<=_
  rw[List.length_cons]
  omega
theorem KV.all (t:KV kvs vs):∀{acc:List (Key×V)}{cx:List (Key×Value)},KV acc cx->KV (Uh acc kvs) (Di cx vs):=by
 induction t with
 |nil=>intro acc cx h;exact h
 | @cons p q kvs vs r _ ih=>
  intro acc cx h
  have h2:=h.put p.1 r.2
  have e:stored cx p.1 q.2=stored cx q.1 q.2:=by rw[r.1]
  rw[e] at h2
  exact ih h2
def Ol (K:W.Frag):List V->Hp->VK->Prop:=λxs H Q=>∃ l ps kvs,xs=[.ref l]/\SqL K H l ps/\Paired (λp (kv:Key×V)=>∃ t,p= .ref t/\SqT K H t [kV kv.1,kv.2]) ps kvs/\∀d,H d=none->Q (.ref d) (upd H d (.dK (Uh [] kvs)))
theorem TQ (I:Inv X aa σ H s):∀{ps:List V}{kvs:List (Key×V)}{its:List Value},Paired (λp (kv:Key×V)=>∃ t,p= .ref t/\SqT X.K H t [kV kv.1,kv.2]) ps kvs->Yf ps its->∃kv,KV kvs kv/\RN (Yi X.prog X.w) s.heap its.toArray kv:=fun {ps kvs its} p=>by
 induction p generalizing its with
 |nil=>
  intro v
  cases v
  exact⟨[], .nil,rfl,λj x p h=>by simp at h⟩
 | @cons _ b _ _ r _ ih=>
  intro v
  cases v with
  |cons rv v=>
   obtain⟨kv,h1,h2,h3⟩:=ih v
   obtain⟨t,rfl,ht⟩:=r
   cases rv
   obtain⟨i2,v2,tp,_⟩:=I.tuple ht
   obtain⟨key,val,rfl,e1,e2⟩:=Yf.two v2
   refine⟨(b.1,val)::kv, .cons ⟨rfl,e2⟩ h1,by simpa using h2,λj x p hj hp=>?_⟩
   cases j with
   |zero=>
    simp at hj hp
    subst hj hp
    exact⟨t,key,rfl,tp,Bx e1⟩
   |succ j=>exact h3 j x p (by simpa using hj) (by simpa using hp)
theorem Z3 (K:W.Frag)(hK:X.K=K)(hc:X.calm=true):ZZ X (.type "dict") (Ol K):=by
 subst hK
 intro aa s σ H xs us Q I r h
 obtain⟨l,ps,kvs,rfl,hq,hp,q⟩:=h
 obtain⟨u,rfl,ru⟩:=VD r
 cases ru
 obtain⟨its,rv,⟨o,n,ho,gM,hdn,cS⟩,hz⟩:=I.list hq
 obtain⟨kv,h1,h2⟩:=TQ I hp rv
 have aj:=rv.length
 have ft:=Paired.len hp
 refine Hy (knd:=Yi X.prog X.w) (I.ok.hd hc) ho gM cS hdn h2 (by simpa[←aj] using hz) λg tk hd kp=>?_
 refine⟨.ref s.heap.objs.size,_,I.laid (t':=tk) kp (Nat.le_refl _) (show YE X.prog X.w _ g _ (.dK (Uh [] kvs)) from⟨Nat.le_trans (Fj kvs []) (by simp;omega),beq_eq_false_iff_ne.mpr (Ne.symm (Nat.ne_of_lt I.big)),_,KV.all h1 .nil,hd⟩),rfl,q _ (I.hok.fresh (Nat.le_refl _))⟩
def Y2 (ns:List Int):List Int:=ns.mergeSort λa b=>decide (a<=b)
theorem YA (ns:List Int):(Y2 ns).Perm ns:=List.mergeSort_perm ns _
theorem JX (ns:List Int):(Y2 ns).Pairwise (· <= ·):=by
 have h:=List.pairwise_mergeSort (le:=λa b:Int=>decide (a<=b)) (λa b c h1 h2=>by rw[decide_eq_true_eq] at h1 h2⊢;omega) (λa b=>by rw[Bool.or_eq_true,decide_eq_true_eq,decide_eq_true_eq];omega) ns
 exact h.imp λh=>by simpa using h
theorem VO {a b:List Int}(h:a.Perm b)(r:a.Pairwise (· <= ·)):a=Y2 b:=List.Perm.eq_of_pairwise (le:=(· <= ·)) (λ_ _ _ _ h1 h2=>Int.le_antisymm h1 h2) r (JX b) (h.trans (YA b).symm)
theorem Dm:∀{ns:List Int}{vs:List Value},Yf (ns.map V.int) vs->IntsAre vs ns:=fun {ns}=>by
 induction ns with
 |nil=>intro vs h;cases h;exact .nil
 |cons n ns ih=>
  intro vs h
  cases h with
  |cons r t=>
   obtain⟨k,rfl⟩:=r
   exact .cons n k (ih t)
def OQ (K:W.Frag):List V->Hp->VK->Prop:=λxs H Q=>∃ l ns,xs=[.ref l]/\SqL K H l (ns.map V.int)/\ns.length<64/\∀p,H p=none->Q (.ref p) (upd H p (.lst ((Y2 ns).map V.int)))
theorem Zp (K:W.Frag)(hK:X.K=K):ZZ X (.builtin "sorted") (OQ K):=by
 subst hK
 intro aa s σ H xs us Q I r h
 obtain⟨l,ns,rfl,hq,eJ,q⟩:=h
 obtain⟨u,rfl,ru⟩:=VD r
 cases ru
 obtain⟨its,rv,pl,hz⟩:=I.list hq
 have aj:=rv.length
 rw[List.length_map] at aj
 refine sorted_ints pl.isList (Dm rv) (by omega) λout ns' a1 a2 a3=>?_
 obtain⟨e,he⟩:=sortedAll_at s.heap its out
 have en:ns'=Y2 ns:=VO a2 a3
 have v:=GU a1
 rw[en] at v
 have dD:H (s.heap.objs.size+1)=none:=I.hok.fresh (Nat.le_succ _)
 refine⟨.ref (s.heap.objs.size+1),_,I.laid (t':=s.toks) (λb o e=>sortedAll_old e) (Nat.le_succ _) (show YE X.prog X.w _ _ _ (.lst ((Y2 ns).map V.int)) from⟨?_,out.toList,e,v,he⟩),rfl,q _ dD⟩
 rw[List.length_map,(YA ns).length_eq]
 rw[List.length_map] at hz
 exact hz
end
section
variable {o:Obj}
theorem IQ {k:Key}(h:G0 k u=true):Ya (kV k) u:=by
 cases k with
 |inl n=>
  cases u<;> simp[G0,Value.isInt] at h
  subst h
  exact⟨_,rfl⟩
 |inr x=>
  cases u<;> simp[G0,Value.isStrOf] at h
  subst h
  exact⟨_,rfl⟩
theorem KV.key (h:KV kvs vs):∀{i:Nat} (h1:i<kvs.length) (h2:i<vs.length),(kvs[i]).1=(vs[i]).1:=by
 induction h with
 |nil=>intro i h1;exact absurd h1 (Nat.not_lt_zero _)
 |cons r _ ih=>
  intro i h1 h2
  cases i with
  |zero=>exact r.1
  |succ i=>exact ih (Nat.lt_of_succ_lt_succ h1) (Nat.lt_of_succ_lt_succ h2)
end
section
theorem J3 {o:Obj}(hb:b≠a)(e:h.get? b=some o):(sortedHeap h a vs out).get? b=some o:=
 Heap.get?_update_of_ne _ hb.symm (Heap.get?_push_of_some _ (Heap.get?_push_of_some _ (Heap.get?_update_of_ne _ hb.symm e)))
end
section
variable [fd:FdOk Fd]{u:TS}
theorem KI (h:Paired (Xf K H) xs ns):xs=ns.map V.int:=by
 induction h with
 |nil=>rfl
 |cons r _ ih=>rw[List.map_cons,ih,show _=V.int _ from r]
theorem E5 (ns:List Int):Paired (Xf K H) (ns.map V.int) ns:=by
 induction ns with
 |nil=>exact .nil
 |cons n ns ih=>exact .cons rfl ih
theorem KJ {ma:Rs (List Int)}(ha:EvL K Er S OO σ ta Xf ma):Ev K Er S OO OO σ (tCB (OQ K) (Xv ta YK)) (oL (oF Xf)) (ma.bind λas=>chk (as.length<64) (.ok (Y2 as))):=λH Q w s P=>
 ha.run w s FO.tr P λas x H1 s1 w1 q1 ⟨p,xs,e,q,pr⟩ P1=>by
  obtain⟨hl,P2⟩:=PZ.chk P1
  exact⟨p,as,by rw[e],SqL.of (by rw[←KI pr];exact q),hl,Ic w1 (E5 _) P2⟩
theorem Ee {d:List (Int×α)}(pr:Paired (rDP r K H) kvs d):kvs.map (λkv=>kv.1)=(d.map λkx=>kx.1).map Sum.inl:=by
 induction pr with
 |nil=>rfl
 |cons r _ ih=>rw[List.map_cons,List.map_cons,List.map_cons,r.1,ih]
theorem Ny [z:FlatE r](ha:EvB K Er S OO σ ta (rPL r) ma):Ev K Er S OO OO σ (tCB (F8 K) (Xv ta YK)) (oL (oF r)) (ma.bind λas=>.ok as):=λH Q w s P=>
 ha.run w s FO.tr P λas x H1 s1 w1 q1 r9 P1=>by obtain⟨p,xs,e,q,pr⟩:=r9;exact⟨p,xs,by rw[e], .inr (SqT.of q),Ic w1 (Paired.imp2 (λ_ _ h=>z.flat w1.i h) pr) P1⟩
def HF (d ps:List (Int×α)):List (Int×α):=ps.foldl (λd p=>G2 d p.1 p.2) d
theorem Bl {ps:List (Int×α)}(h:Paired (rDP r K H) kvs ps):∀{acc:List (Key×V)}{d:List (Int×α)},Paired (rDP r K H) acc d->Paired (rDP r K H) (Uh acc kvs) (HF d ps):=by
 induction h with
 |nil=>intro acc d h;exact h
 | @cons kv kx _ _ r _ ih=>
  intro acc d h
  have:=KY (k:=kx.1) r.2 h
  rw[←r.1] at this
  exact ih this
theorem Il (hs:Xx h H){ps:List (Int×α)}(p:Paired (rP2 Xf r K h) xs ps):∃kvs,Paired (λp (kv:Key×V)=>∃ t,p= .ref t/\SqT K H t [kV kv.1,kv.2]) xs kvs/\Paired (rDP r K h) kvs ps:=by
 induction p with
 |nil=>exact⟨[], .nil, .nil⟩
 | @cons x pr _ _ q _ ih=>
  obtain⟨kvs,h1,h2⟩:=ih
  obtain⟨t,a,b,e,ht,e1,e2⟩:=q
  have e1:a= .int pr.1:=e1
  subst e1
  exact⟨(.inl pr.1,b)::kvs, .cons ⟨t,e,SqT.of (hs _ _ ht)⟩ h1, .cons ⟨rfl,e2⟩ h2⟩
theorem KC [z:MonoE r]{ma:Rs (List (Int×α))}(ha:EvL K Er S OO σ ta (rP2 Xf r) ma):Ev K Er S OO OO σ (tCB (Ol K) (Xv ta YK)) (oD r) (ma.bind λps=>.ok (HF [] ps)):=λH Q w s P=>
 ha.run w s FO.tr P λps x H1 s1 w1 q1 ⟨p,xs,e,q,pr⟩ P1=>by
  obtain⟨kvs,h1,h2⟩:=Il (Xz (H:=H1) (OO:=OO)) pr
  refine⟨p,xs,kvs,by rw[e],SqL.of q,h1,λd hd=>?_⟩
  have hn:=Jv (OO:=OO) hd (o:=.dK (Uh [] kvs))
  exact P1 (.ref d) [(d, .dK (Uh [] kvs))] _ (XH hd _) (w1.new hd rfl) hn ⟨d,_,rfl,Paired.imp2 (λ_ _ h=>⟨h.1,z.mono hn h.2⟩) (Bl h2 .nil),rfl⟩
end
section
end
section
end
section
variable [fd:FdOk Fd]{u:TS}
theorem Rf [z:MonoO o]{mb:Rs (List α)}(ha:Ev K Er S OO OO1 σ ta (oL o) ma)(hb:∀C,Ev K Er S (C::OO1) (C::aU) σ tb (oL o) mb):Ev K Er S OO aU σ (tOp Wk ta tb) (oL o) (ma.bind λas=>mb.bind λbs=>CG as bs):=λH Q w s P=>by
 refine ha H _ w s ?_
 cases em:ma with
 |bad=>rw[em] at P;exact P
 |err x=>rw[em] at P;exact P
 |ok as=>
  rw[em] at P
  intro v C H1 s1 w1 m1 ho
  refine hb C H1 _ w1 (S.mono _ _ m1 s) ?_
  have P1:PZ Er (FO K OO aU (oL o) Q) H (mb.bind λbs=>CG as bs):=P
  cases en:mb with
  |bad=>rw[en] at P1;exact P1
  |err x=>rw[en] at P1;exact λH2 s2=>P1 H2 (s1.trans s2)
  |ok bs=>
   rw[en] at P1
   intro v2 C2 H2 s2 w2 m2 di
   have P2:PZ Er (FO K OO aU (oL o) Q) H (CG as bs):=P1
   obtain⟨c,hc,P3⟩:=P2.okOf λx=>Jo
   obtain⟨hsz,h2⟩:=Zy hc
   cases h2
   obtain⟨p,xs,Cs,e,q,ec⟩:=ho
   obtain⟨p2,ys,cP,e2,q2,ec2⟩:=di
   subst ec ec2 e e2
   have gS:H2 p=some (.lst xs):=w2.tr (p, .lst xs) (by simp)
   have dm:H2 p2=some (.lst ys):=w2.tr (p2, .lst ys) (by simp)
   refine⟨p,p2,xs,ys,rfl,rfl,gS,dm,by rw[q.len.1,q2.len.1];exact hsz,λa ha=>?_⟩
   have w3:W ((Cs++cP).flatten::aU) H2:=by
    have pm:((cP.flatten::Cs.flatten::aU)).flatten.Perm (((Cs++cP).flatten::aU)).flatten:=by
     simp only[List.flatten_cons,List.flatten_append]
     rw[←List.append_assoc]
     exact List.perm_append_comm.append_right _
    refine(w2.sub (OO':=cP.flatten::Cs.flatten::aU) ?_).of pm.symm
    simp only[List.flatten_cons,List.cons_append]
    exact(List.Sublist.append (List.Sublist.refl _) (List.sublist_cons_self _ _)).trans (List.sublist_cons_self _ _)
   have m3:Xx (hid H2 (((p2, .lst ys)::cP.flatten)::((p, .lst xs)::Cs.flatten)::aU)) (hid H2 ((Cs++cP).flatten::aU)):=ZW (Xx.refl _) λb hb=>by
    rw[XR,List.flatten_append,List.map_append,List.mem_append,List.mem_append] at hb
    rw[XR,XR,List.mem_append,List.mem_append]
    rcases hb with(hb |hb) |hb
    ·exact .inr (.inl (List.mem_cons_of_mem _ hb))
    ·exact .inl (List.mem_cons_of_mem _ hb)
    ·exact .inr (.inr hb)
   have w4:=w3.new ha (o:=.lst (xs++ys)) rfl
   have m4:=Jv (OO:=(Cs++cP).flatten::aU) ha (o:=.lst (xs++ys))
   have pf:((((a, .lst (xs++ys))::(Cs++cP).flatten))::aU).flatten.Perm ([(a,HO.lst (xs++ys))]::(Cs++cP).flatten::aU).flatten:=by simp
   have m5:Xx (hid H2 ((Cs++cP).flatten::aU)) (hid (upd H2 a (.lst (xs++ys))) (((a, .lst (xs++ys))::(Cs++cP).flatten)::aU)):=by
    rw[XU pf];exact m4
   refine P3 (.ref a) ((a, .lst (xs++ys))::(Cs++cP).flatten) _ ((s1.trans s2).trans (XH ha _)) (w4.of pf) (((m1.trans m2).trans m3).trans m5) ⟨a,xs++ys,Cs++cP,rfl,?_,rfl⟩
   exact L2.P3.app (q.imp λ_ _ _ h=>z.mono ((m2.trans m3).trans m5) h) (q2.imp λ_ _ _ h=>z.mono (m3.trans m5) h)
end
theorem int_at {xs:Array Value}(hx:Yf (ns.map V.int) xs.toList)(i:Nat):(ns[i]?=none/\xs[i]?=none)∨∃a t,ns[i]?=some a/\xs[i]?=some (.int a t):=by
 have hl:ns.length=xs.size:=by have:=hx.length;simpa using this
 rcases Nat.lt_or_ge i ns.length with h |h
 ·obtain⟨u,hu,ru⟩:=hx.get (i:=i) (x:= .int ns[i]) (by simp[h])
  obtain⟨t,rfl⟩:=ru
  exact .inr ⟨ns[i],t,by simp[h],by simpa using hu⟩
 ·exact .inl ⟨List.getElem?_eq_none h,by simp;omega⟩
section
end
section
end
section
def O9 (K:W.Frag):List V->Hp->VK->Prop:=λxs H Q=>∃ p ys,xs=[.ref p]/\((SqL K H p ys/\∀l,H l=none->Q (.ref l) (upd H l (.tup ys)))∨(SqT K H p ys/\Q (.ref p) H))
theorem GZ (K:W.Frag)(h:X.K=K):ZZ X (.type "tuple") (O9 K):=by subst h;exact DX
theorem HC [z:MonoE r](ha:EvB K Er S OO σ ta (rV r) ma):EvB K Er S OO σ (tCB (O9 K) (Xv ta YK)) (rPL r) (ma.bind λa=>.ok a):=λH Q w s P=>
 ha.run w s FB.tr P λa x H1 s1 w1 q1 r9 P1=>by obtain⟨p,xs,e,q,pr⟩:=r9;exact⟨p,xs,by rw[e], .inl ⟨SqL.of q,λl hl=>P1 (.ref l) _ (XH hl _) ⟨l,xs,rfl,X7,Paired.imp2 (λ_ _ h=>z.mono (XH hl _) h) pr⟩⟩⟩
def tk (k:List Int):List Key:=k.map Sum.inl
variable [fd:FdOk Fd]{u:TS}
end
section
variable [DecidableEq α]{d:Nat}
end
section
end
section
theorem Inv.turns {t':Nat}{ch:List Addr}(I:Inv X aa σ H s)(k:∀b o,b∉ch->s.heap.get? b=some o->h'.get? b=some o)(hf:∀b∈ch,Br X aa H b):Inv X aa σ H {s with heap:=h',toks:=t'}:=by
 have fj:∀b o,H b=some o->b∉ch:=λb o e z=>by rw[(hf b z).1] at e;cases e
 refine I.step (g':=s.gens) (d':=s.drawn) (ch:=ch) (λb hb=>?_) (λb o _ _ hc e _=>k b o hc e) (λb o _ _ hc e _=>⟨o.slots,k b o hc e⟩)
  (λb o _ e n=>n) (λb o hc e=>⟨o,k b o hc e⟩) (λb xs e=>e) (λb o xs e=>e) (λb ps e=>⟨#[],by rw[e];simp⟩) (λm hm=>?_) (λb v e=>?_) I.bare
 ·obtain⟨f0,f1,f2,f3,f4,f5⟩:=hf b hb
  exact⟨f3,f1,f4,f5⟩
 ·obtain⟨o,es,ep,ho,r⟩:=hm
  exact⟨o,es,ep,k _ o (λz=>(hf _ z).2.1 rfl) ho,r⟩
 ·refine(I.hok b v e).stay (λc o hc q=>k c o ?_ q) (λc q=>q) λc xs q=>q
  rcases hc with z |z
  ·rw[z];exact fj b v e
  ·exact fj c _ z
end
theorem Aq {u x:Addr}(h:b∉ [z,t,u,v,x]):b≠z/\b≠t/\b≠u/\b≠v/\b≠x:=⟨λe=>h (e▸ .head _),λe=>h (e▸ .tail _ (.head _)),λe=>h (e▸ .tail _ (.tail _ (.head _))),λe=>h (e▸ .tail _ (.tail _ (.tail _ (.head _)))),λe=>h (e▸ .tail _ (.tail _ (.tail _ (.tail _ (.head _)))))⟩
theorem Ab {p:Addr->Prop}{u x:Addr}(h1:p z)(h2:p t)(h3:p u)(h4:p v)(h5:p x):∀b∈[z,t,u,v,x],p b:=
 List.forall_mem_cons.mpr ⟨h1,List.forall_mem_cons.mpr ⟨h2,List.forall_mem_cons.mpr ⟨h3,List.forall_mem_cons.mpr ⟨h4,List.forall_mem_cons.mpr ⟨h5,λ_ h=>(List.not_mem_nil h).elim⟩⟩⟩⟩⟩
section
variable {fO:Pos}
end
section
end
section
end
section
variable [fd:FdOk Fd]{u:TS}
end
section
variable {u:TS}
end
section
theorem Gw:OpR X (compareOp .IsNot) (λx y H Q=>∃ a b:Bool,x= .bl a/\y= .bl b/\Q (.bl (!(a==b))) H):=by
 intro aa s σ H x y v u Q I rx ry h
 obtain⟨a,b,rfl,rfl,q⟩:=h
 cases rx
 cases ry
 show wpAny _ _ (isSame (Value.bool a) (Value.bool b) >>= λr=>pure (Value.bool !r)) _ _ _
 have e:isSame (Value.bool a) (Value.bool b)=pure (a==b):=by cases a<;> cases b<;> rfl
 rw[e]
 exact wpAny_bind (wpAny_pure (wpAny_pure ⟨.bl (!(a==b)),H,I,rfl,q⟩))
end
section
theorem DP {b:Bool}{ma:Rs Bool}(ha:EvB K Er S OO σ ta XB ma):EvB K Er S OO σ (tOp (λx y H Q=>∃ a b:Bool,x= .bl a/\y= .bl b/\Q (.bl (!(a==b))) H) ta (tC (.bl b))) XB (ma.bind λa=>.ok (!(a==b))):=λH Q w s P=>
 ha.run w s FB.tr P λa x H1 s1 w1 q1 r1 P1=>⟨a,b,r1,rfl,P1 _ H1 (Xx.refl _) rfl⟩
end
section
variable {o:Obj}
end
section
end
section
variable {OO3:List (List XZ)}{ζ:Type}
variable [fd:FdOk Fd]{u:TS}
def oT3 (o:OE α)(q:OE β)(t:OE γ):OE (α×β×γ):=λK h v a C=>∃ p x y z C1 C2 C3,v= .ref p/\h p=some (.tup [x,y,z])/\o K h x a.1 C1/\q K h y a.2.1 C2/\t K h z a.2.2 C3/\C=C1++(C2++C3)
instance {o:OE α}{q:OE β}{t:OE γ}[m:MonoO o][n:MonoO q][k:MonoO t]:MonoO (oT3 o q t):=⟨λs r9=>by obtain⟨p,x,y,z,C1,C2,C3,e,h,h1,h2,h3,c⟩:=r9;exact⟨p,x,y,z,C1,C2,C3,e,s _ _ h,m.mono s h1,n.mono s h2,k.mono s h3,c⟩⟩
instance {o:OE α}{q:OE β}{t:OE γ}[m:FlatO o][n:FlatO q][k:FlatO t]:FlatO (oT3 o q t):=⟨λs r9=>by obtain⟨p,x,y,z,C1,C2,C3,e,h,h1,h2,h3,c⟩:=r9;exact⟨p,x,y,z,C1,C2,C3,e,s _ _ h rfl,m.flat s h1,n.flat s h2,k.flat s h3,c⟩⟩
instance {o:OE α}{q:OE β}{t:OE γ}{ro:Enc α}{rq:Enc β}{rt:Enc γ}[m:FrzC o ro][n:FrzC q rq][k:FrzC t rt]:FrzC (oT3 o q t) (rP3 ro rq rt):=⟨λ⟨p,x,y,z,C1,C2,C3,e,h,h1,h2,h3,c⟩ s hc=>by
 subst c
 exact⟨p,x,y,z,e,s _ _ h,m.frz h1 s λc hm=>hc c (by simp[hm]),n.frz h2 s λc hm=>hc c (by simp[hm]),k.frz h3 s λc hm=>hc c (by simp[hm])⟩⟩
end
section
variable {ζ:Type}
variable [fd:FdOk Fd]{u:TS}
theorem Kr {ma:Rs Bool}(ha:EvB K Er S OO σ ta XB ma):EvB K Er S OO σ (tCB (λxs H Q=>(∃i,xs=[.int i]/\Q (.int i) H)∨∃k,xs=[.bl k]/\Q (.int (if k then 1 else 0)) H) (Xv ta YK)) Xf (ma.bind λb=>.ok (if b=true then(1:Int) else 0)):=λH Q w s P=>
 ha.run w s FB.tr P λb x H1 s1 w1 q1 r1 P1=>.inr ⟨b,by rw[show x= .bl b from r1],P1 _ H1 (Xx.refl _) rfl⟩
end
section
variable {ζ:Type}
variable [fd:FdOk Fd]{u:TS}
end
section
variable {ζ:Type}
variable [fd:FdOk Fd]{u:TS}
end
end L2
namespace L2
open PySem
def Inc (xs:Array Nat):Prop:=xs.toList.Pairwise (· < ·)
theorem Inc.lt {xs:Array Nat}(h:Inc xs){i j v u:Nat}(b8:i<j)(hi:xs[i]?=some v)(hj:xs[j]?=some u):v<u:=by
 rw[←Array.getElem?_toList] at hi hj
 obtain⟨a,rfl⟩:=List.getElem?_eq_some_iff.mp hi
 obtain⟨b,rfl⟩:=List.getElem?_eq_some_iff.mp hj
 exact List.pairwise_iff_getElem.mp h i j a b b8
theorem Inc.le {xs:Array Nat}(h:Inc xs){i j v u:Nat}(b8:i<=j)(hi:xs[i]?=some v)(hj:xs[j]?=some u):v<=u:=by
 rcases Nat.lt_or_eq_of_le b8 with z |z
 ·exact Nat.le_of_lt (h.lt z hi hj)
 ·subst z;rw[hi] at hj;cases hj;exact Nat.le_refl _
theorem F4 {xs:Array Nat}(hx:Inc xs)(j:Nat):∀(fuel lo hi:Nat),hi-lo<=fuel->lo<=hi->hi<=xs.size->(∀i v,i<lo->xs[i]?=some v->v<j)->(∀i v,hi<=i->xs[i]?=some v->j<=v)->
  SetTable.below.go xs j fuel lo hi<=hi/\(∀i v,i<SetTable.below.go xs j fuel lo hi->xs[i]?=some v->v<j)/\(∀i v,SetTable.below.go xs j fuel lo hi<=i->xs[i]?=some v->j<=v)
 |0,lo,hi,h,h1,h2,a,b=>by
  have e:lo=hi:=by omega
  subst e
  exact⟨Nat.le_refl _,a,b⟩
 |fuel+1,lo,hi,h,h1,h2,a,b=>by
  unfold SetTable.below.go
  by_cases av:lo<hi
  ·have hm:(lo+hi)/2<xs.size:=by omega
   have hg:xs[(lo+hi)/2]?=some (xs.getD ((lo+hi)/2) j):=by simp[hm]
   simp only[if_pos av]
   by_cases hc:xs.getD ((lo+hi)/2) j<j
   ·rw[if_pos hc]
    exact F4 hx j fuel _ hi (by omega) (by omega) h2 (λi v bM e=>Nat.lt_of_le_of_lt (hx.le (by omega) e hg) hc) b
   ·rw[if_neg hc]
    obtain⟨p,q,r⟩:=F4 hx j fuel lo ((lo+hi)/2) (by omega) (by omega) (by omega) a (λi v bM e=>Nat.le_trans (Nat.le_of_not_lt hc) (hx.le bM hg e))
    exact⟨by omega,q,r⟩
  ·simp only[if_neg av]
   have e:lo=hi:=by omega
   subst e
   exact⟨Nat.le_refl _,a,b⟩
theorem Hs {xs:Array Nat}(hx:Inc xs)(j:Nat):SetTable.below xs j<=xs.size/\(∀i v,i<SetTable.below xs j->xs[i]?=some v->v<j)/\(∀i v,SetTable.below xs j<=i->xs[i]?=some v->j<=v):=
 F4 hx j xs.size 0 xs.size (by omega) (Nat.zero_le _) (Nat.le_refl _) (λi v h=>absurd h (Nat.not_lt_zero _)) λi v h e=>by
  rw[Array.getElem?_eq_none h] at e;cases e
theorem HV {xs:Array Nat}(hx:Inc xs){j:Nat}(hn:xs[SetTable.below xs j]?≠some j):Inc (SetTable.insertAt xs (SetTable.below xs j) j):=by
 obtain⟨a,b,c⟩:=Hs hx j
 generalize SetTable.below xs j=p at*
 unfold Inc
 rw[SetTable.toList_insertAt,List.pairwise_append,List.pairwise_cons]
 have hd:∀u∈xs.toList.drop p,j<u:=λu hu=>by
  obtain⟨k,e⟩:=List.getElem?_of_mem hu
  rw[List.getElem?_drop,Array.getElem?_toList] at e
  have h1:=c (p+k) u (Nat.le_add_right _ _) e
  rcases Nat.lt_or_eq_of_le h1 with z |z
  ·exact z
  ·subst z
   rcases Nat.eq_zero_or_pos k with z |z
   ·subst z;exact absurd e hn
   ·have hs:p<xs.size:=by
     have:=(Array.getElem?_eq_some_iff.mp e).1
     omega
    have g:xs[p]?=some xs[p]:=by simp[hs]
    have h2:=c p _ (Nat.le_refl _) g
    have h3:=hx.lt (show p<p+k by omega) g e
    omega
 have ht:∀u∈xs.toList.take p,u<j:=λu hu=>by
  obtain⟨k,e⟩:=List.getElem?_of_mem hu
  rw[List.getElem?_take] at e
  split at e
  ·rename_i hk
   rw[Array.getElem?_toList] at e
   exact b k u hk e
  ·cases e
 refine⟨List.Pairwise.sublist (List.take_sublist _ _) hx,⟨hd,List.Pairwise.sublist (List.drop_sublist _ _) hx⟩,λu hu y hy=>?_⟩
 rcases List.mem_cons.mp hy with z |z
 ·rw[z];exact ht u hu
 ·exact Nat.lt_trans (ht u hu) (hd y z)
structure TOk (t:SetTable)(led:Bool):Prop where
 inc:Inc t.place
 dum:t.dummies= #[]
 led:t.led=led
theorem TOk.fresh (f m:Nat)(led:Bool):TOk (.fresh f m led) led:=⟨List.Pairwise.nil,rfl,rfl⟩
theorem TOk.standIn {t:SetTable}{led:Bool}(h:TOk t led)(n:Nat):TOk (t.standIn n) led:=⟨by unfold Inc SetTable.standIn;simpa using List.pairwise_lt_range,rfl,h.led⟩
theorem D0 {t:SetTable}(hd:t.dummies= #[])(j:Nat):(t.slot j= .empty->t.place[SetTable.below t.place j]?≠some j)/\t.slot j≠ .dummy:=by
 unfold SetTable.slot
 have hh:SetTable.has t.dummies j=false:=by rw[hd];simp[SetTable.has]
 simp only[hh]
 by_cases h:t.place[SetTable.below t.place j]?=some j
 ·simp[h]
 ·simp[h]
theorem GV {t:SetTable}(hd:t.dummies= #[]){f:Nat->Int}{h:Int}{d:Option Nat}:∀(fuel:Nat) (p:SetTable.Probe),p.dummy=none->SetTable.probe.go t f h fuel p=some (.empty j d)->d=none/\t.slot j= .empty
 |0,p,_,e=>by cases e
 |fuel+1,p,hp,e=>by
  unfold SetTable.probe.go at e
  have adv:(t.advance p).dummy=none:=by unfold SetTable.advance;split<;> exact hp
  cases hs:t.slot p.j with
  |empty=>rw[hs] at e;cases e;exact⟨hp,hs⟩
  |dummy=>exact absurd hs (D0 hd _).2
  |live i=>
   rw[hs] at e
   dsimp only at e
   split at e
   ·cases e
   ·exact GV hd fuel _ adv e
theorem Iu {t:SetTable}{led:Bool}(h:TOk t led)(es:Array (Int×Value))(k:Int)(x:Value):TOk (layNew t es k x).2.1 led:=by
 unfold layNew
 cases hf:t.freeSlot k with
 |none=>exact h.standIn _
 |some q=>
  obtain⟨sl,wd⟩:=q
  dsimp only
  have hk:TOk (t.put sl).1 led:=by
   unfold SetTable.freeSlot at hf
   cases hp:t.probe (λ_=>k+1) k (t.probeStart k) with
   |none=>rw[hp] at hf;cases hf
   |some m=>
    rw[hp] at hf
    cases m with
    |candidate=>cases hf
    |empty j d=>
     obtain⟨rfl,hs⟩:=GV h.dum _ _ rfl hp
     cases hf
     have hh:SetTable.has t.dummies j=false:=by rw[h.dum];simp[SetTable.has]
     refine⟨HV h.inc ((D0 h.dum j).1 hs),?_,h.led⟩
     show(if SetTable.has t.dummies j then _ else t.dummies)= #[]
     rw[hh];exact h.dum
  unfold SetTable.orStandIn
  split
  ·exact hk
  ·exact hk.standIn _
theorem BL (h:TOk t led)(es:Array (Int×Value))(k:Nat):TOk (relayAll t es k).2.1 led:=by
 unfold relayAll
 cases hr:t.relaid (es.map (·.1)) k with
 |none=>exact h.standIn _
 |some q=>
  obtain⟨t',ord⟩:=q
  dsimp only
  split
  ·unfold SetTable.relaid SetTable.laid at hr
   cases ho:SetTable.layClean (SetTable.sizeAbove k-1) (es.map (·.1)) with
   |none=>rw[ho] at hr;cases hr
   |some ow=>
    rw[ho] at hr
    cases hr
    refine⟨?_,rfl,h.led⟩
    unfold Inc
    show List.Pairwise (· < ·) (List.map (·.1) ((List.range _).filterMap λj=>(ow.getD j none).map (j, ·)))
    rw[List.map_filterMap]
    have e:(λj=>Option.map (λx:Nat×Nat=>x.1) ((ow.getD j none).map (j, ·)))=λj=>if(ow.getD j none).isSome then some j else none:=by
     funext j
     cases ow.getD j none<;> rfl
    rw[e]
    refine List.Pairwise.filterMap _ (λa a' av b hb b' dA=>?_) List.pairwise_lt_range
    split at hb
    ·split at dA
     ·cases hb;cases dA;exact av
     ·cases dA
    ·cases hb
  ·exact h.standIn _
end L2
namespace L2
open PySem PySem.Spec PyProof.Rows
theorem Nf (h:IntsAre vs ms)(k:Int):(∃v∈vs,Value.isInt k v=true)↔k∈ms:=by
 induction h with
 |nil=>simp
 |cons n t _ ih=>
  rw[List.mem_cons, ←ih]
  constructor
  ·rintro⟨v,hv,e⟩
   rcases List.mem_cons.mp hv with z |z
   ·subst z;obtain⟨t',e'⟩:=Value.isInt_shape e;cases e';exact .inl rfl
   ·exact .inr ⟨v,z,e⟩
  ·rintro(z | ⟨v,hv,e⟩)
   ·subst z;exact⟨_, .head _,beq_self_eq_true _⟩
   ·exact⟨v, .tail _ hv,e⟩
theorem Ca (p:vs'.Perm vs):∀{ms:List Int},IntsAre vs ms->∃ms',IntsAre vs' ms'/\ms'.Perm ms:=by
 induction p with
 |nil=>intro ms h;exact⟨ms,h, .refl _⟩
 |cons x _ ih=>
  intro ms h
  cases h with
  |cons n t h=>obtain⟨m,a,b⟩:=ih h;exact⟨n::m, .cons n t a,b.cons _⟩
 |swap x y l=>
  intro ms h
  cases h with
  |cons n t h=>cases h with
   |cons m u h=>exact⟨_, .cons m u (.cons n t h), .swap ..⟩
 |trans _ _ ih1 ih2=>
  intro ms h
  obtain⟨m,a,b⟩:=ih2 h
  obtain⟨m',a',b'⟩:=ih1 a
  exact⟨m',a',b'.trans b⟩
theorem MT (h:IntsAre vs ms)(k:Int)(t:Tok):IntsAre (vs++[.int k t]) (ms++[k]):=by
 induction h with
 |nil=>exact .cons k t .nil
 |cons n u _ ih=>exact .cons n u ih
def dd (l:List Int):List Int:=l.foldl step_dedup []
structure SCore (prog:Program)(w:World)(es:Array (Int×Value))(t:SetTable)(ns:List Int):Prop where
 el:ElemsOf (intKind prog w) es.toList
 pm:∃ms,IntsAre (es.toList.map (·.2)) ms/\ms.Perm ns
 sz:es.size<scanBound
 fit:t.fits es.size=true
 tok:TOk t (!w.params.followText "set-order")
def DE (prog:Program)(w:World)(h:Heap)(a:Addr)(ns:List Int):Prop:=
 ∃o es ep t,h.get? a=some o/\o.ExactSet/\o.data= .set es ep t/\SCore prog w es t ns
section
theorem SCore.len {es:Array (Int×Value)}(c:SCore prog w es t ns):es.size=ns.length:=by
 obtain⟨ms,a,b⟩:=c.pm
 rw[←b.length_eq, ←IntsAre.length a,List.length_map,Array.length_toList]
theorem SCore.mem {es:Array (Int×Value)}(c:SCore prog w es t ns)(k:Int):(∃e∈es.toList,Value.isInt k e.2=true)↔k∈ns:=by
 obtain⟨ms,a,b⟩:=c.pm
 rw[←b.mem_iff, ←Nf a k]
 constructor
 ·rintro⟨e,h,z⟩;exact⟨e.2,List.mem_map_of_mem h,z⟩
 ·rintro⟨v,h,z⟩
  obtain⟨e,h1,rfl⟩:=List.mem_map.mp h
  exact⟨e,h1,z⟩
theorem SCore.perm {es:Array (Int×Value)}(c:SCore prog w es t ns)(p:es'.toList.Perm es.toList)(f:t'.fits es'.size=true)(k:TOk t' (!w.params.followText "set-order")):SCore prog w es' t' ns:=by
 obtain⟨ms,a,b⟩:=c.pm
 obtain⟨m,a',b'⟩:=Ca (p.map (·.2)) a
 have e:es'.size=es.size:=by rw[←Array.length_toList,p.length_eq,Array.length_toList]
 exact⟨c.el.perm p,⟨m,a',b'.trans b⟩,by rw[e];exact c.sz,f,k⟩
theorem DE.put {h:Heap}{o:Obj}{es es':Array (Int×Value)}{ep:Nat}{t t':SetTable}(ho:h.get? a=some o)(hx:o.ExactSet)(hd:o.data= .set es ep t):
  (h.update a (Obj.putSet es' t')).get? a=some {o with data:=.set es' (ep+1) t'}/\(SCore prog w es' t' ns->DE prog w (h.update a (Obj.putSet es' t')) a ns):=by
 have g:=Heap.get?_update_self (Obj.putSet es' t') ho (by rw[putSet_of es' t' hd];rfl)
 rw[putSet_of es' t' hd] at g
 exact⟨g,λc=>⟨_,_,_,_,g,hx,rfl,c⟩⟩
theorem RI {k:Int}{tk:Tok}{Q:Bool->Shared->Prop}(hS:DE prog w s.heap a ns)(hr:ns.length+1<scanBound)
    (h:∀b h',Heap.SameBut a s.heap h'->DE prog w h' a (step_dedup ns k)->Q b {s with heap:=h'}):wpAny (model prog w) A (setAddHashed a (.int k tk) ((intKind prog w).hash k)) Q E s:=by
  obtain⟨o,es,ep,t,ho,hx,hd,c⟩:=id hS
  have hk:(intKind prog w).is k (.int k tk)=true:=intKind_is _ _ _ _
  unfold setAddHashed setAddHashedIn
  refine wpAny_holding (wpAny_bind (wpAny_setState_of ho hd c.fit ?_))
  dsimp only
  rw[byScan_of (knd:=intKind prog w) rfl c.sz c.el]
  simp only[↓reduceIte]
  unfold setAddByScan
  refine wpAny_bind (wpAny_bind (wpAny_rule (wpAny_bind (wpAny_setScan_of hk ho hd c.fit c.el ?_))))
  cases hf:List.findIdx? (λe=>(intKind prog w).is k e.2) es.toList with
  |some j=>
    obtain⟨hj,hp,_⟩:=List.findIdx?_eq_some_iff_getElem.mp hf
    have hm:k∈ns:=(c.mem k).mp ⟨_,List.getElem_mem hj,hp⟩
    have e:step_dedup ns k=ns:=if_pos (List.any_eq_true.mpr ⟨k,hm,by simp⟩)
    exact wpAny_pure (wpAny_pure (h _ s.heap (Heap.SameBut.refl a s.heap) (by rw[e];exact hS)))
  |none=>
    have hm:k∉ns:=λhm=>by
      obtain⟨e,he,hp⟩:=(c.mem k).mpr hm
      have:=List.findIdx?_eq_none_iff.mp hf e he
      rw[show(intKind prog w).is k e.2=true from hp] at this
      cases this
    have e:step_dedup ns k=ns++[k]:=if_neg (λz=>by
      obtain⟨x,hx,ex⟩:=List.any_eq_true.mp z
      rw[beq_iff_eq] at ex;subst ex;exact hm hx)
    rw[e] at h
    dsimp only
    have hg:∀(b:Bool) {s₁:Shared}{Q':Unit->Shared->Prop},Q' () s₁->wpAny (model prog w) A (match b with |true=>rule "set.scan.the-table-gave-way" |false=>pure ()) Q' E s₁:=
      λb s₁ Q' q=>by cases b<;> first |exact wpAny_pure q |exact wpAny_rule q
    have hp:=layNew_perm t es ((intKind prog w).hash k) (.int k tk)
    have d8:=layNew_fits t es ((intKind prog w).hash k) (.int k tk)
    have ht:=Iu c.tok es ((intKind prog w).hash k) (.int k tk)
    generalize layNew t es ((intKind prog w).hash k) (.int k tk)=L at hp d8 ht⊢
    obtain⟨cF,t1,wd,gv⟩:=L
    dsimp only at hp d8 ht⊢
    have hsz:cF.size=es.size+1:=by rw[←Array.length_toList,hp.length_eq];simp
    have c1:SCore prog w cF t1 (ns++[k]):=by
      obtain⟨ms,i1,i2⟩:=c.pm
      rw[Array.toList_push] at hp
      have dm:=hp.map (·.2)
      rw[List.map_append] at dm
      obtain⟨m,j1,j2⟩:=Ca dm (MT i1 k tk)
      exact⟨(c.el.push hk rfl).perm hp,⟨m,j1,j2.trans (i2.append_right _)⟩,by rw[hsz,c.len];exact hr,d8,ht⟩
    refine wpAny_bind (hg gv ?_)
    have tail:∀{Q1:Option Bool->Shared->Prop},(∀h',Heap.SameBut a s.heap h'->DE prog w h' a (ns++[k])->Q1 (some true) {s with heap:=h'})->wpAny (model prog w) A (do
        storeSet a cF t1
        if(!wd&&t1.tooFull)=true then do
            (match(relayAll t1 cF (SetTable.grown cF.size)).2.2 with |true=>rule "set.scan.the-table-gave-way" |false=>pure ())
            storeSet a (relayAll t1 cF (SetTable.grown cF.size)).1 (relayAll t1 cF (SetTable.grown cF.size)).2.1
            pure (some true)
          else pure (some true)) Q1 E s:=fun {Q1} q=>by
      obtain⟨g1,s1⟩:=DE.put (prog:=prog) (w:=w) (ns:=ns++[k]) (es':=cF) (t':=t1) ho hx hd
      refine wpAny_bind (wpAny_storeSet_of ho hd ?_ (fits_of_scanBound c1.sz))
      split
      . refine wpAny_bind (hg _ ?_)
        have p2:=relayAll_perm t1 cF (SetTable.grown cF.size)
        have f2:=relayAll_fits t1 cF (SetTable.grown cF.size)
        have k2:=BL ht cF (SetTable.grown cF.size)
        generalize relayAll t1 cF (SetTable.grown cF.size)=Z at p2 f2 k2⊢
        obtain⟨es2,t2,gv2⟩:=Z
        have c2:=c1.perm p2 f2 k2
        refine wpAny_bind (wpAny_storeSet_of g1 rfl ?_ (fits_of_scanBound c2.sz))
        exact wpAny_pure (q _ ((Heap.SameBut.update s.heap a _).trans (Heap.SameBut.update _ a _)) ((DE.put g1 hx rfl).2 c2))
      . exact wpAny_pure (q _ (Heap.SameBut.update s.heap a _) (s1 c1))
    have fin:∀h',Heap.SameBut a s.heap h'->DE prog w h' a (ns++[k])->Q true {s with heap:=h'}:=λh' sb z=>h true h' sb z
    split
    . refine wpAny_bind ?_
      rw[hashByValue_scannable 8 (x:=.int k tk) rfl]
      refine wpAny_pure ?_
      exact tail λh' sb z=>wpAny_pure (fin h' sb z)
    . refine wpAny_bind (wpAny_pure ?_)
      exact tail λh' sb z=>wpAny_pure (fin h' sb z)
end
section
theorem DE.at (x:DE prog w h a ns)(k:∀o,h.get? a=some o->h'.get? a=some o):DE prog w h' a ns:=
 let ⟨o,es,ep,t,ho,r⟩:=x;⟨o,es,ep,t,k o ho,r⟩
theorem SH (l:List Int)(k:Int):dd (l++[k])=step_dedup (dd l) k:=by unfold dd;rw[List.foldl_append];rfl
theorem Cj (l:List Int):(dd l).length<=l.length:=by
 suffices h:∀(l a:List Int),(l.foldl step_dedup a).length<=a.length+l.length by unfold dd;simpa using h l []
 intro l
 induction l with
 |nil=>intro a;exact Nat.le_refl _
 |cons x l ih=>
  intro a
  refine Nat.le_trans (ih _) ?_
  rw[step_length,List.length_cons]
  split<;> omega
theorem Ps {l S:Addr}{items:List Value}(hh:A.in1.handled=none)(hi:IntsAre items ns)(hb:ns.length+1<scanBound)(h1:S≠I)(h2:S≠l)(h3:l≠I):
  ∀(k i:Nat) (s:Shared),items.length-i=k->i<=items.length->s.heap.IsListIter I l i->s.heap.IsList l items.toArray->DE prog w s.heap S (dd (ns.take i))->
   (∀h' tk,DE prog w h' S (dd ns)->(∀b o,b≠S->b≠I->s.heap.get? b=some o->h'.get? b=some o)->R (.ok (.ret .none)) {s with heap:=h',toks:=tk})->
   codeAny (model prog w) A (.builtin "set.update.loop" ⟨[.ref S, .ref I],[]⟩) R s:=by
 have hln:=IntsAre.length hi
 intro k
 induction k with
 |zero=>
  intro i s hk hle hit hl hS hR
  have e:i=items.length:=by omega
  subst e
  refine codeAny_builtin PyProof.Rows.F.entry_set_update_loop ?_
  rw[Around.under_plainId PyProof.Rows.F.plain_set_update_loop _]
  show wpAny _ A.in1 (pyNext (.ref I) >>= _) _ _ s
  refine wpAny_bind (wpAny_pyNext_list_end hh hit hl (by simp) λh' ext=>?_)
  show wpAny _ A.in1 (ret Value.none) _ _ _
  rw[List.take_of_length_le (by omega)] at hS
  exact wpAny_pure (hR h' _ (hS.at λo ho=>ext S o h1 ho) λb o _ hbI e=>ext b o hbI e)
 |succ k ih=>
  intro i s hk hle hit hl hS hR
  have av:i<items.length:=by omega
  obtain⟨tk,ev⟩:=IntsAre.int_at hi i items[i] (List.getElem?_eq_getElem av)
  have fv:i<ns.length:=by omega
  have eg:ns.getD i 0=ns[i]:=by simp[fv]
  rw[eg] at ev
  refine codeAny_builtin PyProof.Rows.F.entry_set_update_loop ?_
  rw[Around.under_plainId PyProof.Rows.F.plain_set_update_loop _]
  show wpAny _ A.in1 (pyNext (.ref I) >>= _) _ _ s
  refine wpAny_bind (wpAny_pyNext_list_item hit hl (x:=items[i]) (by simp[av]) λh' hit' sb=>?_)
  rw[ev]
  show wpAny _ A.in1 (holding [Value.int ns[i] tk] (setAdd S (.int ns[i] tk)) >>= _) _ _ _
  refine wpAny_bind (wpAny_holding ?_)
  unfold setAdd
  refine wpAny_holding (wpAny_bind ((intKind prog w).pyHash (k:=ns[i]) (intKind_is _ _ _ _) ?_))
  have gZ:DE prog w h' S (dd (ns.take i)):=hS.at λo ho=>(sb.2 S h1).trans ho
  refine RI (s:={s with heap:=h',toks:=s.toks+1}) gZ (by have:=Cj (ns.take i);rw[List.length_take] at this;omega) λb bv sb2 hS2=>?_
  rw[←SH, ←List.take_succ_eq_append_getElem fv] at hS2
  refine wpAny_pure ⟨plainId_quiet PyProof.Rows.F.plain_set_update_loop _,ih (i+1) _ (by omega) av (hit'.at λo ho=>(sb2.2 I (Ne.symm h1)).trans ho) (hl.at λo ho=>(sb2.2 l (Ne.symm h2)).trans ((sb.2 l h3).trans ho)) hS2 λh3' tk' hS3 keep=>?_⟩
  exact hR h3' tk' hS3 λb o hbS hbI e=>keep b o hbS hbI ((sb2.2 b hbS).trans ((sb.2 b hbI).trans e))
theorem NS (v:Value)
  (h:Q (.ref s.heap.objs.size) {s with heap:=s.heap.push {cls:=.type "set",dict:=none,data:=.set #[] 0 (.fresh 0 0 (!w.params.followText "set-order"))}}):
  codeAny (model prog w) A (.call (.builtin "set.__new__") ⟨[.type "set",v],[]⟩) (wants Q E) s:=by
 refine codeAny_of_tree ?_
 show wpAny _ A.in1 (do checkBuiltinCall "set.__new__" ⟨[.type "set",v],[]⟩;again (.builtin "set.__new__" ⟨[.type "set",v],[]⟩)) _ _ s
 refine wpAny_bind (wpAny_of_eq (F.newCall_set_1 v) (wpAny_pure ⟨plainId_quiet F.plain_set_new _,codeAny_builtin F.entry_set_new ?_⟩))
 rw[Around.under_plainId F.plain_set_new _]
 unfold Builtin.«set.__new__» Builtin.Frozenset.newClass
 have ar:=sub_set_self
 obtain⟨hp,g,d,tk,os⟩:=s
 dsimp only
 wp_walk
 refine wpAny_askSetting (wpAny_pure ?_)
 dsimp only
 simp only[newObj]
 refine wpAny_bind (wpAny_alloc (wpAny_pure ?_))
 exact wpAny_pure h
set_option maxHeartbeats 3200000 in
theorem IC (hh:A.handled=none)(hl:s.heap.IsList l items.toArray)(hi:IntsAre items ns)(hb:ns.length+1<scanBound)
  (h:∀h' tk,DE prog w h' s.heap.objs.size (dd ns)->(∀b o,s.heap.get? b=some o->h'.get? b=some o)->Q (.ref s.heap.objs.size) {s with heap:=h',toks:=tk}):
  wpAny (model prog w) A (call (.type "set") [.ref l]) Q E s:=by
 obtain⟨c,tl,hmro⟩:=F.called_set.mro
 have hmade:=F.called_set.made
 have ar:=F.called_set.sub
 refine wpAny_call (codeAny_of_tree ?_)
 show wpAny _ _ (callAny (.type "set") _) _ _ _
 refine wpAny_pure ⟨Code.quiet_builtin _ (by decide+kernel),codeAny_builtin F.entry_type_call ?_⟩
 rw[Around.under_plain (weight_type_call_type "set" [.ref l] []) rfl]
 have h1:=F.called_set.notType
 have h2:=F.called_set.canCreate
 have hct:=F.typeCall_set_1 (.ref l)
 repeat (any_goals (first |assumption |wp_step))
 generalize e9:({cls:=.type "set",dict:=none,data:=.set #[] 0 (.fresh 0 0 (!w.params.followText "set-order"))}:Obj)=ob
 refine codeAny_mono (NS (.ref l) (E:=E) (Q:=λobj s₁=>obj= .ref s.heap.objs.size/\s₁={s with heap:=s.heap.push ob}) ⟨rfl,by rw[e9]⟩) λr s₁ hr=>?_
 cases r with
 |error e=>exact hr
 |ok fl=>
  cases fl with
  |ret obj=>
   obtain⟨rfl,rfl⟩:=hr
   have hS:(s.heap.push ob).get? s.heap.objs.size=some ob:=Heap.get?_push_size _ (by rw[←e9];rfl)
   have hT:Shared.TypeIs {s with heap:=s.heap.push ob} (.ref s.heap.objs.size) "set":=⟨_,hS,by rw[←e9]⟩
   have hli:=F.called_set.init.lookup
   have hbi:=F.called_set.init.bind (.ref s.heap.objs.size)
   repeat (any_goals (first |assumption |wp_step))
   refine codeAny_mono (codeAny_call_builtin (R:=wants (λr s₂=>r= .none/\∃h' tk,s₂={s with heap:=h',toks:=tk}/\DE prog w h' s.heap.objs.size (dd ns)/\(∀b o,s.heap.get? b=some o->h'.get? b=some o)) E) F.called_set.init.plain F.entry_set_init (check_set_init_1 hT ?_)) λr₂ s₂ hr₂=>?_
   ·have hS0:DE prog w (s.heap.push ob) s.heap.objs.size []:=⟨_, #[],0,_,hS,by rw[←e9];exact⟨rfl,rfl,rfl⟩,by rw[←e9],⟨λe he=>by simp at he,⟨[], .nil, .refl _⟩,by decide,by rfl, .fresh ..⟩⟩
    obtain⟨ol,hol,gM,nl,hdl⟩:=hl
    obtain⟨ocls,g9,odata,fU⟩:=ol
    simp only at gM hdl
    subst gM;subst hdl
    have hol':(s.heap.push ob).get? l=some {cls:=.type "list",dict:=g9,data:=.seq items.toArray nl,slots:=fU}:=Heap.get?_push_of_some _ hol
    have hsls:=F.sub_list_set
    have hslf:=F.sub_list_frozenset
    have hne:(Value.type "list" ==Value.type "dict")=false:=by decide
    have hl1:(s.heap.push ob).IsList l items.toArray:=⟨_,hol',rfl,nl,rfl⟩
    subst e9
    unfold Builtin.«set.__init__» noKeywords Builtin.Frozenset.updateFrom
    generalize hPI:pyIter=PI
    wp_walk
    subst hPI
    refine wpAny_pyIter_list hl1 ?_
    refine wpAny_bind (wpAny_runValue ?_)
    have hlS:l<s.heap.objs.size:=Heap.lt_size hol
    generalize e9:({cls:=.type "set",dict:=none,data:=.set #[] 0 (.fresh 0 0 (!w.params.followText "set-order"))}:Obj)=ob at*
    have hI:(s.heap.push ob).objs.size=s.heap.objs.size+1:=Heap.size_push ..
    refine Ps (ns:=ns) (l:=l) (by simp[hh]) hi hb (by rw[hI];exact Nat.ne_of_lt (Nat.lt_succ_self _)) (Nat.ne_of_gt hlS) (by rw[hI];exact Nat.ne_of_lt (Nat.lt_succ_of_lt hlS)) (items.length-0) 0 _ rfl (Nat.zero_le _)
     ⟨_,Heap.get?_push_size _ rfl,rfl,rfl⟩ (hl1.push _) (hS0.at λo ho=>Heap.get?_push_of_some _ ho) λh' tk gZ keep=>?_
    show wpAny _ _ _ _ _ _
    refine wpAny_pure ?_
    show wpAny _ _ (ret Value.none) _ _ _
    exact wpAny_pure ⟨rfl,h',tk,rfl,gZ,λb o e=>keep b o (Nat.ne_of_lt (Heap.lt_size e)) (by rw[hI];exact Nat.ne_of_lt (Nat.lt_succ_of_lt (Heap.lt_size e))) (Heap.get?_push_of_some _ (Heap.get?_push_of_some _ e))⟩
   ·cases r₂ with
    |error e=>exact hr₂
    |ok fl₂=>
     cases fl₂ with
     |ret r=>
      obtain⟨rfl,h',tk,rfl,gZ,bI⟩:=hr₂
      repeat (any_goals (first |assumption |wp_step))
      exact h _ _ gZ bI
     |_=>exact hr₂.elim
  |_=>exact hr.elim
end
section
variable {M:Model}
end
section
variable {o:Obj}{es:Array (Int×Value)}{ep:Nat}{t:SetTable}
end
section
variable {tp:Addr}{o:Obj}{es:Array (Int×Value)}{ep:Nat}{t:SetTable}{L:List (Int×Value)}
end
section
variable {tp:Addr}{o:Obj}{es:Array (Int×Value)}{ep:Nat}{t:SetTable}{L:List (Int×Value)}
end
section
def Wm (P:Program)(w:World)(p:Addr)(ns:List Int):HO:=.ext λh=>DE P w h p ns
def OW (K:W.Frag)(P:Program)(w:World):List V->Hp->VK->Prop:=λxs H Q=>∃ l ns,xs=[.ref l]/\SqL K H l (ns.map V.int)/\ns.length<64/\∀p,H p=none->Q (.ref p) (upd H p (Wm P w p (dd ns)))
theorem By (K:W.Frag)(hK:X.K=K)(hc:X.calm=true):ZZ X (.type "set") (OW K X.prog X.w):=by
 subst hK
 intro aa s σ H xs us Q I r h
 obtain⟨l,ns,rfl,hq,eJ,q⟩:=h
 obtain⟨u,rfl,ru⟩:=VD r
 cases ru
 obtain⟨its,rv,pl,hz⟩:=I.list hq
 refine IC (I.ok.hd hc) pl.isList (Dm rv) (by have:scanBound=4096:=rfl;omega) λh' tk hS bP=>?_
 have dD:H s.heap.objs.size=none:=I.hok.fresh (Nat.le_refl _)
 refine⟨.ref s.heap.objs.size,_,I.laid (t':=tk) bP (Nat.le_refl _) (show YE X.prog X.w _ _ _ (Wm X.prog X.w s.heap.objs.size (dd ns)) from⟨hS,?_,λh1 h2 x k=>x.at k⟩),rfl,q _ dD⟩
 obtain⟨o,_,_,_,ho,_⟩:=hS
 exact⟨o,ho⟩
end
section
variable {u:TS}
variable [fd:FdOk Fd]
end
section
end
section
variable {E:XK}
end
section
def OX (K:W.Frag):R2:=λx y H Q=>∃ a b xs ys,x= .ref a/\y= .ref b/\SqT K H a xs/\SqT K H b ys/\ys≠ []/\xs.length+ys.length<=sizeLine/\
 (xs=[]->Q (.ref b) H)/\(xs≠ []->∀p,H p=none->Q (.ref p) (upd H p (.tup (xs++ys))))
theorem DH (K:W.Frag)(hK:X.K=K):OpR X (binaryOp .Add) (OX K):=by
 subst hK
 intro aa s σ H x y v u Q I rx ry h
 obtain⟨a,b,xs,ys,e1,e2,ha,hb,hy,hz,q1,q2⟩:=h
 by_cases hx:xs=[]
 ·subst e1 e2
  cases rx
  cases ry
  obtain⟨its,r1,p1,_⟩:=I.tuple ha
  obtain⟨aB,r2,p2,_⟩:=I.tuple hb
  obtain⟨⟨cls,dd,data,sl⟩,ho,hc,n,hd⟩:=id p1
  obtain⟨⟨cls2,dd2,data2,sl2⟩,di,dZ,n2,eW⟩:=id p2
  simp only at hc hd dZ eW
  subst hc hd dZ eW
  have e0:its=[]:=r1.nil_iff.mpr hx
  exact concat_meets ⟨_,ho,rfl⟩ ⟨_,di,rfl⟩ noFill_tuple_add seq_tuple_add PySem.F.slot_tuple_add PySem.F.entry_tuple_add (PySem.F.args_tuple_add_2 _ _)
   (tuple_addW0 a b its.toArray aB.toArray n n2 dd dd2 sl sl2 (by simp[e0])) ⟨ho,di,⟨.ref b,H,I,rfl,q1 hx⟩⟩
 ·exact RB aa s σ H x y v u Q I rx ry ⟨a,b,xs,ys,e1,e2,ha,hb,hx,hz,λz=>absurd z hy,λ_=>q2 hx⟩
end
section
theorem Dg [z:MonoE r]{mb:Rs (List α)}(ha:EvB K Er S OO σ ta (rPL r) ma)(hb:EvB K Er S OO σ tb (rPL r) mb):EvB K Er S OO σ (tOp (OX K) ta tb) (rPL r) (ma.bind λas=>mb.bind λbs=>chk (0<bs.length/\as.length+bs.length<=sizeLine) (.ok (as++bs))):=λH Q w s P=>
 ha.run w s FB.tr P λas x H1 s1 w1 q1 ⟨p,xs,e,q,pr⟩ P1=>hb.run w1 q1 FB.tr P1 λbs y H2 s2 w2 q2 ⟨p',ys,e',q',dR⟩ P2=>by
  obtain⟨⟨h1,h2⟩,P3⟩:=PZ.chk P2
  have hl:=Paired.len pr
  have hl':=Paired.len dR
  have eF:Paired (r K H2) xs as:=Paired.imp2 (λ_ _ h=>z.mono s2 h) pr
  refine⟨p,p',xs,ys,e,e',SqT.of (s2 _ _ q),SqT.of q',λz=>by rw[z] at hl';simp at hl';omega,by rw[hl,hl'];exact h2,λhz=>?_,λ_ a ha=>P3 _ _ (XH ha _) ⟨a,_,rfl,X7,Paired.imp2 (λ_ _ h=>z.mono (XH ha _) h) (Paired.app eF dR)⟩⟩
  subst hz
  have ha:as=[]:=List.length_eq_zero_iff.mp (by rw[←hl];rfl)
  subst ha
  exact P3 _ H2 (Xx.refl _) ⟨p',ys,rfl,q',dR⟩
variable {u:TS}[fd:FdOk Fd]
end
section
variable {u:TS}[fd:FdOk Fd]
end
section
end
def Az (A:Around)(s:Shared)(v u:Value)(b:Bool):Prop:=
 ∀(prog:Program) (w:World) (E:Value->Shared->Prop) (Q:Value->Shared->Prop),Q (.bool b) s->wpAny (model prog w) A (richCompare .Lt v u) Q E s
structure LtOk {α:Type}(r:Enc α)(lt:α->α->Bool)(d:Nat):Prop where
 at':∀{X:Cx}{aa:List (Addr×Obj)}{σ:St}{H:Hp}{s:Shared}{x y:V}{v u:Value}{a b:α}{A:Around},Inv X aa σ H s->Ya x v->Ya y u->r X.K H x a->r X.K H y b->A.units+d<cLine->Az A s v u (lt a b)
def ltI (a b:Int):Bool:=decide (a<b)
theorem lt_int:LtOk Xf ltI 0:=⟨fun {X aa σ H s x y v u a b A} I rx ry h1 h2 _ prog w E Q q=>by
 have e1:x=V.int a:=h1
 have e2:y=V.int b:=h2
 subst e1 e2
 obtain⟨t,rfl⟩:=rx
 obtain⟨t',rfl⟩:=ry
 exact CmpOf.ints_lt (P:=λj v=>∃ t,v= .int (if j=0 then a else b) t) (λj=>if j=0 then a else b) (λ_ _ h=>h) 0 1 _ _ _ _ _ ⟨t,rfl⟩ ⟨t',rfl⟩ q⟩
section
variable [DecidableEq α]{lt:α->α->Bool}{d:Nat}
theorem LtOk.imp {q:Enc α}(L:LtOk r lt d)(h:∀{K:W.Frag}{H:Hp}{v:V}{a:α},q K H v a->r K H v a):LtOk q lt d:=⟨λI rx ry h1 h2 hu=>L.at' I rx ry (h h1) (h h2) hu⟩
end
section
def kp (kf:Value->α)(d:α)(xs:Array Keyed)(i:Nat):α:=(xs[i]?.map λp=>kf p.1).getD d
theorem NM {d:α}{xs:Array Keyed}(h:xs[i]?=ys[j]?):kp kf d xs i=kp kf d ys j:=by unfold kp;rw[h]
structure Ord (lt:α->α->Bool):Prop where
 irr:∀a,lt a a=false
 tr:∀{a b c},lt a b=true->lt b c=true->lt a c=true
structure SB (κ:SortKind)(a0:Array Keyed)(st:SortSt):Prop where
 perm:(arrOf st).Perm a0
 kind:kindOf st=κ
 failed:failedOf st=none
 pend:pendingOf st= #[]
theorem SB.size {κ:SortKind}{a0:Array Keyed}{st:SortSt}(h:SB κ a0 st):(arrOf st).size=a0.size:=h.perm.size_eq
theorem SB.setArr {κ:SortKind}{a0:Array Keyed}{st:SortSt}(h:SB κ a0 st){xs:Array Keyed}(hp:xs.Perm (arrOf st)):SB κ a0 (setArr st xs):=⟨hp.trans h.perm,h.kind,h.failed,h.pend⟩
structure Asks (prog:Program)(w:World)(A:Around)(E:Value->Shared->Prop)(s:Shared)(κ:SortKind)(lt:α->α->Bool)(kf:Value->α)(d:α)(a0:Array Keyed):Prop extends Ord lt where
 ask:∀{st:SortSt}{i j:Nat}{Q:Option Bool->SortSt->Prop},SB κ a0 st->i<a0.size->j<a0.size->Q (some (lt (kp kf d (arrOf st) i) (kp kf d (arrOf st) j))) st->wpS (model prog w) A E s (ltAt' i j) Q st
 two:∀{st:SortSt}{i j:Nat},SB κ a0 st->i<a0.size->j<a0.size->i≠j->lt (kp kf d (arrOf st) i) (kp kf d (arrOf st) j)=true∨lt (kp kf d (arrOf st) j) (kp kf d (arrOf st) i)=true
variable {κ:SortKind}{lt:α->α->Bool}{kf:Value->α}{d:α}{a0:Array Keyed}
def Ris (lt:α->α->Bool)(k:Nat->α)(n:Nat):Prop:=∀ i j,i<j->j<n->lt (k i) (k j)=true
def Fal (lt:α->α->Bool)(k:Nat->α)(n:Nat):Prop:=∀ i j,i<j->j<n->lt (k j) (k i)=true
theorem Ris.more (O:Ord lt){k:Nat->α}(h:Ris lt k n)(q:0<n->lt (k (n-1)) (k n)=true):Ris lt k (n+1):=λi j b8 hj=>by
 rcases Nat.lt_or_ge j n with z |z
 ·exact h i j b8 z
 ·have e:j=n:=by omega
  subst e
  rcases Nat.lt_or_ge i (j-1) with y |y
  ·exact O.tr (h i (j-1) y (by omega)) (q (by omega))
  ·rw[show i=j-1 by omega];exact q (by omega)
theorem Fal.more (O:Ord lt){k:Nat->α}(h:Fal lt k n)(q:0<n->lt (k n) (k (n-1))=true):Fal lt k (n+1):=λi j b8 hj=>by
 rcases Nat.lt_or_ge j n with z |z
 ·exact h i j b8 z
 ·have e:j=n:=by omega
  subst e
  rcases Nat.lt_or_ge i (j-1) with y |y
  ·exact O.tr (q (by omega)) (h i (j-1) y (by omega))
  ·rw[show i=j-1 by omega];exact q (by omega)
theorem Asks.other (L:Asks prog w A E s κ lt kf d a0){st:SortSt}{i j:Nat}(B:SB κ a0 st)(hi:i<a0.size)(hj:j<a0.size)(n:i≠j)(h:lt (kp kf d (arrOf st) i) (kp kf d (arrOf st) j)=false):lt (kp kf d (arrOf st) j) (kp kf d (arrOf st) i)=true:=(L.two B hi hj n).resolve_left (by rw[h];decide)
theorem Ot (L:Asks prog w A E s κ lt kf d a0){st:SortSt}{a m:Nat}{Q:AscSt->SortSt->Prop}(B:SB κ a0 st)(hm:m<=a0.size)(h1:1<=a)(ham:a<=m)(R:Ris lt (kp kf d (arrOf st)) a)
  (q:∀n,a<=n->n<=m->Ris lt (kp kf d (arrOf st)) n->(n≠m->lt (kp kf d (arrOf st) n) (kp kf d (arrOf st) (n-1))=true)->Q (none,n) st):wpS (model prog w) A E s (ascLoop a m) Q st:=by
 unfold ascLoop
 refine wpS_forRange (I:=λx c t=>t=st/\c=(none,x)/\Ris lt (kp kf d (arrOf st)) x) ?_ ?_ ⟨rfl,rfl,R⟩
 ·intro x c t hx hxm hI
  obtain⟨rfl,rfl,R'⟩:=hI
  refine wpS_bind (L.ask B (by omega) (by omega) ?_)
  cases e:lt (kp kf d (arrOf t) x) (kp kf d (arrOf t) (x-1)) with
  |true=>exact wpS_pure (q x hx (by omega) R' λ_=>e)
  |false=>exact wpS_pure ⟨rfl,rfl,R'.more L.toOrd λ_=>L.other B (by omega) (by omega) (by omega) e⟩
 ·intro c t hI
  obtain⟨rfl,rfl,R'⟩:=hI
  have e:max a m=m:=by omega
  rw[e] at R'⊢
  exact q m ham (Nat.le_refl _) R' λz=>absurd rfl z
theorem NA (L:Asks prog w A E s κ lt kf d a0){st:SortSt}{a m:Nat}{Q:DescSt->SortSt->Prop}(B:SB κ a0 st)(hm:m<=a0.size)(h1:1<=a)(ham:a<=m)(R:Fal lt (kp kf d (arrOf st)) a)
  (q:∀n,a<=n->n<=m->Fal lt (kp kf d (arrOf st)) n->Q (none,n,0) st):wpS (model prog w) A E s (descLoop a m) Q st:=by
 unfold descLoop
 refine wpS_forRange (I:=λx c t=>t=st/\c=(none,x,0)/\Fal lt (kp kf d (arrOf st)) x) ?_ ?_ ⟨rfl,rfl,R⟩
 ·intro x c t hx hxm hI
  obtain⟨rfl,rfl,R'⟩:=hI
  show wpS _ _ _ _ (ltAt' x (x-1) >>= _) _ _
  refine wpS_bind (L.ask B (by omega) (by omega) ?_)
  cases e:lt (kp kf d (arrOf t) x) (kp kf d (arrOf t) (x-1)) with
  |true=>exact wpS_pure ⟨rfl,rfl,R'.more L.toOrd λ_=>e⟩
  |false=>
   show wpS _ _ _ _ (ltAt' (x-1) x >>= _) _ _
   refine wpS_bind (L.ask B (by omega) (by omega) ?_)
   rw[L.other B (by omega) (by omega) (by omega) e]
   exact wpS_pure (q x hx (by omega) R')
 ·intro c t hI
  obtain⟨rfl,rfl,R'⟩:=hI
  have e:max a m=m:=by omega
  rw[e] at R'⊢
  exact q m ham (Nat.le_refl _) R'
theorem Ik {xs:Array Keyed}(hn:n<=xs.size)(hi:i<n):kp kf d (mirror xs 0 n ((n-0)/2)) i=kp kf d xs (n-1-i):=by
 have e:=getElem?_mirror_all (i:=0) hn i
 rw[if_pos ⟨Nat.zero_le _,hi⟩,Nat.zero_add] at e
 exact NM e
theorem T6 (L:Asks prog w A E s κ lt kf d a0){st:SortSt}{m:Nat}{Q:Option Nat->SortSt->Prop}(B:SB κ a0 st)(hm:m<=a0.size)(h1:1<=m)
  (q:∀n t,SB κ a0 t->n<=m->Ris lt (kp kf d (arrOf t)) n->Q (some n) t):wpS (model prog w) A E s (countRun' 0 m) Q st:=by
 rw[countRun0_eq]
 refine wpS_bind (Ot L B hm (Nat.le_refl 1) h1 (λi j b8 hj=>by omega) λn hn hnm R z=>?_)
 show wpS _ _ _ _ (if(n==m)=true then _ else _) _ _
 by_cases e:n=m
 ·subst e
  rw[if_pos (beq_self_eq_true n)]
  exact wpS_pure (q n st B (Nat.le_refl _) R)
 ·rw[if_neg (by rw[beq_eq_false_iff_ne.mpr e];decide)]
  have z:=z e
  by_cases g:n > 1
  ·show wpS _ _ _ _ (if n > 1 then _ else _) _ _
   rw[if_pos g]
   show wpS _ _ _ _ (ltAt' 0 (n-1) >>= _) _ _
   refine wpS_bind (L.ask B (by omega) (by omega) ?_)
   rw[show lt (kp kf d (arrOf st) 0) (kp kf d (arrOf st) (n-1))=true from R 0 (n-1) (by omega) (by omega)]
   exact wpS_pure (q n st B hnm R)
  ·have e1:n=1:=by omega
   subst e1
   show wpS _ _ _ _ (descPart 1 m) _ _
   unfold descPart
   refine wpS_bind (wpS_lift (wpAny_rule ⟨rfl,?_⟩))
   have F2:Fal lt (kp kf d (arrOf st)) 2:=Fal.more L.toOrd (n:=1) (λi j b8 hj=>by omega) λ_=>z
   refine wpS_bind (NA L B hm (by omega) (by omega) F2 λn hn2 hnm2 F=>?_)
   show wpS _ _ _ _ (tail3 n m) _ _
   unfold tail3
   refine wpS_bind (wpS_reverse ?_)
   have B2:SB κ a0 (setArr st (mirror (arrOf st) 0 n ((n-0)/2))):=B.setArr (mirror_perm _ _ _ _)
   have hsz:n<=(arrOf st).size:=by rw[B.size];omega
   refine wpS_bind (Ot L B2 hm (by omega) hnm2 (λi j b8 hj=>?_) λk _ hk R2 _=>wpS_pure (q k _ B2 hk R2))
   show lt (kp kf d (mirror (arrOf st) 0 n ((n-0)/2)) i) (kp kf d (mirror (arrOf st) 0 n ((n-0)/2)) j)=true
   rw[Ik hsz (by omega),Ik hsz hj]
   exact F (n-1-j) (n-1-i) (by omega) (by omega)
theorem SV (O:Ord lt){xs:Array Keyed}(hk:k<xs.size)(hl:l<=k)(R:Ris lt (kp kf d xs) k)(lo:∀i,i<l->lt (kp kf d xs i) (kp kf d xs k)=true)(hi:∀i,l<=i->i<k->lt (kp kf d xs k) (kp kf d xs i)=true):Ris lt (kp kf d (bubble xs k (k-l))) (k+1):=by
 have g:∀p,kp kf d (bubble xs k (k-l)) p=if p=l then kp kf d xs k else if l<p/\p<=k then kp kf d xs (p-1) else kp kf d xs p:=λp=>by
  have e:=getElem?_bubble hk (k-l) (by omega) p
  rw[show k-(k-l)=l by omega] at e
  by_cases h1:p=l
  ·rw[if_pos h1] at e⊢;exact NM e
  ·rw[if_neg h1] at e⊢
   by_cases h2:l<p/\p<=k
   ·rw[if_pos h2] at e⊢;exact NM e
   ·rw[if_neg h2] at e⊢;exact NM e
 intro i j b8 hj
 rw[g,g]
 rcases Nat.lt_trichotomy i l with bM |bM |bM
 ·rw[if_neg (by omega),if_neg (by omega)]
  rcases Nat.lt_trichotomy j l with cT |cT |cT
  ·rw[if_neg (by omega),if_neg (by omega)];exact R i j b8 (by omega)
  ·rw[if_pos cT];exact lo i bM
  ·rw[if_neg (by omega),if_pos (by omega)];exact R i (j-1) (by omega) (by omega)
 ·rw[if_pos bM,if_neg (by omega),if_pos (by omega)];exact hi (j-1) (by omega) (by omega)
 ·rw[if_neg (by omega),if_pos (by omega),if_neg (by omega),if_pos (by omega)];exact R (i-1) (j-1) (by omega) (by omega)
theorem S7 (L:Asks prog w A E s κ lt kf d a0){st:SortSt}{n ok:Nat}{Q:Bool->SortSt->Prop}(B:SB κ a0 st)(hn:n<=a0.size)(hok:ok<=n)(R:Ris lt (kp kf d (arrOf st)) ok)
  (q:∀t,SB κ a0 t->Ris lt (kp kf d (arrOf t)) n->Q true t):wpS (model prog w) A E s (binarySort' 0 n ok) Q st:=by
 rw[binarySort'_eq]
 simp only[Nat.zero_add]
 refine wpS_bind (wpS_mono (wpS_forRange (I:=λk c t=>c=(none,())/\SB κ a0 t/\Ris lt (kp kf d (arrOf t)) (if k<=n then k else n)) (Q:=λc t=>c=(none,())/\SB κ a0 t/\Ris lt (kp kf d (arrOf t)) n) ?_ ?_ ?_) ?_)
 ·intro k c t hk fw hI
  obtain⟨rfl,Bt,Rt⟩:=hI
  rw[if_pos (Nat.le_of_lt fw)] at Rt
  refine wpS_bind (wpS_mono (wpS_forRange (I:=λx c u=>u=t/\∃l r,c=(none,l,r)/\l<=r/\r<=k/\r+x<=k+l/\(∀i,i<l->lt (kp kf d (arrOf t) i) (kp kf d (arrOf t) k)=true)/\(∀i,r<=i->i<k->lt (kp kf d (arrOf t) k) (kp kf d (arrOf t) i)=true))
   (Q:=λc u=>u=t/\∃l,c=(none,l,l)/\l<=k/\(∀i,i<l->lt (kp kf d (arrOf t) i) (kp kf d (arrOf t) k)=true)/\(∀i,l<=i->i<k->lt (kp kf d (arrOf t) k) (kp kf d (arrOf t) i)=true)) ?_ ?_ ?_) ?_)
  ·intro x c u _ hx hI
   obtain⟨rfl,l,r,rfl,hlr,hrk,hm,lo,hi⟩:=hI
   by_cases hge:l≥r
   ·have e:r=l:=by omega
    subst e
    show wpS _ _ _ _ (if r≥r then _ else _) _ _
    rw[if_pos (Nat.le_refl _)]
    exact wpS_pure ⟨rfl,r,rfl,hrk,lo,hi⟩
   ·show wpS _ _ _ _ (if l≥r then _ else _) _ _
    rw[if_neg hge]
    show wpS _ _ _ _ (ltAt' k ((l+r)/2) >>= _) _ _
    refine wpS_bind (L.ask Bt (by omega) (by omega) ?_)
    cases e:lt (kp kf d (arrOf u) k) (kp kf d (arrOf u) ((l+r)/2)) with
    |true=>
     refine wpS_pure ⟨rfl,l,(l+r)/2,rfl,by omega,by omega,by omega,lo,λi h1 h2=>?_⟩
     rcases Nat.eq_or_lt_of_le h1 with y |y
     ·rw[←y];exact e
     ·exact L.tr e (Rt _ _ y h2)
    |false=>
     have e':=L.other Bt (by omega) (by omega) (by omega) e
     refine wpS_pure ⟨rfl,(l+r)/2+1,r,rfl,by omega,by omega,by omega,λi h1=>?_,hi⟩
     rcases Nat.eq_or_lt_of_le (Nat.le_of_lt_succ h1) with y |y
     ·rw[y];exact e'
     ·exact L.tr (Rt _ _ y (by omega)) e'
  ·intro c u hI
   obtain⟨rfl,l,r,rfl,hlr,hrk,hm,lo,hi⟩:=hI
   have e:r=l:=by omega
   subst e
   exact⟨rfl,r,rfl,hrk,lo,hi⟩
  ·exact⟨rfl,0,k,rfl,by omega,by omega,by omega,λi hi=>by omega,λi h1 h2=>by omega⟩
  ·intro c u hI
   obtain⟨rfl,l,rfl,hlk,lo,hi⟩:=hI
   show wpS _ _ _ _ (moveDown' k l >>= _) _ _
   rw[moveDown'_eq]
   refine wpS_bind (wpS_modify (wpS_pure ⟨rfl,Bt.setArr (bubble_perm _ _ _),?_⟩))
   rw[if_pos (show k+1<=n from fw)]
   exact SV L.toOrd (by rw[Bt.size];omega) hlk Rt lo hi
 ·intro c t hI
  obtain⟨hc,Bt,Rt⟩:=hI
  refine⟨hc,Bt,?_⟩
  have e:(if max (max ok 1) n<=n then max (max ok 1) n else n)=n:=by split<;> omega
  rwa [e] at Rt
 ·refine⟨rfl,B,λi j b8 hj=>?_⟩
  refine R i j b8 ?_
  split at hj<;> omega
 ·intro c t hI
  obtain⟨rfl,Bt,Rt⟩:=hI
  exact wpS_pure (q t Bt Rt)
theorem RU (L:Asks prog w A E s κ lt kf d a0){st:SortSt}{Q:Unit->SortSt->Prop}(B:SB κ a0 st)(h2:2<=a0.size)(eJ:a0.size<64)
  (q:∀t,(arrOf t).Perm a0->failedOf t=none->Ris lt (kp kf d (arrOf t)) a0.size->Q () t):wpS (model prog w) A E s sortRuns' Q st:=by
 rw[sortRuns'_eq]
 refine wpS_bind (wpS_get ?_)
 have hmr:minRun' a0.size a0.size 0=a0.size:=by
  cases e:a0.size with
  |zero=>omega
  |succ f=>rw[minRun'_succ,if_pos (by omega)]
 have hs:=B.size
 show wpS _ _ _ _ (forIn [0:(arrOf st).size] _ _ >>= _) _ _
 rw[hs,hmr]
 let Dn:SortSt->Prop:=λt=>(arrOf t).Perm a0/\failedOf t=none/\pendingOf t= #[(0,a0.size,0)]/\Ris lt (kp kf d (arrOf t)) a0.size
 have fin:∀t,SB κ a0 t->Ris lt (kp kf d (arrOf t)) a0.size->Dn (setPending t ((pendingOf t).push (0,a0.size,0))):=λt Bt Rt=>⟨Bt.perm,Bt.failed,by show(pendingOf t).push _=_;rw[Bt.pend];rfl,Rt⟩
 refine wpS_bind (wpS_mono (wpS_forRange (I:=λx c t=>if x=0 then c=(none,0)/\SB κ a0 t else c=(none,a0.size)/\Dn t) (Q:=λc t=>c=(none,a0.size)/\Dn t) ?_ ?_ ?_) ?_)
 ·intro x c t _ hx hI
  by_cases hx0:x=0
  ·rw[if_pos hx0] at hI
   obtain⟨rfl,Bt⟩:=hI
   show wpS _ _ _ _ (if 0≥a0.size then _ else _) _ _
   rw[if_neg (by omega)]
   refine wpS_bind (T6 L Bt (by omega) (by omega) λm u Bu hm Ru=>?_)
   have hb:∀v,SB κ a0 v->(pendingOf v).back?=none:=λv Bv=>by rw[Bv.pend];rfl
   by_cases av:m<a0.size
   ·show wpS _ _ _ _ (if m<a0.size then _ else _) _ _
    rw[if_pos av]
    refine wpS_bind (wpS_lift (wpAny_rule ⟨rfl,?_⟩))
    rw[Nat.sub_zero,Nat.min_self]
    refine wpS_bind (S7 L Bu (Nat.le_refl _) hm Ru λv Bv Rv=>?_)
    show wpS _ _ _ _ (get >>= _) _ _
    refine wpS_bind (wpS_get ?_)
    rw[hb v Bv]
    refine wpS_bind (wpS_modify (wpS_pure ?_))
    show if x+1=0 then _ else _
    rw[if_neg (by omega)]
    exact⟨by rw[Nat.zero_add],fin v Bv Rv⟩
   ·have e:m=a0.size:=by omega
    subst e
    show wpS _ _ _ _ (if a0.size<a0.size then _ else _) _ _
    rw[if_neg av]
    refine wpS_bind (wpS_get ?_)
    rw[hb u Bu]
    refine wpS_bind (wpS_modify (wpS_pure ?_))
    show if x+1=0 then _ else _
    rw[if_neg (by omega)]
    exact⟨by rw[Nat.zero_add],fin u Bu Ru⟩
  ·rw[if_neg hx0] at hI
   obtain⟨rfl,D⟩:=hI
   show wpS _ _ _ _ (if a0.size≥a0.size then _ else _) _ _
   rw[if_pos (Nat.le_refl _)]
   exact wpS_pure ⟨rfl,D⟩
 ·intro c t hI
  rw[if_neg (by omega)] at hI
  exact hI
 ·rw[if_pos rfl];exact⟨rfl,B⟩
 ·intro c t hI
  obtain⟨rfl,D1,D2,D3,D4⟩:=hI
  refine wpS_bind (wpS_mono (wpS_forRange (I:=λ_ c u=>u=t/\c=(none,())) (Q:=λc u=>u=t/\c=(none,())) ?_ (λ_ _ h=>h) ⟨rfl,rfl⟩) ?_)
  ·intro x c u _ _ hI
   obtain⟨rfl,rfl⟩:=hI
   refine wpS_bind (wpS_get ?_)
   rw[if_pos (by rw[D3];exact Nat.le_refl 1)]
   exact wpS_pure ⟨rfl,rfl⟩
  ·intro c u hI
   obtain⟨rfl,rfl⟩:=hI
   exact wpS_pure (q _ D1 D2 D4)
end
section
theorem MU {f:α->β}{k:List β}(h:l'.Perm k):∀{l:List α},k=l.map f->∃m:List α,m.Perm l/\m.map f=l':=by
 induction h with
 |nil=>intro l e;cases l with
  |nil=>exact⟨[], .nil,rfl⟩
  |cons a l=>cases e
 |cons x _ ih=>intro l e;cases l with
  |nil=>cases e
  |cons a l=>
   injection e with e1 e2
   obtain⟨m,hm,em⟩:=ih e2
   exact⟨a::m,hm.cons a,by rw[List.map_cons,em,e1]⟩
 |swap x y t=>intro l e;cases l with
  |nil=>cases e
  |cons a l=>cases l with
   |nil=>cases e
   |cons b l=>
    injection e with e1 e2
    injection e2 with e2 e3
    exact⟨b::a::l, .swap ..,by rw[List.map_cons,List.map_cons,e1,e2,e3]⟩
 |trans _ _ ih1 ih2=>
  intro l e
  obtain⟨m2,h2,e2⟩:=ih2 e
  obtain⟨m1,h1,e1⟩:=ih1 e2.symm
  exact⟨m1,h1.trans h2,e1⟩
structure OrdT (lt:α->α->Bool):Prop extends Ord lt where
 tot:∀{a b},a≠b->lt a b=true∨lt b a=true
section
variable [DecidableEq α]{lt:α->α->Bool}
end
def SS (lt:α->α->Bool)(a:α):List α->List α
 | []=>[a]
 |b::l=>if lt a b=true then a::b::l else b::SS lt a l
def Zv (lt:α->α->Bool)(l:List α):List α:=l.foldr (SS lt) []
theorem GE (lt:α->α->Bool)(a:α):∀l,(SS lt a l).Perm (a::l)
 | []=>.refl _
 |b::l=>by
  rw[SS]
  split
  ·exact .refl _
  ·exact((GE lt a l).cons b).trans (.swap ..)
theorem YJ (lt:α->α->Bool):∀l:List α,(Zv lt l).Perm l
 | []=>.refl _
 |a::l=>(GE lt a _).trans ((YJ lt l).cons a)
theorem CH (O:OrdT lt){a:α}:∀{l:List α},(∀b∈l,a≠b)->l.Pairwise (λx y=>lt x y=true)->(SS lt a l).Pairwise λx y=>lt x y=true
 | [],_,_=>List.pairwise_singleton ..
 |b::l,hn,h=>by
  rw[List.pairwise_cons] at h
  rw[SS]
  split
  ·rename_i hab
   refine List.pairwise_cons.mpr ⟨λc hc=>?_,List.pairwise_cons.mpr h⟩
   rcases List.mem_cons.mp hc with z |z
   ·rw[z];exact hab
   ·exact O.tr hab (h.1 c z)
  ·rename_i hab
   refine List.pairwise_cons.mpr ⟨λc hc=>?_,CH O (λc hc=>hn c (List.mem_cons_of_mem _ hc)) h.2⟩
   rcases List.mem_cons.mp ((GE lt a l).mem_iff.mp hc) with z |z
   ·rw[z];exact(O.tot (hn b List.mem_cons_self)).resolve_left hab
   ·exact h.1 c z
theorem UT (O:OrdT lt):∀{l:List α},l.Nodup->(Zv lt l).Pairwise λx y=>lt x y=true
 | [],_=>.nil
 |a::l,h=>by
  rw[List.nodup_cons] at h
  exact CH O (λb hb e=>h.1 ((YJ lt l).mem_iff.mp (e▸hb))) (UT O h.2)
theorem V7 (O:OrdT lt){a b:List α}(hn:b.Nodup)(h:a.Perm b)(r:a.Pairwise λx y=>lt x y=true):a=Zv lt b:=
 List.Perm.eq_of_pairwise (le:=λx y=>lt x y=true) (λx y _ _ h1 h2=>by have:=O.tr h1 h2;rw[O.irr] at this;cases this) r (UT O hn) (h.trans (YJ lt b).symm)
end
section
def mid (h:Heap)(a:Addr)(vs:List Value):Heap:=((h.update a (Obj.mapSeq λ_=>#[])).push (seqObj "tuple" vs.toArray 0)).push (seqObj "list" #[] 0)
theorem Rc {o:Obj}(hne:b≠a)(hb:h.get? b=some o):(mid h a vs).get? b=some o:=by
 have av:=Heap.lt_size hb
 unfold mid
 rw[Heap.get?_push_ne _ _ _ (by rw[size_push',Heap.size_update];exact Nat.ne_of_lt (Nat.lt_succ_of_lt av)),Heap.get?_push_ne _ _ _ (by rw[Heap.size_update];exact Nat.ne_of_lt av),Heap.get?_update_ne _ _ _ _ hne]
 exact hb
theorem P9 {d:α}{Q:Fin->Shared->Prop}(ho:s.heap.get? a=some (seqObj "list" vs.toArray n))(eJ:vs.length<64)
  (hk:2<=vs.length->∀{Q:SortKind->Shared->Prop},Q κ {s with heap:=mid s.heap a vs}->wpAny (model prog w) A (keyKind' vs.toArray) Q E {s with heap:=mid s.heap a vs})(L:Asks prog w A E {s with heap:=mid s.heap a vs} κ lt kf d (pairsOf vs))
  (q:∀out:Array Keyed,out.Perm (pairsOf vs)->Ris lt (kp kf d out) vs.length->Q (.done (.ret .none)) {s with heap:=sortedHeap s.heap a vs (out.map (·.2))}):
  wpAny (model prog w) A (Builtin.«list.sort» ⟨[.ref a],[]⟩) Q E s:=by
 rw[list_sort_plain]
 have av:=Heap.lt_size ho
 obtain⟨e1,ho1⟩:∃e,(s.heap.update a (Obj.mapSeq λ_=>#[])).get? a=some (seqObj "list" #[] e):=⟨_,get?_update_seq ho λ_=>#[]⟩
 have di:(mid s.heap a vs).get? a=some (seqObj "list" #[] e1):=by
  unfold mid
  rw[Heap.get?_push_ne _ _ _ (by rw[size_push',Heap.size_update];exact Nat.ne_of_lt (Nat.lt_succ_of_lt av)),Heap.get?_push_ne _ _ _ (by rw[Heap.size_update];exact Nat.ne_of_lt av)]
  exact ho1
 refine wpAny_bind (listItems_at ho rfl (wpAny_bind (listUpdate_at ho rfl (wpAny_bind (seqEpoch_at ho1 rfl (wpAny_bind (wpAny_newTuple (wpAny_bind (wpAny_newList (wpAny_holding ?_))))))))))
 show wpAny (model prog w) A _ Q E {s with heap:=mid s.heap a vs}
 have tail:∀(st:SortSt),(arrOf st).Perm (pairsOf vs)->failedOf st=none->Ris lt (kp kf d (arrOf st)) vs.length->wpAny (model prog w) A (do
   let fb:=(←seqEpoch a) !=e1
   Builtin.List.listUpdate (.ref a) λ_=>(arrOf st).map (·.2)
   if let some e:=failedOf st then rule "list.sort.comparison-raised";throw e
   if fb then rule "list.sort.modified";raiseError "ValueError" "list modified during sort"
   ret .none) Q E {s with heap:=mid s.heap a vs}:=λst hp hf hr=>by
  refine wpAny_bind (seqEpoch_at di rfl (wpAny_bind (listUpdate_at di rfl ?_ (hsz2:=?_))))
  ·rw[hf]
   simp only[bne_self_eq_false,Bool.false_eq_true,if_false]
   exact wpAny_pure (q (arrOf st) hp hr)
  ·have:=hp.size_eq
   rw[pairsOf_size] at this
   rw[Array.size_map,this,sizeLine_eq];omega
 have hsz:vs.toArray.size=vs.length:=List.size_toArray
 by_cases h2:vs.toArray.size<2
 ·rw[if_pos h2,if_pos h2]
  refine wpAny_bind (wpAny_pure ?_)
  show wpAny _ _ ((pure ():StateT SortSt Sem Unit).run (SortSt.mk' general' (vs.toArray.zip vs.toArray) #[] 7 none) >>= _) _ _ _
  rw[StateT.run_pure]
  exact wpAny_bind (wpAny_pure (tail (SortSt.mk' general' (vs.toArray.zip vs.toArray) #[] 7 none) (Array.Perm.refl _) rfl λi j b8 hj=>by omega))
 ·rw[if_neg h2,if_neg h2]
  refine wpAny_bind (hk (by rw[←hsz];omega) ?_)
  refine wpAny_bind (wpAny_mono (RU L (st:=SortSt.mk' κ (vs.toArray.zip vs.toArray) #[] 7 none) (Q:=λ_ st=>(arrOf st).Perm (pairsOf vs)/\failedOf st=none/\Ris lt (kp kf d (arrOf st)) vs.length) ⟨Array.Perm.refl _,rfl,rfl,rfl⟩ (by rw[pairsOf_size];omega) (by rw[pairsOf_size];exact eJ) λt a1 a2 a3=>⟨a1,a2,by rw[pairsOf_size] at a3;exact a3⟩) ?_ λ_ _ e=>e)
  intro p s' hh
  obtain⟨⟨⟩,st⟩:=p
  obtain⟨rfl,hp,hf,hr⟩:=hh
  exact tail st hp hf hr
end
section
variable [DecidableEq β]{r:Enc β}{lt:β->β->Bool}{d:Nat}
end
section
end
section
end
section
variable {u:TS}[fd:FdOk Fd]
end
section
variable {u:TS}
def Wn (K:W.Frag)(o:OE ρ)(Cf:List XZ)(Q:VK)(b:ρ)(h:Hp):Prop:=∀ v C H',W [C++Cf] H'->Xx h (hid H' [C++Cf])->o K (hid H' [C++Cf]) v b C->Q v H'
def HA (K:W.Frag)(o:OE ρ)(k:Nat)(Cf:List XZ)(D:Ends)(b:ρ)(h:Hp):Prop:=∀ v C OO' H',OO'[k]?=some Cf->W (C::OO') H'->Xx h (hid H' (C::OO'))->o K (hid H' (C::OO')) v b C->D.rt v H'
instance {o:OE ρ}{k:Nat}{Cf:List XZ}:FdOk (HA K o k Cf):=⟨λD b h h' s q v C O H' e w m x=>q v C O H' e w (s.trans m) x⟩
def W7 (r1:Enc α1)(r2:Enc α2)(o:OE ρ)(f:α1->α2->Rs ρ)(K:W.Frag):Sp:=λvs H Q _=>∃ v1 v2 a1 a2 b,vs=[v1,v2]/\∃Cf,W [Cf] H/\r1 K (hid H [Cf]) v1 a1/\r2 K (hid H [Cf]) v2 a2/\f a1 a2= .ok b/\Wn K o Cf Q b (hid H [Cf])
theorem QN {o:OE ρ}{m:Rs ρ}(k:Nat)(hk:OO'[k]?=some Cf)(he:Ev K Er S OO OO' σ te o m):Sv Er S OO σ (ZY (Wj te) u) (HA K o k Cf) m:=λH D w s P=>
 he H _ w s (by
  cases m with
  |bad=>exact P
  |err x=>exact λH' s'=>P H' (Xz.trans s')
  |ok a=>exact λv C H' s' w' m' ho=>P v C OO' H' hk w' m' ho)
theorem Om {o:OE ρ}[zo:MonoO o]{m:Rs ρ}{Q:VK}{b:ρ}(n:Nat)(h:Sv (λ_ _=>False) S (List.replicate n []++[Cf]) σ t (HA K o n Cf) m)(w:W [Cf] H)(hs:S.p (hid H [Cf]))(hm:m= .ok b)(qf:Wn K o Cf Q b (hid H [Cf]))(hD:D.rt=Q):t D σ H:=by
 have pe:(List.replicate n ([]:List XZ)++[Cf]).flatten.Perm [Cf].flatten:=by
  rw[List.flatten_append,Ym,List.nil_append]
 refine h H D (w.of pe) (by rw[XU pe];exact hs) ?_
 subst hm
 rw[XU pe]
 intro v C OO' H' hk w' m' ho
 rw[hD]
 have hp:=XW hk
 have wk:W (C::Cf::OO'.set n []) H':=w'.of (by rw[List.flatten_cons,List.flatten_cons (l:=C)];exact hp.append_left C)
 have eh:hid H' (C::OO')=hid H' (C::Cf::OO'.set n []):=(XU (by rw[List.flatten_cons,List.flatten_cons (l:=C)];exact hp.append_left C)).symm
 have ar:Xx (hid H' (C::OO')) (hid H' [C++Cf]):=by
  rw[eh]
  exact ZW (Xx.refl _) λb hb=>by
   rw[XR,XR, ←List.append_assoc]
   refine List.mem_append_left _ ?_
   simpa[fl] using hb
 exact qf v C H' (wk.sub (by simp)) (m'.trans ar) (zo.mono ar ho)
theorem Tl {o:OE ρ}{Q:VK}{b:ρ}(w:W OO H)(P:FO K OO OO o Q b H):Wn K o OO.flatten Q b (hid H OO):=λv C H' w' m' ho=>by
 have e1:([C++OO.flatten]:List (List XZ)).flatten=(C::OO).flatten:=by simp
 have e2:hid H' [C++OO.flatten]=hid H' (C::OO):=by unfold hid fl;rw[e1]
 rw[e2] at m' ho
 have w2:W (C::OO) H':=w'.of (by rw[e1])
 refine P v C H' (λx ob hx=>?_) w2 m' ho
 by_cases hb:x∈fl OO
 ·obtain⟨oo,hoo⟩:=HI hb
  have h1:=w.tr _ hoo
  rw[hx] at h1
  cases h1
  exact w2.tail.tr _ hoo
 ·exact(Yd (m' _ _ (Ze hx hb))).1
theorem Bk:hid H [OO.flatten]=hid H OO:=by unfold hid fl;rw[show([OO.flatten]:List (List XZ)).flatten=OO.flatten by simp]
theorem W.one (w:W OO H):W [OO.flatten] H:=w.of (by simp)
theorem IW [z1:MonoE r1][MonoE r2]{o:OE ρ}{f:α1->α2->Rs ρ}{ma:Rs α1}{mb:Rs α2}(ha:EvS K Er S OO σ ta r1 ma)(hb:EvS K Er S OO σ tb r2 mb):
  Ev K Er S OO OO σ (Vn (W7 r1 r2 o f K) [] E0 (Xv ta (Xv tb YK))) o (ma.bind λa=>mb.bind λb=>noE (f a b)):=λH Q w s P=>
 ha.run w s FO.tr P λa x H1 s1 w1 q1 r1 P1=>hb.run w1 q1 FO.tr P1 λb y H2 s2 w2 q2 r2 P2=>by
  obtain⟨c,hc,P3⟩:=P2.okOf λx=>Fh
  exact⟨x,y,a,b,c,rfl,OO.flatten,w2.one,by rw[Bk];exact z1.mono (Xh s2) r1,by rw[Bk];exact r2,FC hc,by rw[Bk];exact Tl w2 P3⟩
end
section
variable [fd:FdOk Fd]{u:TS}
end
section
end
section
def T5 (P:Program)(w:World):List V->Hp->VK->Prop:=λxs H Q=>∃ l ns,xs=[.ref l]/\H l=some (Wm P w l ns)/\ns.length<64/\Q (.int ns.length) H
theorem FZ:ZZ X (.builtin "len") (T5 X.prog X.w):=by
 intro aa s σ H xs us Q I r h
 obtain⟨l,ns,rfl,he,eJ,q⟩:=h
 obtain⟨u,rfl,ru⟩:=VD r
 cases ru
 have hS:DE X.prog X.w s.heap l ns:=(show YE X.prog X.w H s.heap l (Wm X.prog X.w l ns) from I.hok l _ he).1
 obtain⟨o,es,ep,t,ho,hex,hd,c⟩:=hS
 have hl:=c.len
 exact call_len_set ho hex hd c.fit (by omega) ⟨.int ns.length,H,I.tok _,⟨_,by rw[hl]⟩,q⟩
end
section
end
section
variable {lt:α->α->Bool}{d:Nat}
end
section
end
section
variable {s0:Shared}
def As (X:Cx)(g:Heap)(d:Addr)(xs:List (List Key×Addr×Value)):Prop:=∃ o es ep,g.get? d=some o/\o.ExactDict/\o.data= .dict es ep/\es.toList=xs.map (entryOfKey (tupleKind (Yi X.prog X.w)))/\(xs.map (·.1)).Nodup
theorem As.of {xs:List (List Key×Addr×Value)}(D:g.DictOfH (tupleKind (Yi X.prog X.w)) d xs):As X g d xs:=by
 obtain⟨o,es,ep,h1,h2,h3,h4,_,h5⟩:=D
 exact⟨o,es,ep,h1,h2,h3,h4,h5⟩
end
section
end
section
variable {E:XK}
end
section
variable {o:Expr}{to:TE}{t:TA}{name:Str}{aT aF:Pos}{id:String}{r:V->List V->Hp->VK->Prop}
end
section
end
section
variable [fd:FdOk Fd]{u:TS}
theorem Sa {q:Enc γ}[z:MonoE r][y:MonoE q][MonoE t]{ma:Rs α}{mb:Rs γ}{mc:Rs δ}{f:α->γ->δ->Rs β}(i j k:Nat)(ha:EvS K Er S OO σ ta r ma)(hb:EvS K Er S OO σ tb q mb)(hc:EvS K Er S OO σ tc t mc)
  (hr:∀a b c v w x,Sv Er (((S.add K r v a).add K q w b).add K t x c) OO (((σ.set i (some v)).set j (some w)).set k (some x)) u Fd (f a b c)):Sv Er S OO σ (ZY (Rg i j k (Xv ta (Xv tb (Xv tc YK)))) u) Fd (ma.bind λa=>mb.bind λb=>mc.bind λc=>f a b c):=λH D w s P=>
 ha.st w s P λa v1 H1 s1 w1 q1 r1 P1=>hb.st w1 q1 P1 λb v2 H2 s2 w2 q2 r2 P2=>hc.st w2 q2 P2 λc v3 H3 s3 w3 q3 r3 P3=>
  ⟨v1,v2,v3,rfl,hr a b c v1 v2 v3 H3 D w3 ⟨⟨⟨q3,z.mono (Xh s3) (z.mono (Xh s2) r1)⟩,y.mono (Xh s3) r2⟩,r3⟩ P3⟩
end
end L2
namespace HT
open PySem PySem.Spec PyProof PyProof.Rows
section
end
end HT
namespace L2
open PySem PySem.Spec PyProof.Rows
section
end
section
end
section
variable [fd:FdOk Fd]{u:TS}
theorem BJ [MonoE r]{a:Option α}(h:∀x,S.p x->Gm r K x v a)(hr:∀b,Sv Er (S.add K r v b) OO σ u Fd (f b)):Sv Er S OO σ u Fd ((Gz a).bind f):=λH D w s P=>by
 cases a with
 |none=>exact P.elim
 |some b=>exact hr b H D w ⟨s,(h _ s).2⟩ P
end
section
variable {E:XK}{u:TS}
end
section
def ltP (a b:Int×Int):Bool:=if a.1=b.1 then decide (a.2<b.2) else decide (a.1<b.1)
theorem Gh:OrdT ltP:=⟨⟨λa=>by simp[ltP],fun {a b c} h1 h2=>by
 unfold ltP at*
 split at h1<;> split at h2<;> split<;> simp only[decide_eq_true_eq] at* <;> omega⟩,fun {a b} h=>by
 unfold ltP
 by_cases e:a.1=b.1
 ·rw[if_pos e,if_pos e.symm,decide_eq_true_eq,decide_eq_true_eq]
  have:a.2≠b.2:=λz=>h (Prod.ext e z)
  omega
 ·rw[if_neg e,if_neg (Ne.symm e),decide_eq_true_eq,decide_eq_true_eq];omega⟩
theorem MZ {x y:V}(h:Yf [x,y] us):∃a b,us=[a,b]/\Ya x a/\Ya y b:=by
 cases h with
 |cons a b=>cases b with
  |cons c d=>cases d with
   |nil=>exact⟨_,_,rfl,a,c⟩
def OJ (K:W.Frag):List V->Hp->VK->Prop:=λxs H Q=>∃ l ys,∃as:List (Int×Int),xs=[.ref l]/\SqL K H l ys/\Paired (rP2 Xf Xf K H) ys as/\as.Nodup/\as.length<64/\
 ∀p zs,H p=none->(zs.zip (Zv ltP as)).Perm (ys.zip as)->zs.length=as.length->Q (.ref p) (upd H p (.lst zs))
open Classical in
def kfP (T:List (Value×V×Int×Int))(v:Value):Int×Int:=if h:∃t,t∈T/\t.1=v then(Classical.choose h).2.2 else(0,0)
theorem LY (hu:∀t u,t∈T->u∈T->t.1=u.1->t.2.2=u.2.2)(ht:t∈T):kfP T t.1=t.2.2:=by
 have h:∃u,u∈T/\u.1=t.1:=⟨t,ht,rfl⟩
 unfold kfP
 rw[dif_pos h]
 exact hu _ _ (Classical.choose_spec h).1 ht (Classical.choose_spec h).2
theorem OA {F:Value->V->γ->Prop}:∀{its:List Value}{ys:List V}{as:List γ}{G:V->γ->Prop},Paired Ya ys its->Paired G ys as->(∀v y a,Ya y v->G y a->F v y a)->∃T:List (Value×V×γ),T.map (·.1)=its/\T.map (λt=>(t.2.1,t.2.2))=ys.zip as/\T.map (·.2.2)=as/\∀t∈T,F t.1 t.2.1 t.2.2
 |_,_,_,_, .nil, .nil,_=>⟨[],rfl,rfl,rfl,λt h=>nomatch h⟩
 |_,_,_,_, .cons r1 p1, .cons r2 p2,h=>by
  obtain⟨T,e1,e2,e3,hT⟩:=OA p1 p2 h
  exact⟨(_,_,_)::T,by rw[List.map_cons,e1],by rw[List.map_cons,e2];rfl,by rw[List.map_cons,e3],λt ht=>(List.mem_cons.mp ht).elim (λz=>z▸h _ _ _ r1 r2) (hT t)⟩
theorem W8 (I:Inv X aa σ H s):∀(T:List (Value×V×Int×Int)),(∀t∈T,Ya t.2.1 t.1/\rP2 Xf Xf X.K H t.2.1 t.2.2)->∃fs,PySem.W.KatTups s.heap (T.map (·.1)) fs/\fs.length=T.length/\∀v∈fs,∃i t,v= .int i t
 | [],_=>⟨[], .nil,rfl,λv h=>nomatch h⟩
 |t::T,h=>by
  obtain⟨fs,k1,k2,k3⟩:=W8 I T λu hu=>h u (List.mem_cons_of_mem _ hu)
  obtain⟨r1,a,x,y,w1,m1,h1,h2⟩:=h t List.mem_cons_self
  rw[w1] at r1
  have hJ:t.1= .ref a:=r1
  obtain⟨its,rv,⟨o,g1,c1,n,d1⟩,_⟩:=I.tuple (SqT.of m1)
  have e1:x= .int t.2.2.1:=h1
  subst e1
  obtain⟨u1,us,rfl,⟨tk,e2⟩,rr⟩:∃u1 us,its=u1::us/\Ya (.int t.2.2.1) u1/\Yf [y] us:=by
   cases rv with
   |cons a b=>exact⟨_,_,rfl,a,b⟩
  refine⟨u1::fs,?_,by simp[k2],λv hv=>?_⟩
  ·rw[List.map_cons,hJ]
   exact .cons g1 c1 d1 (by simp) k1
  ·rcases List.mem_cons.mp hv with z |z
   ·exact⟨_,_,z.trans e2⟩
   ·exact k3 v z
theorem Bj {Er:Value->Shared->Prop}{as:List (Int×Int)}{R:Addr->Shared->Prop}(I:Inv X aa σ H s)(rv:Yf ys its)(hp:Paired (rP2 Xf Xf X.K H) ys as)(dQ:as.Nodup)(eJ:as.length<64)(hu:A.units+3<cLine)
  (q:∀zs s',Inv X aa σ (upd H s.heap.objs.size (.lst zs)) s'->H s.heap.objs.size=none->(zs.zip (Zv ltP as)).Perm (ys.zip as)->zs.length=as.length->R s.heap.objs.size s'):
  wpAny (model X.prog X.w) A (newList its >>= λl=>holding [l] (call (.builtin "list.sort") [l] []) >>= λ_=>ret l) (λfin s'=>∃ p,fin= .done (.ret (.ref p))/\R p s') Er s:=by
 obtain⟨T,e1,e2,e3,hT⟩:=OA (F:=λv y a=>Ya y v/\rP2 Xf Xf X.K H y a) rv hp λv y a h1 h2=>⟨h1,h2⟩
 have aj:its.length=as.length:=by rw[←e1, ←e3,List.length_map,List.length_map]
 have huq:∀t u,t∈T->u∈T->t.1=u.1->t.2.2=u.2.2:=λt u ht hu' e=>by
  obtain⟨r1,l1⟩:=hT t ht
  obtain⟨r2,l2⟩:=hT u hu'
  obtain⟨b1,x1,y1,w1,m1⟩:=id l1
  obtain⟨b2,x2,y2,w2,m2⟩:=id l2
  rw[w1] at r1 l1
  rw[w2] at r2 l2
  have hJ:t.1= .ref b1:=r1
  have r2':u.1= .ref b2:=r2
  rw[hJ,r2'] at e
  cases e
  exact(Cv eq_int eq_int).uniq I l1 l2
 refine wpAny_bind (wpAny_newList ?_ (by rw[aj,sizeLine_eq];omega))
 let g0:=s.heap.push (seqObj "list" its.toArray 0)
 have gC:g0.get? s.heap.objs.size=some (seqObj "list" its.toArray 0):=Heap.get?_push_size _ rfl
 have hU:∀b o,s.heap.get? b=some o->g0.get? b=some o:=λb o hb=>Heap.get?_push_of_some _ hb
 show wpAny _ _ _ _ _ {s with heap:=g0}
 have hne:∀{b o},s.heap.get? b=some o->b≠s.heap.objs.size:=λhb=>Nat.ne_of_lt (Heap.lt_size hb)
 have I2:Inv X aa σ H {s with heap:=mid g0 s.heap.objs.size its,toks:=s.toks}:=I.kept λb o hb=>Rc (hne hb) (hU b o hb)
 have hitm:∀v,v∈its->∃t,t∈T/\t.1=v:=λv hv=>by rw[←e1] at hv;exact List.mem_map.mp hv
 have htyp:∀(A:Around) (Er:Value->Shared->Prop),2<=its.length->∀Q:SortKind->Shared->Prop,Q (tuples' true) {s with heap:=mid g0 s.heap.objs.size its}->wpAny (model X.prog X.w) A (keyKind' its.toArray) Q Er {s with heap:=mid g0 s.heap.objs.size its}:=λA Er h2 Q q=>by
  obtain⟨fs,k1,k2,k3⟩:=W8 I2 T λt ht=>hT t ht
  rw[e1] at k1
  refine PySem.W.kat_kind (T:=.type "int") k1 (by rw[k2, ←List.length_map (f:=(·.1)),e1];omega) (λv hv=>?_) rfl q
  obtain⟨i,t,rfl⟩:=k3 v hv
  exact .now
 have key:∀{st:SortSt}{i:Nat},SB (tuples' true) (pairsOf its) st->i<(pairsOf its).size->∃t p,t∈T/\(arrOf st)[i]?=some (t.1,p)/\kp (kfP T) (0,0) (arrOf st) i=t.2.2:=fun {st i} B hi=>by
  have bM:i<(arrOf st).size:=by rw[B.size];exact hi
  have hm:(arrOf st)[i]∈(pairsOf its).toList:=(Array.perm_iff_toList_perm.mp B.perm).mem_iff.mp (by simp)
  rw[pairsOf_toList] at hm
  obtain⟨t,ht,e⟩:=hitm _ (mem_zip_self hm).2
  have eg:(arrOf st)[i]?=some (arrOf st)[i]:=getElem?_pos _ i bM
  refine⟨t,(arrOf st)[i].2,ht,by rw[eg,e],?_⟩
  unfold kp
  rw[eg,Option.map_some,Option.getD_some, ←e]
  exact LY huq ht
 have bN:∀{st:SortSt},SB (tuples' true) (pairsOf its) st->((arrOf st).toList.map λp=>kfP T p.1).Perm as:=fun {st} B=>by
  have h1:(arrOf st).toList.Perm (its.zip its):=by rw[←pairsOf_toList];exact Array.perm_iff_toList_perm.mp B.perm
  have h2:=h1.map λp=>kfP T p.1
  have h3:(its.zip its).map (λp=>kfP T p.1)=as:=by
   have:(its.zip its).map (λp=>kfP T p.1)=((its.zip its).map Prod.fst).map (kfP T):=by rw[List.map_map];rfl
   rw[this,List.map_fst_zip (Nat.le_refl _), ←e1, ←e3,List.map_map]
   exact List.map_congr_left λt ht=>LY huq ht
  rwa [h3] at h2
 have kat:∀{st:SortSt}{i:Nat} (hi:i<(arrOf st).size),kp (kfP T) (0,0) (arrOf st) i=((arrOf st).toList.map λp=>kfP T p.1)[i]'(by simpa using hi):=fun {st i} hi=>by
  unfold kp
  rw[getElem?_pos (arrOf st) i hi]
  simp
 have OL:=Gh
 have LK:∀(A:Around) (Er:Value->Shared->Prop),A.units+1<cLine->Asks X.prog X.w A Er {s with heap:=mid g0 s.heap.objs.size its} (tuples' true) ltP (kfP T) (0,0) (pairsOf its):=λA Er hA=>{
  irr:=OL.irr
  tr:=OL.tr
  ask:=fun {st i j Q} B hi hj qq=>by
   obtain⟨t,p,ht,et,kt⟩:=key B hi
   obtain⟨t',p',ht',et',kt'⟩:=key B hj
   rw[kt,kt'] at qq
   rw[ltAt'_eq]
   refine wpS_bind (wpS_get ?_)
   show wpS _ _ _ _ (elem' (arrOf st) i >>= λx=>elem' (arrOf st) j >>= λy=>lt' x y) Q st
   rw[elem'_eq,elem'_eq,et,et']
   refine wpS_bind (wpS_pure (wpS_bind (wpS_pure ?_)))
   rw[lt'_eq]
   refine wpS_bind (wpS_get ?_)
   rw[B.kind]
   refine wpS_bind (wpS_lift (wpAny_attempt ?_))
   obtain⟨r1,a1,x1,y1,v1,m1,gX,hy1⟩:=hT t ht
   obtain⟨r2,a2,x2,y2,v2,m2,eE,hy2⟩:=hT t' ht'
   rw[v1] at r1
   rw[v2] at r2
   have hJ:t.1= .ref a1:=r1
   have r2':t'.1= .ref a2:=r2
   obtain⟨is1,gj,⟨o1,g1,_,n1,d1⟩,_⟩:=I2.tuple (SqT.of m1)
   obtain⟨is2,fe,⟨o2,g2,_,n2,d2⟩,_⟩:=I2.tuple (SqT.of m2)
   rw[show x1=V.int t.2.2.1 from gX,show y1=V.int t.2.2.2 from hy1] at gj
   rw[show x2=V.int t'.2.2.1 from eE,show y2=V.int t'.2.2.2 from hy2] at fe
   obtain⟨p1,p2,rfl,q1,q2⟩:=MZ gj
   obtain⟨p3,p4,rfl,q3,q4⟩:=MZ fe
   rw[hJ,r2']
   refine PySem.W.kat_lt g1 d1 g2 d2 ?_
   show PySem.W.KatLex _ _ _ true _ _ [(p1,p3),(p2,p4)] 0 _
   refine PySem.W.kat_cons (eq_int.eq (A:=A) I2 q1 q3 rfl rfl (by omega) _ _ _ _ ?_)
   refine PySem.W.kat_go (λz=>PySem.W.kat_yes (PySem.W.kat_cons (eq_int.eq (A:=A) I2 q2 q4 rfl rfl (by omega) _ _ _ _ (PySem.W.kat_go (λy=>PySem.W.kat_yes (PySem.W.kat_nil ?_)) λy=>PySem.W.kat_no (PySem.W.kat_one _ _ ?_))))) λz=>PySem.W.kat_no ?_
   ·have z:=of_decide_eq_true z
    have y:=of_decide_eq_true y
    unfold ltP at qq
    rw[if_pos z,decide_eq_false (by omega)] at qq
    exact⟨rfl,wpS_pure qq⟩
   ·have z:=of_decide_eq_true z
    have y:=of_decide_eq_false y
    unfold ltP at qq
    rw[if_pos z] at qq
    exact lt_int.at' (A:=A) I2 q2 q4 rfl rfl (by omega) _ _ _ _ ⟨rfl,wpS_pure qq⟩
   ·have z:=of_decide_eq_false z
    unfold ltP at qq
    rw[if_neg z] at qq
    obtain⟨tk1,rfl⟩:=q1
    obtain⟨tk3,rfl⟩:=q3
    exact oneLt_int ⟨rfl,wpS_pure qq⟩
  two:=fun {st i j} B hi hj hne=>by
   have bM:i<(arrOf st).size:=by rw[B.size];exact hi
   have cT:j<(arrOf st).size:=by rw[B.size];exact hj
   rw[kat bM,kat cT]
   refine OL.tot λe=>hne ?_
   have hN:=(bN B).nodup_iff.mpr dQ
   have hP:=List.pairwise_iff_getElem.mp hN
   rcases Nat.lt_trichotomy i j with z |z |z
   ·exact absurd e (hP i j (by simpa using bM) (by simpa using cT) z)
   ·exact z
   ·exact absurd e.symm (hP j i (by simpa using cT) (by simpa using bM) z)}
 refine wpAny_bind (wpAny_holding (wpAny_call_entry slot_list_sort ⟨_,gC,rfl⟩ entry_list_sort (P9 gC (by omega) (λh2 _ hq=>htyp _ _ h2 _ hq) (LK _ _ (by rw[ZN];omega)) λout hp hr=>⟨_,rfl,wpAny_pure ⟨_,rfl,?_⟩⟩) (args_list_sort _)))
 have bO:out.toList.Perm (its.zip its):=by rw[←pairsOf_toList];exact Array.perm_iff_toList_perm.mp hp
 have hV:∀p∈out.toList,p.1=p.2:=λp e8=>(mem_zip_self (bO.mem_iff.mp e8)).1
 have hW:out.toList.map (·.1)=(out.map (·.2)).toList:=by
  rw[Array.toList_map];exact List.map_congr_left λp e8=>hV p e8
 have hX:((out.map (·.2)).toList).Perm its:=by
  have:=bO.map Prod.fst
  rw[List.map_fst_zip (Nat.le_refl _)] at this
  rw[←hW];exact this
 obtain⟨T',hZ,eT'⟩:=MU hX (l:=T) (f:=(·.1)) e1.symm
 have dr:T'.map (·.2.2)=out.toList.map λp=>kfP T p.1:=by
  have h1:T'.map (·.2.2)=(T'.map (·.1)).map (kfP T):=by
   rw[List.map_map];exact List.map_congr_left λt ht=>(LY huq (hZ.mem_iff.mp ht)).symm
  rw[h1,eT', ←hW,List.map_map];rfl
 have hol:out.size=its.length:=by have:=hp.size_eq;rwa [pairsOf_size] at this
 have h8:T'.map (·.2.2)=Zv ltP as:=by
  refine V7 OL dQ (by rw[←e3];exact hZ.map _) ?_
  rw[dr,List.pairwise_iff_getElem]
  intro i j hi hj b8
  have bM:i<out.size:=by simpa using hi
  have cT:j<out.size:=by simpa using hj
  have:=hr i j b8 (by omega)
  unfold kp at this
  rw[getElem?_pos out i bM,getElem?_pos out j cT] at this
  simpa using this
 have vv:∀{U:List (Value×V×Int×Int)},(∀t∈U,Ya t.2.1 t.1)->Yf (U.map (·.2.1)) (U.map (·.1)):=fun {U}=>by
  induction U with
  |nil=>intro _;exact .nil
  |cons t U ih=>intro h;exact .cons (h t List.mem_cons_self) (ih λu hu'=>h u (List.mem_cons_of_mem _ hu'))
 obtain⟨e,he⟩:=sortedHeap_at (out:=out.map (·.2)) gC
 have dD:H s.heap.objs.size=none:=I.hok.fresh (Nat.le_refl _)
 have hvv:Yf (T'.map (·.2.1)) (out.map (·.2)).toList:=by rw[←eT'];exact vv λt ht=>(hT t (hZ.mem_iff.mp ht)).1
 have gk:(T'.map (·.2.1)).length=as.length:=by rw[List.length_map,hZ.length_eq, ←e3,List.length_map]
 refine q (T'.map (·.2.1)) _ (I.laid (t':=s.toks) (λb o e=>?_) (Nat.le_refl _) (show YE X.prog X.w _ _ _ (.lst (T'.map (·.2.1))) from⟨?_,(Array.map (λp:Keyed=>p.2) out).toList,e,hvv,he⟩)) dD ?_ gk
 ·exact L2.J3 (hne e) (hU _ _ e)
 ·rw[gk,sizeLine_eq];omega
 ·rw[←h8, ←e2]
  have:(T'.map (·.2.1)).zip (T'.map (·.2.2))=T'.map λt=>(t.2.1,t.2.2):=by
   rw[List.zip_map']
  rw[this]
  exact hZ.map _
theorem JF (K:W.Frag)(hK:X.K=K)(hu:X.A.units+4<cLine):ZZ X (.builtin "sorted") (OJ K):=by
 subst hK
 intro aa s σ H xs us Q I rr h
 obtain⟨l,ys,as,rfl,hq,hp,dQ,eJ,q⟩:=h
 obtain⟨u,rfl,ru⟩:=VD rr
 cases ru
 obtain⟨its,rv,pl,hz⟩:=I.list hq
 have aj:its.length=as.length:=by rw[←Paired.len hp];exact rv.length.symm
 refine Calls.call_function_entry kind_sorted plain_sorted entry_sorted (args_sorted1 _) ?_
 unfold Builtin.«sorted»
 refine wpAny_bind (m:=checkCount "sorted" 1 1 _) (wpAny_pure (wpAny_bind (collect_list pl.isList ?_ (by rw[aj,sizeLine_eq];omega))))
 have I1:Inv X aa σ H {s with heap:=(s.heap.push (seqObj "list" #[] 0)).update s.heap.objs.size (Obj.mapSeq (· ++its.toArray)),toks:=s.toks}:=I.kept λb o hb=>by
  have av:=Heap.lt_size hb
  rw[Heap.get?_update_ne _ _ _ _ (Nat.ne_of_lt av),Heap.get?_push_ne _ _ _ (Nat.ne_of_lt av)]
  exact hb
 refine wpAny_mono (Bj (A:=X.A.in1) I1 rv hp dQ eJ (by rw[ZN];omega) (R:=λp s'=>EP X aa σ Q (.ref p) s') λzs s' I' hf eG gk=>⟨.ref _,_,I',rfl,q _ zs hf eG gk⟩) (λfin s' r9=>?_) λ_ _ x=>x
 obtain⟨p,e,r⟩:=r9
 subst e
 exact⟨_,rfl,r⟩
end
section
theorem Tf {l sl:Addr}{items ys:List Value}{vl vu:Value}{lo hi:Option Int}{Q:Unit->Shared->Prop}(hl:s.heap.get? l=some {cls:=.type "list",data:=.seq items.toArray n})
  (hs:s.heap.IsSliceOf sl vl vu .none)(pl:IsPart vl lo)(pu:IsPart vu hi)(hb:s.heap.IsList b ys.toArray)(hne:l≠b)(hz:items.length+ys.length<=sizeLine)
  (h:Q () {s with heap:=s.heap.update l (Obj.mapSeq λxs=>xs.extract 0 (HT.sIx items.length 0 lo)++ys.toArray++xs.extract (max (HT.sIx items.length 0 lo) (HT.sIx items.length items.length hi)) xs.size)}):
  wpAny (model prog w) A (setItem (.ref l) (.ref sl) (.ref b)) Q E s:=by
 have hL:s.heap.IsList l items.toArray:=PySem.IsL.isList (n:=n) hl
 obtain⟨ob,e9,hbc,nb,hbd⟩:=id hb
 obtain⟨os,dO,eO,fr⟩:=id hs
 have hTs:s.TypeIs (.ref sl) "slice":=⟨os,dO,eO⟩
 unfold setItem
 try with_reducible refine wpAny_holding ?_
 first |refine wpAny_bind (wpAny_pure ?_) |skip
 refine wpAny_bind (wpAny_sequenceKey hL.typeIs (by decide) ?_)
 refine wpAny_bind (wpAny_callSpecial?_slot (name:=Str.ofString "__setitem__") hL.typeIs slot_list_setitem
  (wpAny_call_entry slot_list_setitem hL.typeIs entry_list_setitem ?_ (args_list_setitem _ _ _)))
 show wpAny _ _ (Builtin.List.listSubscript? (.ref sl) >>= _) _ _ s
 refine wpAny_bind ?_
 unfold Builtin.List.listSubscript?
 refine wpAny_bind (wpAny_specialOf hTs slice_no_index ?_)
 simp only[Option.isNone_none,if_true]
 refine wpAny_pure ?_
 show wpAny _ _ (typeOf (.ref sl) >>= _) _ _ s
 refine wpAny_bind (wpAny_typeOf hTs ?_)
 rw[if_neg (by decide)]
 rw[listSliceParts_eq]
 refine wpAny_bind (wpAny_bind (wpAny_field dO fr (x:=.none) rfl (wpAny_bind (wpAny_listPart .none ?_))))
 rw[if_neg (show ¬((rawPart none==rawInt 0)=true) from Bool.false_ne_true)]
 refine wpAny_bind (wpAny_field dO fr (x:=vl) rfl (wpAny_bind (wpAny_listPart pl ?_)))
 refine wpAny_bind (wpAny_field dO fr (x:=vu) rfl (wpAny_bind (wpAny_listPart pu (wpAny_pure ?_))))
 dsimp only
 rw[if_neg (by
  have:(l==b)=false:=by rw[beq_eq_false_iff_ne];exact hne
  simp[Builtin.List.listSameRef,this])]
 unfold Builtin.List.listAllItems
 refine wpAny_bind (wpAny_bind (wpAny_typeOf hb.typeIs ?_))
 rw[if_pos (by decide)]
 unfold Builtin.List.listItems
 refine wpAny_bind (wpAny_seqItems e9 hbd (wpAny_pure ?_))
 refine wpAny_bind (wpAny_bind (wpAny_seqItems hl rfl (wpAny_pure ?_)))
 obtain⟨b1,b2,b3⟩:=U6 lo hi items.length
 refine wpAny_bind (wpAny_of_eq ((sliceIndices_raw lo hi none items.toArray.size (by simp)).trans (congrArg (pure:Int×Int×Int->Sem (Int×Int×Int)) (show sliceBounds lo hi none items.toArray.size=(((HT.sIx items.length 0 lo:Nat):Int),((HT.sIx items.length items.length hi:Nat):Int),1) by rw[List.size_toArray];exact Prod.ext b1 (Prod.ext b2 b3)))) ?_)
 show wpAny _ _ (if((1:Int)==1)=true then _ else _) _ _ s
 rw[if_pos (by decide)]
 refine wpAny_bind (wpAny_rule ?_)
 have hsz:items.toArray.size+ys.toArray.size<=sizeLine:=by rw[List.size_toArray,List.size_toArray];exact hz
 first
  |simp only[Ky hsz,Bool.false_eq_true,if_false]
  |refine PySem.W.KFB.if_not (Ky hsz) ?_
 first |refine wpAny_bind (wpAny_pure ?_) |skip
 have hmax:(max ((HT.sIx items.length 0 lo:Nat):Int) ((HT.sIx items.length items.length hi:Nat):Int)).toNat=max (HT.sIx items.length 0 lo) (HT.sIx items.length items.length hi):=by omega
 show wpAny _ _ (updateSeq l (λxs=>xs.extract 0 (((HT.sIx items.length 0 lo:Nat):Int)).toNat++ys.toArray++xs.extract (max ((HT.sIx items.length 0 lo:Nat):Int) ((HT.sIx items.length items.length hi:Nat):Int)).toNat xs.size) >>= _) _ _ s
 rw[hmax,Int.toNat_natCast]
 refine wpAny_bind (wpAny_updateSeq (hz:=Nat.le_trans (Nat.le_add_right _ _) hsz) (_hz':=by
  simp only[Array.size_append,Array.size_extract,List.size_toArray]
  have:HT.sIx items.length 0 lo<=items.length:=HT.sIx_le _ _ (Nat.zero_le _) lo
  omega) hl rfl ?_)
 refine wpAny_bind (wpAny_letGo ?_)
 first
  |exact wpAny_bind (wpAny_pure (wpAny_pure ⟨.none,rfl,wpAny_pure h⟩))
  |exact wpAny_pure ⟨.none,rfl,wpAny_pure h⟩
end
def spl (xs:List α)(lo hi:Option Int)(ys:List α):List α:=xs.take (HT.sIx xs.length 0 lo)++ys++xs.drop (max (HT.sIx xs.length 0 lo) (HT.sIx xs.length xs.length hi))
section
variable {o:Expr}{lo hi:Option Expr}{p2:Pos}{to:TE}{tl th:TO}
def gSl (to:TE)(tl th:TO):TG:=λv σ H Q=>to σ H λx H1=>tl σ H1 λl H2=>th σ H2 λu H3=>∃ p xs b ys,x= .ref p/\v= .ref b/\H3 p=some (.lst xs)/\H3 b=some (.lst ys)/\p≠b/\xs.length+ys.length<=sizeLine/\Q σ (upd H3 p (.lst (spl xs l u ys)))
theorem W0 (ho:PE X o to)(hl:PO X lo tl)(hu:PO X hi th)
  (ha:∀v,assign (.Subscript o (.Slice lo hi none p2) pos) X.env v=(do
   let ov ←holding [v] (eval o X.env)
   let iv ←holding [v,ov] (eval (.Slice lo hi none p2) X.env)
   standAt pos
   holding [v,ov,iv] (setItem ov iv v)
   release [iv,v,ov] []):=by intro _;rfl):PG X (.Subscript o (.Slice lo hi none p2) pos) (gSl to tl th):=by
 intro aa s σ H v u Q I r h
 rw[ha]
 refine wpAny_bind (wpAny_holding (thn (ho aa s σ H _ I h) λov s1 r9=>?_))
 obtain⟨x,H1,I1,r1,q1⟩:=r9
 refine wpAny_bind (wpAny_holding (wpAny_Slice (thn (hl aa s1 σ H1 _ I1 q1) λvl s2 ⟨l,H2,I2,pl,q2⟩=>thn (hu aa s2 σ H2 _ I2 q2) λvu s3 r9=>?_)))
 obtain⟨u',H3,I3,pu,q3⟩:=r9
 rw[evalPart_none]
 refine wpAny_pure ?_
 have I4:Inv X aa σ H3 {s3 with heap:=s3.heap.push {cls:=.type "slice",data:=.fields #[vl,vu, .none]}}:=I3.kept (t':=s3.toks) λb ob q=>Heap.get?_push_of_some _ q
 obtain⟨p,xs,b,ys,rfl,rfl,e1,e2,hne,hz,q⟩:=q3
 cases r1
 cases r
 obtain⟨its,n,rv,g1,z1⟩:=I4.lst e1
 obtain⟨aB,n2,fe,g2,z2⟩:=I4.lst e2
 have l1:=rv.length
 have l2:=fe.length
 refine wpAny_bind (wpAny_standAt (wpAny_bind (wpAny_holding (Tf g1 (Heap.IsSliceOf.new ..) pl pu (PySem.IsL.isList (n:=n2) g2) hne (by omega) ?_))))
 refine wpAny_release ⟨σ,_,?_,q⟩
 rw[←l1]
 refine I4.lset (t':=s3.toks) (its':=its.take (HT.sIx xs.length 0 l)++aB++its.drop (max (HT.sIx xs.length 0 l) (HT.sIx xs.length xs.length u'))) e1 g1 (IU its aB _ _) ?_ ?_
 ·exact Yf.append (Yf.append (rv.take _) fe) (rv.drop _)
 ·unfold spl
  rw[List.length_append,List.length_append,List.length_take,List.length_drop]
  have:HT.sIx xs.length 0 l<=xs.length:=HT.sIx_le _ _ (Nat.zero_le _) l
  omega
end
section
variable {G:Hp}
def HY (H G:Hp):Hp:=λb=>match G b with
 |some o=>some o
 |none=>H b
theorem CU {o:HO}(h:G b=some o):HY H G b=some o:=by unfold HY;rw[h]
theorem Uf (h:G b=none):HY H G b=H b:=by unfold HY;rw[h]
theorem Inv.laidG {t':Nat}(I:Inv X aa σ H s)(k:∀b u,s.heap.get? b=some u->h'.get? b=some u)(hp:∀a o,G a=some o->s.heap.objs.size<=a)(new:∀a o,G a=some o->YE X.prog X.w (HY H G) h' a o):
  Inv X aa σ (HY H G) {s with heap:=h',toks:=t'}:=by
 have bP:∀b u,H b=some u->HY H G b=some u:=λb u e=>by
  cases hg:G b with
  |none=>rw[Uf hg];exact e
  |some o=>have:=I.hok.fresh (hp b o hg);rw[this] at e;cases e
 have oldN:∀b,b<s.heap.objs.size->HY H G b=H b:=λb hb=>by
  cases hg:G b with
  |none=>exact Uf hg
  |some o=>have:=hp b o hg;omega
 refine I.un ⟨λb u q _ _ _=>k b u q,λb u q _ _ _=>⟨u.slots,k b u q⟩,λb u q n _=>by rw[oldN b (Heap.lt_size q)];exact n,λb u q _=>⟨u,k b u q⟩,λb xs q=>bP b _ q,λb u xs q=>bP b _ q,λb ps q=>⟨#[],by rw[bP b _ q];simp⟩⟩ λb u e=>?_
 cases hg:G b with
 |some o=>rw[CU hg] at e;cases e;exact new b _ hg
 |none=>
  rw[Uf hg] at e
  exact(I.hok b u e).stay (λc v _ q=>k c v q) (λc q=>bP c _ q) λc xs q=>bP c _ q
theorem Gs {R:α->β->Prop}:∀{xs:List α}{ys:List β},xs.length=ys.length->(∀(j:Nat) x y,xs[j]?=some x->ys[j]?=some y->R x y)->Paired R xs ys
 | [],[],_,_=>.nil
 | [],_::_,h,_=>by simp at h
 |_::_,[],h,_=>by simp at h
 |x::xs,y::ys,h,r=>.cons (r 0 x y rfl rfl) (Gs (by simpa using h) λj a b ha hb=>r (j+1) a b (by simpa using ha) (by simpa using hb))
theorem Hq {R:α->β->Prop}{xs:List α}(h:Paired R xs ys):∀{p:α×β},p∈xs.zip ys->R p.1 p.2:=by
 induction h with
 |nil=>intro p hp;simp at hp
 |cons r _ ih=>
  intro p hp
  rw[List.zip_cons_cons] at hp
  rcases List.mem_cons.mp hp with z |z
  ·rw[z];exact r
  ·exact ih z
theorem FG {R:α->β->Prop}{as:List β}(hl:zs.length=bs.length)(hm:∀{p:α×β},p∈zs.zip bs↔p∈ys.zip as)(h:Paired R ys as):Paired R zs bs:=Gs hl λj x y hx hy=>by
 have:(x,y)∈zs.zip bs:=by
  rw[List.mem_iff_getElem?]
  exact⟨j,by rw[List.getElem?_zip_eq_some];exact⟨hx,hy⟩⟩
 exact Hq h (hm.mp this)
def OY (tl:TE)(K:W.Frag):TE:=λσ H Q=>tl σ H λx H1=>∃ l,∃d:List (Int×Int),x= .ref l/\H1 l=some (.dK (d.map λe=>(Sum.inl e.1,V.int e.2)))/\d.Nodup/\d.length<64/\
 ∀p H2 zs,Xx H1 H2->H1 p=none->H2 p=some (.lst zs)->Paired (rP2 Xf Xf K H2) zs (Zv ltP d)->Q (.ref p) H2
open Classical in
def L0 (as:List Addr)(d:List (Int×Int)):Hp:=λb=>if h:∃j:Nat,as[j]?=some b then(d[Classical.choose h]?).map λe=>HO.tup [.int e.1, .int e.2] else none
theorem Ri {as:List Addr}{d:List (Int×Int)}(hn:as.Nodup){e:Int×Int}(ha:as[j]?=some a)(he:d[j]?=some e):L0 as d a=some (.tup [.int e.1, .int e.2]):=by
 have h:∃j:Nat,as[j]?=some a:=⟨j,ha⟩
 unfold L0
 rw[dif_pos h]
 have hs:=Classical.choose_spec h
 have:Classical.choose h=j:=by
  obtain⟨h1,e1⟩:=List.getElem?_eq_some_iff.mp hs
  obtain⟨h2,e2⟩:=List.getElem?_eq_some_iff.mp ha
  exact(List.getElem_inj hn).mp (e1.trans e2.symm)
 rw[this,he]
 rfl
theorem DY {as:List Addr}{d:List (Int×Int)}{o:HO}(h:L0 as d a=some o):∃(j:Nat) (e:Int×Int),as[j]?=some a/\d[j]?=some e/\o= .tup [.int e.1, .int e.2]:=by
 unfold L0 at h
 split at h
 ·rename_i hx
  have hs:=Classical.choose_spec hx
  obtain⟨e,he,rfl⟩:=Option.map_eq_some_iff.mp h
  exact⟨_,e,hs,he,rfl⟩
 ·cases h
theorem KV.dget {d:List (Int×Int)}:∀{vs:List (Key×Value)},KV (d.map λe=>(Sum.inl e.1,V.int e.2)) vs->∀{j:Nat}{k:Key}{x:Value},vs[j]?=some (k,x)->∃e,d[j]?=some e/\k=Sum.inl e.1/\Ya (.int e.2) x:=by
 induction d with
 |nil=>intro vs h j k x e;cases h;simp at e
 |cons c d ih=>
  intro vs h j k x e
  cases h with
  |cons r t=>
   cases j with
   |zero=>
    have e:=Option.some.inj e
    subst e
    exact⟨c,rfl,r.1.symm,r.2⟩
   |succ j=>exact ih t (by simpa using e)
end
section
variable {l:Expr}{tl:TE}{npos aT aF:Pos}
theorem CY (hc:X.calm=true)(hg:Gl X "sorted")(hm:X.mg "sorted" =none)(hl:PE X l tl)(hu:X.A.units+4<cLine)
  (d3:attributeBase l "items" X.env (eval l X.env)=eval l X.env:=by rfl)(d6:(aT.endLine==aF.line)=true:=by rfl)
  (he:starEach [.Call (.Attribute l "items" aT) [] [] aF] X.env=(false,eval (.Call (.Attribute l "items" aT) [] [] aF) X.env)::starEach [] X.env:=by rfl)(bO:(backTo pos (starEach [] X.env)).any (·.1)=false:=by rfl):
  PE X (.Call (.Name "sorted" npos) [.Call (.Attribute l "items" aT) [] [] aF] [] pos) (OY tl X.K):=by
 intro aa s σ H Q I h
 refine wpAny_Call_Name_kw (UY I hg hm boot_sorted ?_ (by decide) (by decide))
 refine callWith_builtin1 ?_ he bO
 rw[he]
 show wpAny _ _ (spliced ((false,eval (.Call (.Attribute l "items" aT) [] [] aF) X.env)::backTo pos (starEach [] X.env))) _ _ s
 refine Calls.spliced_cons ?_
 refine wpAny_Call_method0_late d3 d6 (thn (hl aa s σ H _ I h) λv s1 r9=>?_)
 obtain⟨x,H1,I1,r1,q1⟩:=r9
 obtain⟨a,d,rfl,hd,dQ,eJ,q⟩:=q1
 cases r1
 obtain⟨hz,hs,vs,bH,hm⟩:=(show YE X.prog X.w H1 s1.heap a (.dK (d.map λe=>(Sum.inl e.1,V.int e.2))) from I1.hok a _ hd)
 refine⟨"dict","dict.items",F.plainAttrs_dict,F.slot_dict_items,F.type_dict_items,hm.typeIs,hm.mapOf.noDict,?_⟩
 refine method_meetsIn F.slot_dict_items F.entry_dict_items rfl (PySem.evalArgs_none ⟨rfl,hm.typeIs,F.args_dict_items_1 _,_,meets_dict_items (Yi X.prog X.w) a hs,⟨vs,hm⟩,?_⟩)
 obtain⟨ep,hat⟩:∃ep,s1.heap.DictAt (Yi X.prog X.w) a vs ep:=by
  obtain⟨o,es,ep,g1,g2,g3,g4⟩:=hm
  exact⟨ep,o,es,g1,g2,g3,g4⟩
 have hvw:(s1.heap.push {cls:=.type "dict_items",data:=.fields #[.ref a]}).IsItemsView s1.heap.objs.size a:=⟨_,Heap.get?_push_size _ rfl,rfl,rfl⟩
 refine wpAny_pure ?_
 have hl:=bH.length
 rw[List.length_map] at hl
 refine Calls.call_function_entry kind_sorted plain_sorted entry_sorted (args_sorted1 _) ?_
 unfold Builtin.«sorted»
 refine wpAny_bind (m:=checkCount "sorted" 1 1 _) (wpAny_pure (wpAny_bind (PySem.W.kdx_collect (A:=X.A.in1) (knd:=Yi X.prog X.w) (kvs:=vs) (ep:=ep) (I.ok.hd hc) hvw (hat.push _) (by rw[←hl,sizeLine_eq];omega) λh' tk as hk hla hG=>?_)))
 have hnA:as.Nodup:=hG.rise.imp λh=>Nat.ne_of_lt h
 have eK:∀(j:Nat) (b:Addr),as[j]?=some b->∃e,d[j]?=some e/\L0 as d b=some (.tup [.int e.1, .int e.2])/\∃its:List Value,Yf [.int e.1, .int e.2] its/\V5 h' b its.toArray:=λj b hb=>by
  obtain⟨key,k,x,e1,e2,e3⟩:=hG.pairs j b hb
  obtain⟨e,he,rfl,rx⟩:=bH.dget e1
  exact⟨e,he,Ri hnA hb he,[key,x], .cons (IQ (show G0 (Sum.inl e.1) key=true from e2)) (.cons rx .nil),⟨_,e3,⟨rfl,rfl⟩,_,rfl⟩⟩
 have I2:Inv X aa σ (HY H1 (L0 as d)) {s1 with heap:=h',toks:=tk}:=I1.laidG (λb u e=>hk b u (Heap.get?_push_of_some _ e)) (λb o e=>by
  obtain⟨j,_,hb,_⟩:=DY e
  have this:(s1.heap.push {cls:=.type "dict_items",data:=.fields #[.ref a]}).objs.size<b:=hG.above b (List.mem_of_getElem? hb)
  rw[Heap.size_push] at this
  omega) λb o e=>by
   obtain⟨j,e0,hb,he,rfl⟩:=DY e
   obtain⟨e1,eR,_,its,v1,v2⟩:=eK j b hb
   rw[he] at eR
   cases eR
   exact⟨by show 2<=sizeLine;decide,its,v1,v2⟩
 have fV:Paired (rP2 Xf Xf X.K (HY H1 (L0 as d))) (as.map V.ref) d:=Gs (by rw[List.length_map,hla, ←hl]) λj y b hy hb=>by
  rw[List.getElem?_map] at hy
  obtain⟨c,dU,rfl⟩:=Option.map_eq_some_iff.mp hy
  obtain⟨e,he,ht,_⟩:=eK j c dU
  rw[hb] at he
  cases he
  exact⟨c,_,_,rfl,CU ht,rfl,rfl⟩
 have hvv:∀l:List Addr,Yf (l.map V.ref) (l.map Value.ref):=λl=>by
  induction l with
  |nil=>exact .nil
  |cons a l ih=>exact .cons rfl ih
 have fz:Xx H1 (HY H1 (L0 as d)):=λb o e=>by
  cases hg:L0 as d b with
  |none=>rw[Uf hg];exact e
  |some u=>
   obtain⟨j,_,hb,_⟩:=DY hg
   have this:(s1.heap.push {cls:=.type "dict_items",data:=.fields #[.ref a]}).objs.size<b:=hG.above b (List.mem_of_getElem? hb)
   rw[Heap.size_push] at this
   have:=I1.hok.fresh (a:=b) (by omega)
   rw[this] at e;cases e
 refine wpAny_mono (Bj (A:=X.A.in1) I2 (hvv as) fV dQ eJ (by rw[ZN];omega) (R:=λp s'=>EP X aa σ Q (.ref p) s') λzs s' I' hf eG gk=>⟨.ref _,_,I',rfl,?_⟩) (λfin s' ⟨p,e,r⟩=>?_) λ_ _ x=>x
 ·have fR:Xx (HY H1 (L0 as d)) (upd (HY H1 (L0 as d)) h'.objs.size (.lst zs)):=λb o e=>by rw[XV (X2 e hf)];exact e
  refine q _ _ zs (fz.trans fR) ?_ X7 ?_
  ·cases e:H1 h'.objs.size with
   |none=>rfl
   |some o=>have:=fz _ _ e;rw[hf] at this;cases this
  ·exact FG (by rw[gk,(YJ ltP d).length_eq]) (eG.mem_iff) (Paired.imp2 (λ_ _ z=>MonoE.mono fR z) fV)
 ·subst e
  exact⟨_,rfl,r⟩
end
section
def OR (K:W.Frag):List V->Hp->VK->Prop:=λxs H Q=>∃ l ns,xs=[.ref l]/\SqT K H l (ns.map V.int)/\ns.length<64/\∀p,H p=none->Q (.ref p) (upd H p (.lst ((Y2 ns).map V.int)))
theorem U7 (K:W.Frag)(hK:X.K=K):ZZ X (.builtin "sorted") (OR K):=by
 subst hK
 intro aa s σ H xs us Q I r h
 obtain⟨l,ns,rfl,hq,eJ,q⟩:=h
 obtain⟨u,rfl,ru⟩:=VD r
 cases ru
 obtain⟨its,rv,⟨o,g1,c1,n1,d1⟩,hz⟩:=I.tuple hq
 have aj:=rv.length
 rw[List.length_map] at aj
 refine Calls.call_function_entry kind_sorted plain_sorted entry_sorted (args_sorted1 _) ?_
 show wpAny _ _ (checkCount "sorted" 1 1 1 >>= λ_=>collect (.ref l) >>= λxs=>newList xs >>= λl=>holding [l] (call (.builtin "list.sort") [l] []) >>= λ_=>ret l) _ _ _
 refine wpAny_bind (wpAny_pure ?_)
 refine wpAny_bind (PySem.wpAny_collect_seq l (.inr rfl) g1 c1 d1 (λg bP=>?_) (by rw[List.size_toArray,sizeLine_eq];omega))
 refine wpAny_bind (wpAny_newList ?_ (by simp;rw[sizeLine_eq];omega))
 have iw:IntsAre its.toArray.toList ns:=Dm (by simpa using rv)
 have gl:(g.push {cls:=Value.type "list",data:=Data.seq its.toArray.toList.toArray}).get? g.objs.size=some (seqObj "list" its.toArray.toList.toArray 0):=Heap.get?_push_size _ rfl
 refine wpAny_bind (wpAny_holding (wpAny_call_entry slot_list_sort ⟨_,gl,rfl⟩ entry_list_sort (list_sort_tree gl iw (by simp;omega) λout ns' a1 a2 a3=>⟨_,rfl,?_⟩) (args_list_sort _)))
 refine wpAny_pure ⟨_,rfl,?_⟩
 obtain⟨e,hat⟩:=sortedHeap_at (out:=out) gl
 have en:ns'=Y2 ns:=VO a2 a3
 have v:=GU a1
 rw[en] at v
 have I1:Inv X aa σ H {s with heap:=g,toks:=s.toks}:=I.kept (t':=s.toks) bP
 have dD:H g.objs.size=none:=I1.hok.fresh (Nat.le_refl _)
 refine⟨.ref g.objs.size,_,I1.laid (t':=s.toks) (λb o e=>J3 (Nat.ne_of_lt (Heap.lt_size e)) (Heap.get?_push_of_some _ e)) (Nat.le_refl _) (show YE X.prog X.w _ _ _ (.lst ((Y2 ns).map V.int)) from⟨?_,out.toList,e,v,hat⟩),rfl,q _ dD⟩
 rw[List.length_map,(YA ns).length_eq]
 have:ns.length<=64:=by omega
 exact Nat.le_trans this (by decide)
theorem JI (K:W.Frag)(hK:X.K=K)(hc:X.calm=true):ZZ X (.builtin "min") (M6 K Nz):=by
 subst hK
 intro aa s σ H xs us Q I r h
 obtain⟨a,ns,rfl,hq,hne,q⟩:=h
 obtain⟨u,rfl,ru⟩:=VD r
 cases ru
 obtain⟨its,rv,pl,hz⟩:=I.tuple hq
 have aj:its.length=ns.length:=by have:=rv.length;simpa using this.symm
 have av:a<s.heap.objs.size:=by obtain⟨o,ho,_⟩:=pl;exact Heap.lt_size ho
 refine call_min_walk (wpAny_pyIter_tuple pl ?_)
 refine⟨s.heap.objs.size,_,_,_,_,_,_,rfl,Walks.tuple (prog:=X.prog) (w:=X.w) (A:=X.A.in1) (I.ok.hd hc) s.heap.objs.size a (Nat.ne_of_lt av) its.toArray,⟨⟨_,Heap.get?_push_size _ rfl,rfl,rfl⟩,(show s.heap.IsTuple a its.toArray from pl).at λo e=>Heap.get?_push_of_some _ e⟩,λb hb=>?_,by rw[List.size_toArray,aj];exact hne,CmpOf.ints_lt (λi=>ns.getD i 0) (Dd rv),λv h' tk hP hk=>?_⟩
 ·rcases List.mem_cons.mp hb with e |hb
  ·rw[e,Heap.size_push];exact Nat.lt_succ_self _
  ·rw[List.mem_singleton.mp hb,Heap.size_push];exact Nat.lt_succ_of_lt av
 ·have I2:Inv X aa σ H {s with heap:=h',toks:=tk}:=I.kept (t':=tk) λb o e=>hk b o (λhm=>by
   rw[List.mem_singleton.mp hm] at e
   exact absurd (Heap.lt_size e) (Nat.lt_irrefl _)) (Heap.get?_push_of_some _ e)
  obtain⟨t,rfl⟩:=Dd rv _ _ hP
  refine⟨.int (Nz ns),H,I2,⟨t,?_⟩,q⟩
  rw[List.size_toArray,aj,EC ns (ns.length-1) (by omega),show ns.length-1+1=ns.length by omega,List.take_length]
end
inductive Mx where
 |i (n:Int) |s (x:Str) |b (v:Bool)
 deriving DecidableEq
def Mx.v:Mx->V
 | .i n=>.int n
 | .s x=>.str x
 | .b v=>.bl v
def rMx:Enc Mx:=λ_ _ v m=>v=m.v
instance:FlatE rMx:=⟨λ_ h=>h⟩
def mxI:Mx->Rs Int
 | .i n=>.ok n
 |_=>.bad
def mxS:Mx->Rs Str
 | .s x=>.ok x
 |_=>.bad
def mxB:Mx->Rs Bool
 | .b v=>.ok v
 |_=>.bad
def mx2:List Mx->Rs (Int×Int)
 | [.i a, .i b]=>.ok (a,b)
 |_=>.bad
section
variable {OO3:List (List XZ)}{u:TS}
theorem Yc {te:TE}{m:Rs Mx}(he:EvB K Er S OO σ te rMx m):EvB K Er S OO σ te Xf (m.bind mxI):=λH Q w s P=>by
 refine he H Q w s ?_
 cases m with
 |bad=>exact P
 |err x=>exact P
 |ok a=>cases a with
  |i n=>exact λv H' s' ho=>P v H' s' ho
  |s x=>exact P.elim
  |b x=>exact P.elim
theorem Lf {te:TE}{m:Rs Mx}(he:EvB K Er S OO σ te rMx m):EvB K Er S OO σ te VY (m.bind mxS):=λH Q w s P=>by
 refine he H Q w s ?_
 cases m with
 |bad=>exact P
 |err x=>exact P
 |ok a=>cases a with
  |i n=>exact P.elim
  |s x=>exact λv H' s' ho=>P v H' s' ho
  |b x=>exact P.elim
theorem SE {te:TE}{m:Rs Mx}(he:EvB K Er S OO σ te rMx m):EvB K Er S OO σ te XB (m.bind mxB):=λH Q w s P=>by
 refine he H Q w s ?_
 cases m with
 |bad=>exact P
 |err x=>exact P
 |ok a=>cases a with
  |i n=>exact P.elim
  |s x=>exact P.elim
  |b x=>exact λv H' s' ho=>P v H' s' ho
theorem GL {te:TE}{m:Rs (List Mx)}(he:EvB K Er S OO σ te (rPL rMx) m):EvB K Er S OO σ te (rP2 Xf Xf) (m.bind mx2):=λH Q w s P=>by
 refine he H Q w s ?_
 cases m with
 |bad=>exact P
 |err x=>exact P
 |ok l=>
  match l,P with
  | [.i a, .i b],P=>
   rintro v H' s' ⟨p,xs,e,h,pr⟩
   cases pr with
   |cons r1 t=>cases t with
    |cons r2 t=>cases t with
     |nil=>exact P v H' s' ⟨p,_,_,e,h,r1,r2⟩
  | [],P=>exact P.elim
  | [_],P=>exact(show False by revert P;rename_i x;cases x<;> exact id).elim
  | .i _:: .s _::_,P=>exact P.elim
  | .i _:: .b _::_,P=>exact P.elim
  | .i _:: .i _::_::_,P=>exact P.elim
  | .s _::_::_,P=>exact P.elim
  | .b _::_::_,P=>exact P.elim
theorem ZB {te:TE}{m:Rs Int}(he:EvS K Er S OO σ te Xf m):EvS K Er S OO σ te rMx (m.bind λa=>.ok (.i a)):=λH Q w s P=>by
 refine he H Q w s ?_
 cases m with
 |bad=>exact P
 |err x=>exact P
 |ok a=>exact P
theorem FI {te:TE}{m:Rs Str}(he:EvS K Er S OO σ te VY m):EvS K Er S OO σ te rMx (m.bind λa=>.ok (.s a)):=λH Q w s P=>by
 refine he H Q w s ?_
 cases m with
 |bad=>exact P
 |err x=>exact P
 |ok a=>exact P
theorem MV {te:TE}{m:Rs Bool}(he:EvS K Er S OO σ te XB m):EvS K Er S OO σ te rMx (m.bind λa=>.ok (.b a)):=λH Q w s P=>by
 refine he H Q w s ?_
 cases m with
 |bad=>exact P
 |err x=>exact P
 |ok a=>exact P
theorem WN {H:Hp}{xs:List V}{l:List Int}(pr:Paired (Xf K H) xs l):Paired (rMx K H) xs (l.map Mx.i):=by
 induction pr with
 |nil=>exact .nil
 |cons r _ ih=>exact .cons r ih
theorem DG {m:Rs (List Int)}(he:EvB K Er S OO σ te (rPL Xf) m):EvB K Er S OO σ te (rPL rMx) (m.bind λl=>.ok (l.map Mx.i)):=λH Q w s P=>by
 refine he H Q w s ?_
 cases m with
 |bad=>exact P
 |err x=>exact P
 |ok l=>
  rintro v H' s' ⟨p,xs,e,h,pr⟩
  exact P v H' s' ⟨p,xs,e,h,WN pr⟩
theorem Dc {ma:Rs (List (Int×Int))}(ha:EvL K Er S OO σ ta (rP2 Xf Xf) ma):Ev K Er S OO OO σ (tCB (OJ K) (Xv ta YK)) (oL (oF (rP2 Xf Xf))) (ma.bind λas=>chk (as.length<64/\as.Nodup) (.ok (Zv ltP as))):=λH Q w s P=>
 ha.run w s FO.tr P λas x H1 s1 w1 q1 ⟨p,xs,e,q,pr⟩ P1=>by
  obtain⟨⟨hl,hn⟩,P2⟩:=PZ.chk P1
  have dR:Paired (rP2 Xf Xf K H1) xs as:=Paired.imp2 (λ_ _ h=>MonoE.mono Xz h) pr
  refine⟨p,xs,as,by rw[e],SqL.of q,dR,hn,hl,λp2 zs dm eG aj=>?_⟩
  exact Ic w1 (Paired.imp2 (λ_ _ h=>FlatE.flat w1.i h) (FG (by rw[aj,(YJ ltP as).length_eq]) eG.mem_iff dR)) P2 p2 dm
theorem FD {ma:Rs (List Int)}(ha:EvB K Er S OO σ ta (rPL Xf) ma):Ev K Er S OO OO σ (tCB (OR K) (Xv ta YK)) (oL (oF Xf)) (ma.bind λas=>chk (as.length<64) (.ok (Y2 as))):=λH Q w s P=>
 ha.run w s FO.tr P λas x H1 s1 w1 q1 ⟨p,xs,e,q,pr⟩ P1=>by
  obtain⟨hl,P2⟩:=PZ.chk P1
  exact⟨p,as,by rw[e],SqT.of (by rw[←KI pr];exact q),hl,Ic w1 (E5 _) P2⟩
theorem NZ {d:List (Int×Int)}(pr:Paired (rDP Xf K H) kvs d):kvs=d.map λe=>(Sum.inl e.1,V.int e.2):=by
 induction pr with
 |nil=>rfl
 |cons r _ ih=>rw[List.map_cons, ←ih];exact congrArg (· ::_) (Prod.ext r.1 r.2)
theorem Lr {ma:Rs (List (Int×Int))}(ha:EvB K Er S OO σ ta (rD Xf) ma):Ev K Er S OO OO σ (OY ta K) (oL (oF (rP2 Xf Xf))) (ma.bind λd=>chk (d.length<64/\d.Nodup) (.ok (Zv ltP d))):=λH Q w s P=>
 ha.run w s FO.tr P λd x H1 s1 w1 q1 ⟨p,kvs,e,q,pr⟩ P1=>by
  obtain⟨⟨hl,hn⟩,P2⟩:=PZ.chk P1
  have PF:FO K OO OO (oL (oF (rP2 Xf Xf))) Q (Zv ltP d) H1:=P2
  rw[NZ pr] at q
  refine⟨p,d,e,q,hn,hl,λp2 H2 zs hs hp hz fV=>?_⟩
  have w2:W ([(p2, .lst zs)]::OO) H2:=by
   refine⟨λc hc=>?_,?_,λc hc=>?_⟩
   ·rw[List.flatten_cons,List.mem_append] at hc
    rcases hc with hc |hc
    ·rw[List.mem_singleton] at hc;subst hc;exact hz
    ·exact hs _ _ (w1.tr c hc)
   ·rw[XR]
    exact List.nodup_cons.mpr ⟨w1.fresh hp,w1.nd⟩
   ·rw[List.flatten_cons,List.mem_append] at hc
    rcases hc with hc |hc
    ·rw[List.mem_singleton] at hc;subst hc;rfl
    ·exact w1.mu c hc
  refine PF (.ref p2) [(p2, .lst zs)] H2 hs w2 (λb o q=>?_) ⟨p2,zs,_,rfl,(L2.P3.of (Paired.imp2 (λ_ _ h=>FlatE.flat w2.i h) fV)).imp λ_ _ _ h=>h,by rw[Ym]⟩
  obtain⟨q1,q2⟩:=Yd q
  refine Ze (hs _ _ q1) ?_
  rw[XR]
  exact λz=>(List.mem_cons.mp z).elim (λz=>X2 q1 hp z) q2
theorem Ef {ma:Rs (List Int)}(ha:EvL K Er S OO σ ta Xf ma):EvB K Er S OO σ (tCB (T5 P w0) (Xv (tCB (OW K P w0) (Xv ta YK)) YK)) Xf (ma.bind λas=>chk (as.length<64) (.ok ((dd as).length:Int))):=λH Q w s Pz=>
 ha.run w s FB.tr Pz λas x H1 s1 w1 q1 ⟨p,xs,e,q,pr⟩ P1=>by
  obtain⟨hl,P2⟩:=PZ.chk P1
  have P3:FB K Xf Q ((dd as).length:Int) H1:=P2
  refine⟨p,as,by rw[e],SqL.of (by rw[←KI pr];exact q),hl,λS hS=>?_⟩
  exact⟨S,dd as,rfl,X7,Nat.lt_of_le_of_lt (Cj as) hl,P3 _ _ (XH hS _) rfl⟩
theorem Ju {ma:Rs (List Int)}(ha:EvB K Er S OO σ ta (rPL Xf) ma):EvB K Er S OO σ (tCB (M6 K Nz) (Xv ta YK)) Xf (ma.bind Ag):=λH Q w s P=>
 ha.run w s FB.tr P λa x H1 s1 w1 q1 ⟨p,xs,e,q,pr⟩ P1=>by
  obtain⟨h1,P1⟩:=PZ.chk P1
  exact⟨p,a,by rw[e],SqT.of (by rw[←KI pr];exact q),h1,P1 _ H1 (Xx.refl _) rfl⟩
end
section
variable {OO3:List (List XZ)}{u:TS}
variable [fd:FdOk Fd]
theorem EvP.st {m:Rs (Option Int)}(he:EvP Er S OO σ t m){Q:Option Int->Hp->Prop}(w:W OO H)(s:S.p (hid H OO)){f:Option Int->Rs β}(P:PZ Er (Fd D) (hid H OO) (m.bind f))
  (hk:∀a H',Xx H H'->W OO H'->S.p (hid H' OO)->PZ Er (Fd D) (hid H' OO) (f a)->Q a H'):t σ H Q:=by
 refine he H Q w s ?_
 cases m with
 |bad=>exact P
 |err x=>exact λH' s'=>P H' (Xz.trans s')
 |ok a=>exact λH' s'=>hk a H' s' (w.keep s') (S.mono _ _ (Xh s') s) (PZ.tr (fd.tr D) (Xh s') P)
theorem Ap {a:List α}{b d:List β}(h:Paired F a b)(k:Paired F c d):Paired F (a++c) (b++d):=by
 induction h with
 |nil=>exact k
 |cons r _ ih=>exact .cons r ih
theorem HN {xs:List α}{as:List β}(h:Paired F xs as)(k:Paired F ys bs)(lo hi:Option Int):Paired F (spl xs lo hi ys) (spl as lo hi bs):=by
 unfold spl
 rw[Paired.len h]
 exact Ap (Ap (Paired.take' _ h) k) (Paired.drop' _ h)
theorem NY {m:Rs (List Int)}{f:List Int->Rs β}{as:List Int}(i k:Nat)(hσ:σ[i]?=some (some v))(bI:OO'[k]?=some C)(h:∀x,S.p x->oL (oF Xf) K x v as C)(he:Ev K Er S OO OO' σ te (oL (oF Xf)) m)(hl:∀D,EvP Er S (D::OO') σ tl ml)(hh:∀D,EvP Er S (D::OO') σ th mh)
  (hr:∀bs C',Sv Er (S.addO K (oL (oF Xf)) v bs C') (OO'.set k C') σ u Fd (f bs)):Sv Er S OO σ (ZY (Ha te (gSl (VI i) tl th)) u) Fd (m.bind λbs=>ml.bind λlo=>mh.bind λhi=>chk (as.length+bs.length<=sizeLine) (f (spl as lo hi bs))):=λH D w s P=>
 he.st w s P λbs y D' H1 w1 s1 ho P1=>⟨v,hσ,(hl D').st w1 s1 P1 λlo H2 s2 w2 q2 P2=>(hh D').st w2 q2 P2 λhi H3 s3 w3 q3 aO=>by
  obtain⟨hsz,aO⟩:=PZ.chk aO
  obtain⟨p,xs,Cs,e,q,c⟩:=h _ q3
  obtain⟨pr,cf⟩:=P3.flat q
  rw[cf] at c
  subst c
  have ho3:oL (oF Xf) K (hid H3 (D'::OO')) y bs D':=MonoO.mono ((Xh s2).trans (Xh s3)) ho
  obtain⟨b,ys,Cs',e',q',c'⟩:=ho3
  obtain⟨dR,cf'⟩:=P3.flat q'
  rw[cf'] at c'
  subst c'
  have hp:H3 p=some (.lst xs):=w3.tr (p, .lst xs) (by rw[List.flatten_cons];exact List.mem_append_right _ (List.mem_flatten.mpr ⟨_,List.mem_of_getElem? bI,List.mem_cons_self⟩))
  have hb:H3 b=some (.lst ys):=w3.tr (b, .lst ys) (by simp)
  have hne:p≠b:=λz=>by
   have nd:=w3.nd
   rw[XR] at nd
   have bC:p∈fl OO':=U2 (c:=(p, .lst xs)) (List.mem_flatten.mpr ⟨_,List.mem_of_getElem? bI,List.mem_cons_self⟩)
   exact(List.nodup_append.mp nd).2.2 b (by simp) p bC z.symm
  obtain⟨w4,m4⟩:=MG (D:=[(b, .lst ys)]) (C':=[(p, .lst (spl xs lo hi ys))]) (p:=p) (o:=.lst (spl xs lo hi ys)) w3 bI (by simp) (by simp) (by simp) (λz hz=>by
   have:z=p:=by simpa using hz
   subst this;simp) (λc hc=>by
   have:c=(p, .lst (spl xs lo hi ys)):=by simpa using hc
   rw[this];exact X7) (λc hc=>by
   have:c=(p, .lst (spl xs lo hi ys)):=by simpa using hc
   rw[this];rfl)
  have l1:=Paired.len pr
  have l2:=Paired.len dR
  refine⟨p,xs,b,ys,e,e',hp,hb,hne,by omega,hr (spl as lo hi bs) _ _ D w4 ⟨S.mono _ _ m4 q3,?_⟩ (PZ.tr (fd.tr D) m4 aO)⟩
  exact⟨p,_,_,e,(P3.of (HN (F:=Xf K _) (Paired.imp2 (λ_ _ h=>h) pr) (Paired.imp2 (λ_ _ h=>h) dR) lo hi)).imp λ_ _ _ h=>h,by rw[Ym]⟩⟩
def YS (d:List (Int×α))(k:Int):List (Int×α):=d.filter λe=>decide (e.1≠k)
theorem BH {k:Int}{d:List (Int×α)}(h:Paired (rDP r K H) kvs d):Paired (rDP r K H) (Gc kvs (.inl k)) (YS d k):=by
 unfold Gc YS
 induction h with
 |nil=>exact .nil
 | @cons a b l m r0 _ ih=>
  rw[List.filter_cons,List.filter_cons]
  by_cases c:b.1=k
  ·rw[if_neg (by rw[r0.1,c];simp),if_neg (by rw[c];simp)];exact ih
  ·rw[if_pos (by rw[r0.1];simpa using c),if_pos (by simpa using c)];exact .cons r0 ih
theorem BC [z:MonoE r]{f:List (Int×α)->Rs β}{d:List (Int×α)}(i k:Nat)(hσ:σ[i]?=some (some v))(hk:OO[k]?=some C)(h:∀x,S.p x->oD r K x v d C)(hy:EvB K Er S OO σ ty Xf mk)
  (hr:∀d' C',Sv Er (S.addO K (oD r) v d' C') (OO.set k C') σ u Fd (f d')):Sv Er S OO σ (ZY (G5 (Oj (VI i) ty)) u) Fd (mk.bind λn=>chk ((Q5 d n).isSome=true) (f (YS d n))):=λH D w s P=>by
 obtain⟨p,kvs,e,pr,c⟩:=h _ s
 subst c e
 have hH:H p=some (.dK kvs):=w.tr (p, .dK kvs) (List.mem_flatten.mpr ⟨_,List.mem_of_getElem? hk,by simp⟩)
 refine⟨_,hσ,p,rfl, .inl ⟨kvs, .inl hH⟩,hy.st w s P λn vn H2 s2 w2 q2 r2 P2=>?_⟩
 obtain⟨h9,P2⟩:=PZ.chk P2
 have fP:H2 p=some (.dK kvs):=s2 _ _ hH
 have eF:Paired (rDP r K (hid H2 OO)) kvs d:=Paired.imp2 (λ_ _ h=>⟨h.1,z.mono (Xh s2) h.2⟩) pr
 obtain⟨a,ha⟩:=Option.isSome_iff_exists.mp h9
 obtain⟨va,hva,_⟩:=(QU (k:=n) eF).1 a ha
 obtain⟨w3,m3⟩:=MG (D:=[]) (C':=[(p, .dK (Gc kvs (.inl n)))]) (p:=p) (o:=.dK (Gc kvs (.inl n))) w2.nil hk (by simp) (by simp) (by simp) (λb hb=>by simpa using hb) (λc hc=>by
  have:c=(p, .dK (Gc kvs (.inl n))):=by simpa using hc
  rw[this];exact X7) (λc hc=>by
  have:c=(p, .dK (Gc kvs (.inl n))):=by simpa using hc
  rw[this];rfl)
 rw[ZA] at m3
 exact⟨kvs, .inl n,va,fP,r2,hva,hr _ _ _ D w3 ⟨S.mono _ _ m3 q2,⟨p,_,rfl,Paired.imp2 (λ_ _ h=>⟨h.1,z.mono m3 h.2⟩) (BH eF),rfl⟩⟩ (PZ.tr (fd.tr D) m3 P2)⟩
theorem Nt {m:Rs (Str×Str)}(ha:EvB K Er S OO σ ta (rP2 VY VY) m):EvB K Er S OO σ ta (rPL VY) (m.bind λp=>.ok [p.1,p.2]):=λH Q w s P=>
 ha.run w s FB.tr P λa x H1 s1 w1 q1 r9 P1=>by obtain⟨p,x1,x2,e,q,h1,h2⟩:=r9;exact P1 _ H1 (Xx.refl _) ⟨p,_,e,q, .cons h1 (.cons h2 .nil)⟩
theorem Cn [z:MonoE r](he:EvL K Er S OO σ te r m)(hs:EvB K Er S OO σ ts Xf ms):Ev K Er S OO OO σ (W6 K te ts) (oL (oF r)) (m.bind λas=>ms.bind λk=>chk (k= -1) (.ok as.reverse)):=λH Q w s P=>
 he.run w s FO.tr P λas x H1 s1 w1 q1 ⟨p,xs,e,q,pr⟩ P1=>hs.run w1 q1 FO.tr P1 λk y H2 s2 w2 q2 r2 P2=>by
  obtain⟨hn,P3⟩:=PZ.chk P2
  exact⟨by rw[show y= .int k from r2,hn],p,xs,e,SqL.of (s2 _ _ q),Ic w2 (L2.Paired.rev' (Paired.imp2 (λ_ _ h=>z.mono (Xh s2) h) pr)) P3⟩
def FFu (K:W.Frag)(q:OE γ)(v1:V)(Q:VK)(x:γ)(h:Hp):Prop:=∀ C' H',W [C'] H'->Xx h (hid H' [C'])->q K (hid H' [C']) v1 x C'->Q .non H'
def Ah (q:OE γ)(r2:Enc α2)(r3:Enc α3)(f:γ->α2->α3->Rs γ)(K:W.Frag):Sp:=λvs H Q _=>∃ v1 v2 v3 a1 a2 a3 b,vs=[v1,v2,v3]/\∃C,W [C] H/\q K (hid H [C]) v1 a1 C/\r2 K (hid H [C]) v2 a2/\r3 K (hid H [C]) v3 a3/\f a1 a2 a3= .ok b/\FFu K q v1 Q b (hid H [C])
def Ao (q:OE γ)(r2:Enc α2)(r3:Enc α3)(r4:Enc α4)(r5:Enc α5)(f:γ->α2->α3->α4->α5->Rs γ)(K:W.Frag):Sp:=λvs H Q _=>∃ v1 v2 v3 v4 v5 a1 a2 a3 a4 a5 b,vs=[v1,v2,v3,v4,v5]/\∃C,W [C] H/\q K (hid H [C]) v1 a1 C/\r2 K (hid H [C]) v2 a2/\r3 K (hid H [C]) v3 a3/\r4 K (hid H [C]) v4 a4/\r5 K (hid H [C]) v5 a5/\f a1 a2 a3 a4 a5= .ok b/\FFu K q v1 Q b (hid H [C])
def FNu (K:W.Frag)(q:OE γ)(v1:V)(D:Ends)(x:γ)(h:Hp):Prop:=∀ C' OO' σ' H',W (C'::OO') H'->Xx h (hid H' (C'::OO'))->q K (hid H' (C'::OO')) v1 x C'->D.nx σ' H'
instance {q:OE γ}{v1:V}:FdOk (FNu K q v1):=⟨λD b h h' s q C O σ H' w m x=>q C O σ H' w (s.trans m) x⟩
theorem Ld {q:OE γ}{a:γ}(k:Nat)(hk:OO[k]?=some C)(hf:∀x,S.p x->q K x v1 a C):Sv Er S OO σ F3 (FNu K q v1) (.ok a):=λH D w s P=>by
 have hp:=XW hk
 have P:FNu K q v1 D a (hid H OO):=P
 exact P C (OO.set k []) σ H (w.of hp) (by rw[XU hp];exact Xx.refl _) (by rw[XU hp];exact hf _ s)
theorem II {q:OE γ}[zq:MonoO q]{m:Rs γ}{Q:VK}{b:γ}(n k:Nat)(fw:k<n)(h:Sv (λ_ _=>False) S ((List.replicate n []).set k C) σ t (FNu K q v1) m)(w:W [C] H)(hs:S.p (hid H [C]))(hm:m= .ok b)(qf:FFu K q v1 Q b (hid H [C]))(hD:∀σ H,D.nx σ H=Q .non H):t D σ H:=by
 have pe:((List.replicate n []).set k C).flatten.Perm [C].flatten:=by
  have h1:=XW (OO:=(List.replicate n []).set k C) (k:=k) (C:=C) (by simp[fw])
  have e:((List.replicate n ([]:List XZ)).set k C).set k []=List.replicate n []:=by
   rw[List.set_set]
   apply List.ext_getElem?
   intro m
   by_cases hm:m=k
   ·subst hm;simp[fw]
   ·rw[List.getElem?_set_ne (λe=>hm e.symm)]
  rw[e,List.flatten_cons,Ym] at h1
  simpa using h1.symm
 refine h H D (w.of pe) (by rw[XU pe];exact hs) ?_
 subst hm
 rw[XU pe]
 intro C' OO' σ' H' w' m' h1
 rw[hD]
 have ar:Xx (hid H' (C'::OO')) (hid H' [C']):=ZW (Xx.refl _) λb hb=>by
  rw[XR]
  refine List.mem_append_left _ ?_
  simpa[fl] using hb
 exact qf C' H' (w'.sub (by simp)) (m'.trans ar) (zq.mono ar h1)
theorem Oa (w:W OO H)(hk:OO[k]?=some Cy):W [Cy] H/\Xx (hid H OO) (hid H [Cy])/\W (OO.set k []) (hid H [Cy])/\(∀b,b∈fl (OO.set k [])->b∈fl OO):=by
 have hp:=XW hk
 have wk:W (Cy::OO.set k []) H:=w.of hp
 refine⟨wk.sub (by simp),?_,⟨λcc hc=>Ze (wk.tail.tr cc hc) (λz=>by
   have nd:=wk.nd
   rw[XR] at nd
   exact(List.nodup_append.mp nd).2.2 cc.1 (by simpa[fl] using z) cc.1 (U2 hc) rfl),wk.tail.nd,wk.tail.mu⟩,λb hb=>by
   rw[←Uo hp,XR]
   exact List.mem_append_right _ hb⟩
 rw[←XU hp]
 exact ZW (Xx.refl _) λb hb=>by
  rw[XR]
  refine List.mem_append_left _ ?_
  simpa[fl] using hb
theorem S5 (w:W OO H)(hk:OO[k]?=some Cy)(w':W [C'] H')(m':Xx (hid H [Cy]) (hid H' [C'])):W (OO.set k C') H'/\Xx (hid H OO) (hid H' (OO.set k C'))/\Eh (hid H' [C']) (hid H' (C'::OO.set k []))/\Xx (hid H' (C'::OO.set k [])) (hid H' (OO.set k C')):=by
 obtain⟨_,m0,wo,bC⟩:=Oa w hk
 have gU:k<OO.length:=(List.getElem?_eq_some_iff.mp hk).1
 obtain⟨w4,n4,i4⟩:=Pt wo w' m'
 have nn:Xx (hid H OO) (hid H' (C'::OO.set k [])):=by
  refine Xx.trans (λbb uu hb=>?_) n4
  obtain⟨b1,b2⟩:=Yd hb
  exact Ze (m0 _ _ hb) λz=>b2 (bC _ z)
 obtain⟨w6,m6⟩:=Ww (k:=k) w4 (by rw[List.length_set];exact gU)
 rw[List.set_set] at w6 m6
 exact⟨w6,nn.trans m6,i4,m6⟩
theorem Cd [z2:MonoE r2][z3:MonoE r3]{q:OE γ}[zq:FlatO q][mq:MonoO q]{f:γ->α2->α3->Rs γ}(i k:Nat)(hσ:σ[i]?=some (some vy))(hk:OO[k]?=some Cy)(h:∀x,S.p x->q K x vy ay Cy)
  (h2:EvS K Er S OO σ t2 r2 m2)(h3:EvS K Er S OO σ t3 r3 m3)(hr:∀b C',Sv Er (S.addO K q vy b C') (OO.set k C') σ u Fd (g b)):
  Sv Er S OO σ (ZY (G5 (Vn (Ah q r2 r3 f K) [] E0 (Xv (VI i) (Xv t2 (Xv t3 YK))))) u) Fd (m2.bind λb=>m3.bind λc=>(noE (f ay b c)).bind g):=λH D w s P=>
 ⟨vy,hσ,h2.st w s P λb z H2 s2 w2 q2 e2 P2=>h3.st w2 q2 P2 λc y H3 s3 w3 q3 e3 P3=>by
  cases en:f ay b c with
  |bad=>rw[en] at P3;exact P3.elim
  |err ex=>rw[en] at P3;exact P3.elim
  |ok r=>
   rw[en] at P3
   have P3:PZ Er (Fd D) (hid H3 OO) (g r):=P3
   obtain⟨wl,m0,_,_⟩:=Oa w3 hk
   refine⟨vy,z,y,ay,b,c,r,rfl,Cy,wl,mq.mono m0 (h _ q3),z2.mono ((Xh s3).trans m0) e2,z3.mono m0 e3,en,λC' H' w' m' hq=>?_⟩
   obtain⟨w6,n6,i4,m6⟩:=S5 w3 hk w' m'
   exact hr r C' H' D w6 ⟨S.mono _ _ n6 q3,mq.mono m6 (zq.flat i4 hq)⟩ (PZ.tr (fd.tr D) n6 P3)⟩
theorem KK [z2:MonoE r2][z3:MonoE r3][z4:MonoE r4][z5:MonoE r5]{q:OE γ}[zq:FlatO q][mq:MonoO q]{f:γ->α2->α3->α4->α5->Rs γ}(i k:Nat)(hσ:σ[i]?=some (some vy))(hk:OO[k]?=some Cy)(h:∀x,S.p x->q K x vy ay Cy)
  (h2:EvS K Er S OO σ t2 r2 m2)(h3:EvS K Er S OO σ t3 r3 m3)(h4:EvS K Er S OO σ t4 r4 m4)(h5:EvS K Er S OO σ t5 r5 m5)(hr:∀b C',Sv Er (S.addO K q vy b C') (OO.set k C') σ u Fd (g b)):
  Sv Er S OO σ (ZY (G5 (Vn (Ao q r2 r3 r4 r5 f K) [] E0 (Xv (VI i) (Xv t2 (Xv t3 (Xv t4 (Xv t5 YK))))))) u) Fd (m2.bind λb=>m3.bind λc=>m4.bind λd=>m5.bind λe=>(noE (f ay b c d e)).bind g):=λH D w s P=>
 ⟨vy,hσ,h2.st w s P λb z H2 s2 w2 q2 e2 P2=>h3.st w2 q2 P2 λc y H3 s3 w3 q3 e3 P3=>h4.st w3 q3 P3 λd y4 H4 s4 w4 q4 e4 P4=>h5.st w4 q4 P4 λe y5 H5 s5 w5 q5 e5 P5=>by
  cases en:f ay b c d e with
  |bad=>rw[en] at P5;exact P5.elim
  |err ex=>rw[en] at P5;exact P5.elim
  |ok r=>
   rw[en] at P5
   have P5:PZ Er (Fd D) (hid H5 OO) (g r):=P5
   obtain⟨wl,m0,_,_⟩:=Oa w5 hk
   have n3:=Xh (OO:=OO) s3
   have n4:=Xh (OO:=OO) s4
   have n5:=Xh (OO:=OO) s5
   refine⟨vy,z,y,y4,y5,ay,b,c,d,e,r,rfl,Cy,wl,mq.mono m0 (h _ q5),z2.mono (n3.trans (n4.trans (n5.trans m0))) e2,z3.mono (n4.trans (n5.trans m0)) e3,z4.mono (n5.trans m0) e4,z5.mono m0 e5,en,λC' H' w' m' hq=>?_⟩
   obtain⟨w6,n6,i4,m6⟩:=S5 w5 hk w' m'
   exact hr r C' H' D w6 ⟨S.mono _ _ n6 q5,mq.mono m6 (zq.flat i4 hq)⟩ (PZ.tr (fd.tr D) n6 P5)⟩
def Ai (q:OE γ)(r2:Enc α2)(r3:Enc α3)(o:OE ρ)(f:γ->α2->α3->Rs ρ)(K:W.Frag):Sp:=λvs H Q _=>∃ v1 v2 v3 a1 a2 a3 b,vs=[v1,v2,v3]/\∃C,W [C] H/\q K (hid H [C]) v1 a1 C/\r2 K (hid H [C]) v2 a2/\r3 K (hid H [C]) v3 a3/\f a1 a2 a3= .ok b/\FF K o Q b (hid H [C])
theorem N9 [z2:MonoE r2][z3:MonoE r3]{q:OE γ}[mq:MonoO q]{o:OE ρ}[zo:FlatO o]{f:γ->α2->α3->Rs ρ}(i k:Nat)(hσ:σ[i]?=some (some vy))(hk:OO[k]?=some Cy)(h:∀x,S.p x->q K x vy ay Cy)
  (h2:EvS K Er S OO σ t2 r2 m2)(h3:EvS K Er S OO σ t3 r3 m3):
  Sv Er S OO σ (ZY (Wj (Vn (Ai q r2 r3 o f K) [] E0 (Xv (VI i) (Xv t2 (Xv t3 YK))))) u) (FTd K o) (m2.bind λb=>m3.bind λc=>noE (f ay b c)):=λH D w s P=>
 ⟨vy,hσ,h2.st (Fd:=FTd K o) w s P λb z H2 s2 w2 q2 e2 P2=>h3.st (Fd:=FTd K o) w2 q2 P2 λc y H3 s3 w3 q3 e3 P3=>by
  cases en:f ay b c with
  |bad=>rw[en] at P3;exact P3.elim
  |err ex=>rw[en] at P3;exact P3.elim
  |ok r=>
   rw[en] at P3
   have P3:FTd K o D r (hid H3 OO):=P3
   obtain⟨wl,m0,wo,bC⟩:=Oa w3 hk
   refine⟨vy,z,y,ay,b,c,r,rfl,Cy,wl,mq.mono m0 (h _ q3),z2.mono ((Xh s3).trans m0) e2,z3.mono m0 e3,en,λv C' H' w' m' ho=>?_⟩
   obtain⟨w4,n4,i4⟩:=Pt wo w' m'
   refine P3 v C' (OO.set k []) H' w4 (Xx.trans (λbb uu hb=>?_) n4) (zo.flat i4 ho)
   obtain⟨b1,b2⟩:=Yd hb
   exact Ze (m0 _ _ hb) λz=>b2 (bC _ z)⟩
theorem Wu {o:OE ρ}[MonoO o]{m:Rs ρ}{Q:VK}{b:ρ}(n k:Nat)(fw:k<n)(h:Sv (λ_ _=>False) S ((List.replicate n []).set k C) σ t (FTd K o) m)(w:W [C] H)(hs:S.p (hid H [C]))(hm:m= .ok b)(q:FF K o Q b (hid H [C]))(hD:D.rt=Q):t D σ H:=by
 have pe:((List.replicate n []).set k C).flatten.Perm [C].flatten:=by
  have h1:=XW (OO:=(List.replicate n []).set k C) (k:=k) (C:=C) (by simp[fw])
  have e:((List.replicate n ([]:List XZ)).set k C).set k []=List.replicate n []:=by
   rw[List.set_set]
   apply List.ext_getElem?
   intro m
   by_cases hm:m=k
   ·subst hm;simp[fw]
   ·rw[List.getElem?_set_ne (λe=>hm e.symm)]
  rw[e,List.flatten_cons,Ym] at h1
  simpa using h1.symm
 refine h H D (w.of pe) (by rw[XU pe];exact hs) ?_
 subst hm
 rw[XU pe]
 intro v C1 OO' H' w' mm ho
 rw[hD]
 exact OT q v C1 OO' H' w' mm ho
section
variable {o:OE ρ}{kf:Nat}{Cf:List XZ}{J:Jn γ ι}
def Pl (K:W.Frag)(o:OE ρ)(kf:Nat)(Cf:List XZ)(J:Jn γ ι)(D:Ends)(c:Ctl ρ γ)(h:Hp):Prop:=match c with
 | .ret r=>HA K o kf Cf D r h
 | .nx g=>FNd J D g h
instance:FdOk (Pl K o kf Cf J):=⟨λD b h h' s q=>by
 cases b with
 |ret r=>exact λv C O H' e w m x=>q v C O H' e w (s.trans m) x
 |nx g=>exact λx H' w m y=>q x H' w (s.trans m) y⟩
theorem EU {m:Rs γ}(h:Sv Er S OO σ t (FNd J) m):Sv Er S OO σ t (Pl K o kf Cf J) (m.bind λr=>.ok (.nx r)):=λH D w s P=>h H D w s (by
 cases m with
 |bad=>exact P
 |err x=>exact P
 |ok a=>exact P)
theorem Kt (hc:EvT Er S OO σ c mc)(h1:Sv Er S OO σ t1 (HA K o kf Cf) m1)(h2:Sv Er S OO σ u (HA K o kf Cf) m2):Sv Er S OO σ (ZY (PM c t1 F3) u) (HA K o kf Cf) (mc.bind λb=>if b=true then m1 else m2):=λH D w s P=>
 hc.st (Fd:=HA K o kf Cf) w s P λb H' w' s' P'=>by
  cases b with
  |true=>rw[if_pos rfl] at P'⊢;exact h1 H' _ w' s' P'
  |false=>exact h2 H' D w' s' P'
theorem LQ (hc:EvT Er S OO σ c mc)(h1:Sv Er S OO σ t1 (HA K o kf Cf) m1)(h2:Sv Er S OO σ u (Pl K o kf Cf J) m2):Sv Er S OO σ (ZY (PM c t1 F3) u) (Pl K o kf Cf J) (mc.bind λb=>if b=true then m1.bind (λr=>.ok (.ret r)) else m2):=λH D w s P=>
 hc.st (Fd:=Pl K o kf Cf J) w s P λb H' w' s' P'=>by
  cases b with
  |true=>
   rw[if_pos rfl] at P'⊢
   refine h1 H' _ w' s' ?_
   cases m1 with
   |bad=>exact P'
   |err x=>exact P'
   |ok a=>exact P'
  |false=>exact h2 H' D w' s' P'
theorem LM {m:Rs (Ctl ρ γ)}{f:γ->Rs ρ}(hb:Sv Er S OO σ t (Pl K o kf Cf J) m)(hr:∀g x,Sv Er (J.sc g x) (J.oo x) (J.ss x) u (HA K o kf Cf) (f g)):Sv Er S OO σ (ZY t u) (HA K o kf Cf) (m.bind (G1 f)):=λH D w s P=>
 hb H _ w s (by
  cases m with
  |bad=>exact P
  |err x=>exact P
  |ok g=>
   cases g with
   |ret r=>exact P
   |nx g=>exact λx H' w' m' q=>hr g x H' D w' q (PZ.tr (FdOk.tr D) m' P))
end
def Al (r1:Enc α1)(r2:Enc α2)(r3:Enc α3)(r4:Enc α4)(o:OE ρ)(f:α1->α2->α3->α4->Rs ρ)(K:W.Frag):Sp:=λvs H Q _=>∃ v1 v2 v3 v4 a1 a2 a3 a4 b,vs=[v1,v2,v3,v4]/\∃Cf,W [Cf] H/\r1 K (hid H [Cf]) v1 a1/\r2 K (hid H [Cf]) v2 a2/\r3 K (hid H [Cf]) v3 a3/\r4 K (hid H [Cf]) v4 a4/\f a1 a2 a3 a4= .ok b/\Wn K o Cf Q b (hid H [Cf])
theorem CK [z1:MonoE r1][z2:MonoE r2][z3:MonoE r3][z4:MonoE r4]{o:OE ρ}{f:α1->α2->α3->α4->Rs ρ}{ma:Rs α1}{mb:Rs α2}{mc:Rs α3}(ha:EvS K Er S OO σ ta r1 ma)(hb:EvS K Er S OO σ tb r2 mb)(hc:EvS K Er S OO σ tc r3 mc)(hd:EvS K Er S OO σ td r4 md):
  Ev K Er S OO OO σ (Vn (Al r1 r2 r3 r4 o f K) [] E0 (Xv ta (Xv tb (Xv tc (Xv td YK))))) o (ma.bind λa=>mb.bind λb=>mc.bind λc=>md.bind λd=>noE (f a b c d)):=λH Q w s P=>
 ha.run w s FO.tr P λa x H1 s1 w1 q1 r1 P1=>hb.run w1 q1 FO.tr P1 λb y H2 s2 w2 q2 r2 P2=>hc.run w2 q2 FO.tr P2 λc z H3 s3 w3 q3 r3 P3=>hd.run w3 q3 FO.tr P3 λd t H4 s4 w4 q4 r4 P4=>by
  obtain⟨e,he,P5⟩:=P4.okOf λx=>Fh
  have n2:=Xh (OO:=OO) s2
  have n3:=Xh (OO:=OO) s3
  have n4:=Xh (OO:=OO) s4
  exact⟨x,y,z,t,a,b,c,d,e,rfl,OO.flatten,w4.one,by rw[Bk];exact z1.mono (n2.trans (n3.trans n4)) r1,by rw[Bk];exact z2.mono (n3.trans n4) r2,by rw[Bk];exact z3.mono n4 r3,by rw[Bk];exact r4,FC he,by rw[Bk];exact Tl w4 P5⟩
theorem Oe [MonoO o1][MonoO o2][MonoO o3]{f:Rs β}(i j l k1 k2 k3:Nat)(h1:k1<OO.length)(h2:k2<OO.length)(h3:k3<OO.length)
  (hr:∀v w x C1 C2 C3,Sv Er (((S.addO K (oL o1) v [] C1).addO K (oL o2) w [] C2).addO K (oL o3) x [] C3) (((OO.set k1 C1).set k2 C2).set k3 C3) (((σ.set i (some v)).set j (some w)).set l (some x)) u Fd f):Sv Er S OO σ (ZY (Rg i j l (Xv (M4 YK) (Xv (M4 YK) (Xv (M4 YK) YK)))) u) Fd f:=λH D w s P=>by
 refine⟨Nat.zero_le _,λp1 gS=>⟨Nat.zero_le _,λp2 dm=>⟨Nat.zero_le _,λp3 hp3=>⟨_,_,_,rfl,?_⟩⟩⟩⟩
 have key:∀{OO:List (List XZ)}{H:Hp}{p:Addr}{k:Nat},W OO H->H p=none->k<OO.length->W (OO.set k [(p, .lst [])]) (upd H p (.lst []))/\Xx (hid H OO) (hid (upd H p (.lst [])) (OO.set k [(p, .lst [])])):=λw hp hk=>by
  obtain⟨a,b⟩:=Ww (w.new hp (o:=.lst []) rfl) hk
  exact⟨a,(Jv hp (o:=.lst [])).trans b⟩
 obtain⟨w1,m1⟩:=key w gS h1
 obtain⟨w2,m2⟩:=key w1 dm (k:=k2) (by simpa using h2)
 obtain⟨w3,m3⟩:=key w2 hp3 (k:=k3) (by simpa using h3)
 have nl:∀{τ:Type}{o:OE τ}{h:Hp}{p:Addr},oL o K h (.ref p) [] [(p, .lst [])]:=fun {τ o h p}=>⟨p,[],[],rfl, .nil,rfl⟩
 exact hr _ _ _ _ _ _ _ D w3 ⟨⟨⟨S.mono _ _ ((m1.trans m2).trans m3) s,nl⟩,nl⟩,nl⟩ (PZ.tr (fd.tr D) ((m1.trans m2).trans m3) P)
end
section
variable {u:TS}[fd:FdOk Fd]
theorem Ob {tb:TS}[z:MonoE r]{f:γ->Rs β}{as:List (List α)}(n k:Nat)(hσ:σ[n]?=some (some v))(hk:OO[k]?=some C)(h:∀x,S.p x->oL (oL (oF r)) K x v as C)(hi:EvB K Er S OO σ ti Xf mi)
  (J:Jn γ ι)(T:∀OO,Tgt K OO g r κ)(x0:ι)(g0:γ)(hC:∀x,(J.oo x)[k]?=some C)(h1:OO=J.oo x0)(h2:σ=J.ss x0)(h3:∀h,S.p h->(J.sc g0 x0).p h)
  (hb:∀g x a v,Sv Er ((T (J.oo x)).sc a v (J.sc g x)) (J.oo x) ((T (J.oo x)).set v (J.ss x)) tb (FNd J) (body g a))
  (hr:∀g x,Sv Er (J.sc g x) (J.oo x) (J.ss x) u Fd (f g)):Sv Er S OO σ (ZY (PB (HE K (tOp (Ih K) (VI n) ti)) g tb) u) Fd (mi.bind λi=>(atR as i).bind λrow=>(forN row g0 body).bind f):=λH0 D w0 s0 P0=>
 ⟨v,hσ,hi.st w0 s0 P0 λix vi H s1 w s r1 P=>by
  obtain⟨p,xs,Cs,e,q,c⟩:=h _ s
  subst c
  cases er:atR as ix with
  |bad=>rw[er] at P;exact P.elim
  |err x=>exact absurd er KM
  |ok row=>
   rw[er] at P
   have P:PZ Er (Fd D) (hid H OO) ((forN row g0 body).bind f):=P
   obtain⟨j,hj,ca⟩:=Ly er
   obtain⟨a,c,ha,hc,ho⟩:=P3.get q ca
   obtain⟨p',ys,Cs',e',q',c'⟩:=ho
   have pr:=(P3.flat q').1
   have hpin:(p,HO.lst xs)∈OO.flatten:=List.mem_flatten.mpr ⟨_,List.mem_of_getElem? hk,List.mem_cons_self⟩
   have bC:∀x,(p',HO.lst ys)∈(J.oo x).flatten:=λx=>List.mem_flatten.mpr ⟨_,List.mem_of_getElem? (hC x),List.mem_cons_of_mem _ (List.mem_flatten.mpr ⟨c,List.mem_of_getElem? hc,by rw[c'];exact List.mem_cons_self⟩)⟩
   have hH:H p=some (.lst xs):=w.tr _ hpin
   have gQ:H p'=some (.lst ys):=w.tr (p', .lst ys) (by rw[h1];exact bC x0)
   refine⟨p,xs,ix,a,e,r1,SqL.of hH,?_,?_⟩
   ·unfold atI
    rw[(P3.len q).1,hj]
    exact ha
   refine⟨p',e',⟨ys,SqL.of gQ⟩,?_⟩
   refine⟨λi mm σ' H2=>mm=row.length-i/\i<=row.length/\∃x gg,σ'=J.ss x/\W (J.oo x) H2/\Xx (hid H OO) (hid H2 (J.oo x))/\(J.sc gg x).p (hid H2 (J.oo x))/\PZ Er (Fd D) (hid H2 (J.oo x)) ((forN (row.drop i) gg body).bind f),⟨row.length,rfl,Nat.zero_le _,x0,g0,h2,?_,?_,?_,?_⟩,?_⟩
   ·rw[←h1];exact w
   ·rw[←h1];exact Xx.refl _
   ·rw[←h1];exact h3 _ s
   ·rw[←h1,List.drop_zero];exact P
   ·rintro i mm σ' H2 ⟨rfl,bM,x,gg,rfl,w2,m2,eQ,P2⟩
    have hq:SqL K H2 p' ys:=SqL.of (w2.tr (p', .lst ys) (bC x))
    by_cases av:i<row.length
    ·right
     obtain⟨y0,hy0,ry⟩:=Paired.getR pr (List.getElem?_eq_getElem av)
     refine⟨⟨ys,y0,hq,hy0⟩,λσ3 H3=>∃ x gg,σ3=J.ss x/\W (J.oo x) H3/\Xx (hid H OO) (hid H3 (J.oo x))/\(J.sc gg x).p (hid H3 (J.oo x))/\PZ Er (Fd D) (hid H3 (J.oo x)) ((forN (row.drop (i+1)) gg body).bind f),λσ3 H3 q=>⟨row.length-(i+1),Nat.sub_lt_sub_left av (Nat.lt_succ_self i),rfl,av,q⟩,λy H3 hy=>?_⟩
     obtain⟨rfl,hy2⟩:=hy
     have:=hy2 ys hq
     rw[hy0] at this
     cases this
     refine(T (J.oo x)).ok (z.mono m2 ry) eQ λv hv=>hb gg x row[i] v H3 _ w2 hv ?_
     rw[List.drop_eq_getElem_cons av] at P2
     have P3:PZ Er (Fd D) (hid H3 (J.oo x)) ((body gg row[i]).bind λg'=>(forN (row.drop (i+1)) g' body).bind f):=by rw[←Yy];exact P2
     cases eb:body gg row[i] with
     |bad=>rw[eb] at P3;exact P3
     |err x=>rw[eb] at P3;exact P3
     |ok g'=>
      rw[eb] at P3
      exact λx' H4 w4 m4 gT=>⟨x',g',rfl,w4,m2.trans m4,gT,PZ.tr (fd.tr D) m4 P3⟩
    ·left
     have e:i=row.length:=Nat.le_antisymm bM (Nat.not_lt.mp av)
     subst e
     refine⟨⟨ys,hq,by rw[Paired.len pr];exact Nat.le_refl _⟩,hr gg x H2 D w2 eQ ?_⟩
     rw[List.drop_length] at P2
     exact P2⟩
end
section
variable {u:TS}
end
section
variable {h0 h:Heap}{T:Addr}{cls fl:Value}
end
section
variable {qual:Str}{f:Addr}{cd:Value}{outer:List Env}{s0:Shared}{H0:Hp}{E:XK}
end
theorem Un.but (k:∀b,b∉ch->h'.get? b=h.get? b):Un fs ch H H h h' where
 keep:=λb o e _ _ hx=>(k b hx).trans e
 slot:=λb o e _ _ hx=>⟨o.slots,(k b hx).trans e⟩
 free:=λ_ _ _ n _=>n
 there:=λb o e hx=>⟨o,(k b hx).trans e⟩
 tups:=λ_ _ q=>q
 frzs:=λ_ _ _ q=>q
 tbls:=λ_ ps q=>⟨#[],by simpa using q⟩
section
variable {cl:List (Str×Addr)}{C:Addr}{fp:List Addr}{acc:Value}{E:XK}{use:Option (Value->Sem Unit)}
end
section
variable {ba iter:Expr}{wi:TI}{g:TG}{tt:TT}{E':XK}
end
section
variable {i:Expr}{ty:TE}{ts:List (Str×Int)}{n:Str}{np:Pos}
end
section
end
section
variable {ba iter:Expr}{wi:TI}{g:TG}{tt:TT}{E':XK}
end
section
def Mx.kd:Mx->Nat
 | .i _=>0
 | .s _=>1
 | .b _=>2
theorem Wx {x y:V}{a b:Mx}(I:Inv X aa σ H s)(rx:Ya x v)(ry:Ya y u)(h1:rMx X.K H x a)(h2:rMx X.K H y b)(hk:a.kd=b.kd)(hu:A.units<cLine):SeqAt.EqAt A s v u (decide (a=b)):=by
 cases a with
 |i n=>cases b with
  |i m=>have:=eq_int.eq (A:=A) I rx ry (show Xf X.K H x n from h1) (show Xf X.K H y m from h2) (by omega);simpa using this
  |s z=>cases hk
  |b z=>cases hk
 |s n=>cases b with
  |i z=>cases hk
  |s m=>have:=qc.eq (A:=A) I rx ry (show VY X.K H x n from h1) (show VY X.K H y m from h2) (by omega);simpa using this
  |b z=>cases hk
 |b n=>cases b with
  |i z=>cases hk
  |s z=>cases hk
  |b m=>have:=WA.eq (A:=A) I rx ry (show XB X.K H x n from h1) (show XB X.K H y m from h2) (by omega);simpa using this
end
section
variable {t:TJ}{p:Pos}
end
section
def WM (x y z:Bool):Mx->Bool
 | .i _=>x
 | .s _=>y
 | .b _=>z
theorem KA {m:Rs Mx}(t:String)(x y z:Bool)(hx:W.kitOne K (.type "int") (.type t)=some x)(hy:W.kitOne K (.type "str") (.type t)=some y)(hz:W.kitOne K (.type "bool") (.type t)=some z)(he:EvB K Er S OO σ te rMx m):
  EvB K Er S OO σ (tCB (λxs H Q=>∃ x n t b,xs=[x, .ty n]/\TyOf K H x t/\W.kitOne K t (.type n)=some b/\Q (.bl b) H) (Xv te (Xv (tC (.ty t)) YK))) XB (m.bind λa=>.ok (WM x y z a)):=λH Q w s P=>
 he.run w s FB.tr P λa v H1 s1 w1 q1 r1 P1=>by
  cases(show v=a.v from r1)
  cases a with
  |i n=>exact⟨_,t,_,x,rfl, .int n,hx,P1 _ H1 (Xx.refl _) rfl⟩
  |s n=>exact⟨_,t,_,y,rfl, .str n,hy,P1 _ H1 (Xx.refl _) rfl⟩
  |b n=>exact⟨_,t,_,z,rfl, .bl n,hz,P1 _ H1 (Xx.refl _) rfl⟩
theorem U0 (K:W.Frag):W.kitOne K (.type "str") (.type "bool")=some false:=by
 first
  |rfl
  |decide+kernel
theorem GT (K:W.Frag):W.kitOne K (.type "int") (.type "str")=some false:=by
 first
  |rfl
  |decide+kernel
theorem Ka (K:W.Frag):W.kitOne K (.type "bool") (.type "str")=some false:=by
 first
  |rfl
  |decide+kernel
end
section
def TI2 (h:Heap)(i t:Addr)(k:Nat)(vs:Array Value):Prop:=h.IsTupleIter i t k/\h.IsTuple t vs
theorem TI2.go (x:TI2 h i t k vs)(e:Heap.ExtBut b h h')(n1:i≠b)(n2:t≠b):TI2 h' i t k vs:=⟨x.1.extBut e n1,x.2.extBut e n2⟩
theorem nxT {x:Value}(a:TI2 s.heap i t k vs)(c:vs[k]?=some x)
  (q:∀h',h'.IsTupleIter i t (k+1)->Heap.SameBut i s.heap h'->Q x {s with heap:=h'}):wpAny (model prog w) A (Builtin.SmallTypes.nextOf (.ref i)) Q E s:=by
 obtain⟨o,e1,e2,e3⟩:=id a.1
 obtain⟨p,f1,-,n,f2⟩:=a.2
 unfold Builtin.SmallTypes.nextOf
 refine wpAny_bind (wpAny_callSpecial?_slot (name:=Str.ofString "__next__") a.1.typeIs F.slot_tuple_iterator_next (wpAny_call_entry F.slot_tuple_iterator_next a.1.typeIs F.entry_tuple_iterator_next ?_ (F.args_tuple_iterator_next_1 _)))
 show wpAny _ _ (field (Value.ref i) 0 >>= _) _ _ _
 refine wpAny_bind (wpAny_field e1 e3 (x:=.ref t) rfl ?_)
 show wpAny _ _ (if(Value.ref t==Value.none)=true then _ else _) _ _ _
 rw[if_neg (show ¬(Value.ref t==Value.none)=true from Bool.false_ne_true)]
 show wpAny _ _ (field (Value.ref i) 1 >>= _) _ _ _
 refine wpAny_bind (wpAny_field e1 e3 (x:=.int k 0) rfl ?_)
 show wpAny _ _ (seqItems? (Value.ref t) >>= _) _ _ _
 refine wpAny_bind (wpAny_seqItems f1 f2 ?_)
 simp only[Int.toNat_natCast,c]
 exact wpAny_bind (wpAny_setField e1 e3 (by simp) (wpAny_pure ⟨x,rfl,wpAny_pure (q _ ⟨_,Heap.get?_update_self _ e1 (Obj.isFreed_of_fields (Obj.data_mapFields e3 _)),(Obj.cls_mapFields ..).trans e2,by rw[Obj.data_mapFields e3];simp[rawInt]⟩ (Heap.SameBut.update ..))⟩))
theorem nxE (hh:A.handled=none)(a:TI2 s.heap i t k vs)(c:vs[k]?=none)
  (q:∀h' e,Heap.ExtBut i s.heap h'->(∃o,h'.get? e=some o/\o.cls= .type "StopIteration")->E (.ref e) {s with heap:=h'}):wpAny (model prog w) A (Builtin.SmallTypes.nextOf (.ref i)) Q E s:=by
 obtain⟨o,e1,e2,e3⟩:=id a.1
 obtain⟨p,f1,-,n,f2⟩:=a.2
 unfold Builtin.SmallTypes.nextOf
 refine wpAny_bind (wpAny_callSpecial?_slot (name:=Str.ofString "__next__") a.1.typeIs F.slot_tuple_iterator_next (wpAny_call_entry F.slot_tuple_iterator_next a.1.typeIs F.entry_tuple_iterator_next ?_ (F.args_tuple_iterator_next_1 _)))
 show wpAny _ _ (field (Value.ref i) 0 >>= _) _ _ _
 refine wpAny_bind (wpAny_field e1 e3 (x:=.ref t) rfl ?_)
 show wpAny _ _ (if(Value.ref t==Value.none)=true then _ else _) _ _ _
 rw[if_neg (show ¬(Value.ref t==Value.none)=true from Bool.false_ne_true)]
 show wpAny _ _ (field (Value.ref i) 1 >>= _) _ _ _
 refine wpAny_bind (wpAny_field e1 e3 (x:=.int k 0) rfl ?_)
 show wpAny _ _ (seqItems? (Value.ref t) >>= _) _ _ _
 refine wpAny_bind (wpAny_seqItems f1 f2 ?_)
 simp only[Int.toNat_natCast,c]
 refine wpAny_bind (wpAny_rule (wpAny_bind (wpAny_setField e1 e3 (by simp) ?_)))
 show wpAny _ _ (newExc (Value.type "StopIteration") [] >>= _) _ _ _
 refine wpAny_bind ?_
 simp only[newExc,newTuple]
 refine wpAny_bind (wpAny_newObj_type ?_ (by size_fits))
 refine wpAny_bind (m:=firstArgMember _ _) (wpAny_of_eq (a:=Value.none) (by first |rfl | (simp only[firstArgMember];rfl)) ?_)
 refine wpAny_newObj_type ?_ (by size_fits)
 simp only[raiseNew]
 refine wpAny_bind (wpAny_handled ?_)
 first |rw[show A.in1.handled=none from hh] |rw[hh]
 exact wpAny_bind (wpAny_pure (wpAny_throw (q _ _ (((Heap.SameBut.update ..).extBut.push _).push _) ⟨_,Heap.get?_push_size _ rfl,rfl⟩)))
theorem Iz {TI TO i j l m:Addr}{xs ys:Array Value}{x y a b:Value}(D:ZipApart z TI TO i j l m)
  (hz:IsZip s.heap z TI TO .none)(hI:IsPair s.heap TI (.ref i) (.ref j))(hO:IsPair s.heap TO a b)(h1:TI2 s.heap i l k xs)(h2:TI2 s.heap j m k ys)(hx:xs[k]?=some x)(hy:ys[k]?=some y)
  (hQ:∀h',IsZip h' z TI TO (rawInt s.heap.objs.size)->IsPair h' TO x y->h'.IsTupleIter i l (k+1)->h'.IsTupleIter j m (k+1)->IsPair h' s.heap.objs.size x y->
   (∀c o,c≠z->c≠TO->c≠i->c≠j->s.heap.get? c=some o->h'.get? c=some o)->Q (.ref s.heap.objs.size) {s with heap:=h'}):
  wpAny (model prog w) A (Builtin.«zip.__next__» ⟨[.ref z],[]⟩) (λfin s'=>∃ v,fin= .done (.ret v)/\Q v s') E s:=by
 show wpAny _ _ (field (Value.ref z) 2 >>= _) _ _ _
 refine wpAny_bind (wpAny_field hz rfl (x:=.bool false) rfl ?_)
 show wpAny _ _ (field (Value.ref z) 3 >>= _) _ _ _
 refine wpAny_bind (wpAny_field hz rfl (x:=.ref TI) rfl (wpAny_bind (wpAny_seqItems hI rfl ?_)))
 show wpAny _ _ (Builtin.SmallTypes.ownedTupleIsFree (Value.ref z) >>= _) _ _ _
 refine wpAny_bind ?_
 unfold Builtin.SmallTypes.ownedTupleIsFree
 refine wpAny_bind (wpAny_field hz rfl (x:=Value.none) rfl (wpAny_pure ?_))
 simp only[if_true]
 refine wpAny_bind (wpAny_rule (wpAny_bind (wpAny_field hz rfl (x:=.ref TO) rfl (wpAny_bind (wpAny_setField_rec hz (by simp) λg1 z1 s1=>?_)))))
 replace z1:IsZip g1 z TI TO .ellipsis:=z1
 refine wpAny_bind ?_
 simp only[List.zipIdx_cons,List.zipIdx_nil,List.forIn_cons,List.forIn_nil]
 refine wpAny_bind (wpAny_bind (wpAny_onRaise ?_))
 show wpAny _ _ (Builtin.SmallTypes.nextOf (Value.ref i) >>= _) _ _ _
 have p1:TI2 g1 i l k xs:=h1.go s1.extBut D.i1z D.l1z
 refine wpAny_bind (nxT (s:={s with heap:=g1}) p1 hx λg2 p2 s2=>wpAny_pure ?_)
 have o2:IsPair g2 TO a b:=s2.extBut _ _ D.TOi1 (s1.extBut _ _ D.TOz hO)
 refine wpAny_bind (wpAny_seqItems o2 rfl (wpAny_bind (wpAny_updateSeq_pair o2 λg3 o3 s3=>?_)))
 replace o3:IsPair g3 TO x b:=o3
 refine wpAny_bind (wpAny_letGo (wpAny_pure (wpAny_bind (wpAny_bind (wpAny_onRaise ?_)))))
 show wpAny _ _ (Builtin.SmallTypes.nextOf (Value.ref j) >>= _) _ _ _
 have p3:TI2 g3 j m k ys:=((h2.go s1.extBut D.i2z D.l2z).go s2.extBut D.i12.symm D.l2i1).go s3.extBut D.TOi2.symm D.l2TO
 refine wpAny_bind (nxT (s:={s with heap:=g3}) p3 hy λg4 p4 s4=>wpAny_pure ?_)
 have o4:IsPair g4 TO x b:=s4.extBut _ _ D.TOi2 o3
 refine wpAny_bind (wpAny_seqItems o4 rfl (wpAny_bind (wpAny_updateSeq_pair o4 λg5 o5 s5=>?_)))
 replace o5:IsPair g5 TO x y:=o5
 refine wpAny_bind (wpAny_letGo (wpAny_pure (wpAny_pure (wpAny_bind (wpAny_seqItems o5 rfl (wpAny_bind (wpAny_newTuple ?_)))))))
 have n5:g5.objs.size=s.heap.objs.size:=by rw[s5.1,s4.1,s3.1,s2.1,s1.1]
 have z5:IsZip g5 z TI TO .ellipsis:=s5.extBut _ _ D.TOz.symm (s4.extBut _ _ D.i2z.symm (s3.extBut _ _ D.TOz.symm (s2.extBut _ _ D.i1z.symm z1)))
 have k5:∀c o,c≠z->c≠TO->c≠i->c≠j->s.heap.get? c=some o->g5.get? c=some o:=λc o c1 c2 c3 c4 e=>s5.extBut _ _ c2 (s4.extBut _ _ c4 (s3.extBut _ _ c2 (s2.extBut _ _ c3 (s1.extBut _ _ c1 e))))
 have i5:g5.IsTupleIter i l (k+1):=((p2.extBut s3.extBut D.TOi1.symm).extBut s4.extBut D.i12).extBut s5.extBut D.TOi1.symm
 have j5:g5.IsTupleIter j m (k+1):=p4.extBut s5.extBut D.TOi2.symm
 have zl:z<g5.objs.size:=Heap.lt_size z5
 show wpAny _ _ (Builtin.SmallTypes.ownedTupleHandOut (Value.ref z) (Value.ref g5.objs.size) >>= _) _ _ _
 refine wpAny_bind ?_
 unfold Builtin.SmallTypes.ownedTupleHandOut
 have z6:IsZip (g5.push {cls:=.type "tuple",data:=.seq #[x,y]}) z TI TO .ellipsis:=Heap.get?_push_of_some _ z5
 refine wpAny_bind (wpAny_setField_rec z6 (by simp) λg7 z7 s7=>?_)
 replace z7:IsZip g7 z TI TO (rawInt g5.objs.size):=z7
 refine wpAny_setField_rec z7 (by simp) λg8 z8 s8=>?_
 replace z8:IsZip g8 z TI TO (rawInt g5.objs.size):=z8
 have up:∀c o,c≠z->g5.get? c=some o->g8.get? c=some o:=λc o c1 e=>s8.extBut _ _ c1 (s7.extBut _ _ c1 (Heap.get?_push_of_some _ e))
 have t8:IsPair g8 g5.objs.size x y:=s8.extBut _ _ (Nat.ne_of_gt zl) (s7.extBut _ _ (Nat.ne_of_gt zl) (Heap.get?_push_size _ rfl))
 rw[n5] at z8 t8
 refine wpAny_pure ⟨_,rfl,?_⟩
 show Q (.ref g5.objs.size) _
 rw[n5]
 have at':∀{u v:Addr}{q:Nat},g5.IsTupleIter u v q->u≠z->g8.IsTupleIter u v q:=λ⟨o,e,r⟩ n=>⟨o,up _ o n e,r⟩
 exact hQ g8 z8 (up _ _ D.TOz o5) (at' i5 D.i1z) (at' j5 D.i2z) t8 λc o c1 c2 c3 c4 e=>up c o c1 (k5 c o c1 c2 c3 c4 e)
theorem Ni {TI TO i j l m:Addr}{xs ys:Array Value}{a b:Value}{Q:Fin->Shared->Prop}(hh:A.handled=none)(D:ZipApart z TI TO i j l m)
  (hz:IsZip s.heap z TI TO .none)(hI:IsPair s.heap TI (.ref i) (.ref j))(hO:IsPair s.heap TO a b)(h1:TI2 s.heap i l k xs)(h2:TI2 s.heap j m k ys)(he:xs[k]?=none∨ys[k]?=none)
  (hE:∀h' e,(∀c o,c≠z->c≠TO->c≠i->c≠j->s.heap.get? c=some o->h'.get? c=some o)->(∃o,h'.get? e=some o/\o.cls= .type "StopIteration")->E (.ref e) {s with heap:=h'}):
  wpAny (model prog w) A (Builtin.«zip.__next__» ⟨[.ref z],[]⟩) Q E s:=by
 show wpAny _ _ (field (Value.ref z) 2 >>= _) _ _ _
 refine wpAny_bind (wpAny_field hz rfl (x:=.bool false) rfl ?_)
 show wpAny _ _ (field (Value.ref z) 3 >>= _) _ _ _
 refine wpAny_bind (wpAny_field hz rfl (x:=.ref TI) rfl (wpAny_bind (wpAny_seqItems hI rfl ?_)))
 show wpAny _ _ (Builtin.SmallTypes.ownedTupleIsFree (Value.ref z) >>= _) _ _ _
 refine wpAny_bind ?_
 unfold Builtin.SmallTypes.ownedTupleIsFree
 refine wpAny_bind (wpAny_field hz rfl (x:=Value.none) rfl (wpAny_pure ?_))
 simp only[if_true]
 refine wpAny_bind (wpAny_rule (wpAny_bind (wpAny_field hz rfl (x:=.ref TO) rfl (wpAny_bind (wpAny_setField_rec hz (by simp) λg1 z1 s1=>?_)))))
 replace z1:IsZip g1 z TI TO .ellipsis:=z1
 refine wpAny_bind ?_
 simp only[List.zipIdx_cons,List.zipIdx_nil,List.forIn_cons,List.forIn_nil]
 refine wpAny_bind (wpAny_bind (wpAny_onRaise ?_))
 show wpAny _ _ (Builtin.SmallTypes.nextOf (Value.ref i) >>= _) _ _ _
 have p1:TI2 g1 i l k xs:=h1.go s1.extBut D.i1z D.l1z
 cases hx:xs[k]? with
 |none=>
  refine wpAny_bind (nxE (s:={s with heap:=g1}) hh p1 hx λg2 e s2 he=>?_)
  obtain⟨oe,eR,ia⟩:=he
  have z2:IsZip g2 z TI TO .ellipsis:=s2 _ _ D.i1z.symm z1
  have ez:e≠z:=λq=>by subst q;rw[z2] at eR;cases eR;simp at ia
  exact wpAny_setField_rec z2 (by simp) λg3 _ s3=>hE g3 e (λc o c1 _ c3 _ q=>s3.extBut _ _ c1 (s2 _ _ c3 (s1.extBut _ _ c1 q))) ⟨oe,s3.extBut _ _ ez eR,ia⟩
 |some x=>
  have hy:ys[k]?=none:=he.resolve_left (by rw[hx];exact λq=>nomatch q)
  refine wpAny_bind (nxT (s:={s with heap:=g1}) p1 hx λg2 p2 s2=>wpAny_pure ?_)
  have o2:IsPair g2 TO a b:=s2.extBut _ _ D.TOi1 (s1.extBut _ _ D.TOz hO)
  refine wpAny_bind (wpAny_seqItems o2 rfl (wpAny_bind (wpAny_updateSeq_pair o2 λg3 o3 s3=>?_)))
  refine wpAny_bind (wpAny_letGo (wpAny_pure (wpAny_bind (wpAny_bind (wpAny_onRaise ?_)))))
  show wpAny _ _ (Builtin.SmallTypes.nextOf (Value.ref j) >>= _) _ _ _
  have p3:TI2 g3 j m k ys:=((h2.go s1.extBut D.i2z D.l2z).go s2.extBut D.i12.symm D.l2i1).go s3.extBut D.TOi2.symm D.l2TO
  refine wpAny_bind (nxE (s:={s with heap:=g3}) hh p3 hy λg4 e s4 he=>?_)
  obtain⟨oe,eR,ia⟩:=he
  have z4:IsZip g4 z TI TO .ellipsis:=s4 _ _ D.i2z.symm (s3.extBut _ _ D.TOz.symm (s2.extBut _ _ D.i1z.symm z1))
  have ez:e≠z:=λq=>by subst q;rw[z4] at eR;cases eR;simp at ia
  exact wpAny_setField_rec z4 (by simp) λg5 _ s5=>hE g5 e (λc o c1 c2 c3 c4 q=>s5.extBut _ _ c1 (s4 _ _ c4 (s3.extBut _ _ c2 (s2.extBut _ _ c3 (s1.extBut _ _ c1 q))))) ⟨oe,s5.extBut _ _ ez eR,ia⟩
theorem B0 {TI TO i j l m:Addr}{xs ys:Array Value}{x y a b:Value}{Q:Option Value->Shared->Prop}(D:ZipApart z TI TO i j l m)
  (hz:IsZip s.heap z TI TO .none)(hI:IsPair s.heap TI (.ref i) (.ref j))(hO:IsPair s.heap TO a b)(h1:TI2 s.heap i l k xs)(h2:TI2 s.heap j m k ys)(hx:xs[k]?=some x)(hy:ys[k]?=some y)
  (hQ:∀h',IsZip h' z TI TO (rawInt s.heap.objs.size)->IsPair h' TO x y->h'.IsTupleIter i l (k+1)->h'.IsTupleIter j m (k+1)->IsPair h' s.heap.objs.size x y->
   (∀c o,c≠z->c≠TO->c≠i->c≠j->s.heap.get? c=some o->h'.get? c=some o)->Q (some (.ref s.heap.objs.size)) {s with heap:=h'}):wpAny (model prog w) A (pyNext (.ref z)) Q E s:=by
 have t:s.TypeIs (.ref z) "zip":=⟨_,hz,rfl⟩
 unfold pyNext
 exact wpAny_bind (wpAny_attempt (wpAny_callSpecial?_slot (name:=Str.ofString "__next__") t F.slot_zip_next (wpAny_call_entry F.slot_zip_next t F.entry_zip_next (Iz D hz hI hO h1 h2 hx hy λh' a1 a2 a3 a4 a5 a6=>wpAny_pure (hQ h' a1 a2 a3 a4 a5 a6)) (F.args_zip_next_1 _))))
theorem HB {TI TO i j l m:Addr}{xs ys:Array Value}{a b:Value}{Q:Option Value->Shared->Prop}(hh:A.handled=none)(D:ZipApart z TI TO i j l m)
  (hz:IsZip s.heap z TI TO .none)(hI:IsPair s.heap TI (.ref i) (.ref j))(hO:IsPair s.heap TO a b)(h1:TI2 s.heap i l k xs)(h2:TI2 s.heap j m k ys)(he:xs[k]?=none∨ys[k]?=none)
  (hQ:∀h',(∀c o,c≠z->c≠TO->c≠i->c≠j->s.heap.get? c=some o->h'.get? c=some o)->Q none {s with heap:=h'}):wpAny (model prog w) A (pyNext (.ref z)) Q E s:=by
 have t:s.TypeIs (.ref z) "zip":=⟨_,hz,rfl⟩
 unfold pyNext
 refine wpAny_bind (wpAny_attempt (wpAny_callSpecial?_slot (name:=Str.ofString "__next__") t F.slot_zip_next (wpAny_call_entry F.slot_zip_next t F.entry_zip_next (Ni hh D hz hI hO h1 h2 he λh' e q1 ⟨o,o1,o2⟩=>?_) (F.args_zip_next_1 _))))
 exact wpAny_bind (wpAny_isInstance (T:="StopIteration") (b:=true) ⟨o,o1,o2⟩ isSubtype_stop (wpAny_pure (hQ _ q1)))
end
def zt1 (h:Heap)(l:Addr):Heap:=h.push {cls:=.type "tuple_iterator",data:=.fields #[.ref l, .int 0 0]}
def zt2 (h:Heap)(l m:Addr):Heap:=(zt1 h l).push {cls:=.type "tuple_iterator",data:=.fields #[.ref m, .int 0 0]}
def zt3 (h:Heap)(l m:Addr):Heap:=(zt2 h l m).push {cls:=.type "tuple",data:=.seq #[.ref h.objs.size, .ref (zt1 h l).objs.size]}
def zt4 (h:Heap)(l m:Addr):Heap:=(zt3 h l m).push {cls:=.type "tuple",data:=.seq #[.none, .none]}
def zt5 (h:Heap)(l m:Addr):Heap:=(zt4 h l m).push {cls:=.type "zip",data:=.fields #[.none, .bool false, .bool false, .ref (zt2 h l m).objs.size, .ref (zt3 h l m).objs.size]}
theorem RZ (l m:Addr)(xs ys:Array Value):Meets (Builtin.«zip.__new__» ⟨[.type "zip", .ref l, .ref m],[]⟩) (λ_ R s=>s.heap.IsTuple l xs/\s.heap.IsTuple m ys/\R (.ok (.ret (.ref (zt4 s.heap l m).objs.size))) {s with heap:=zt5 s.heap l m}):=
 .of_wp λprog w A R s h=>by
  obtain⟨hp,g,d,tk,os⟩:=s
  obtain⟨a1,a2,h⟩:=h
  have ar:=sub_zip
  have b1:Heap.IsTuple (Shared.heap ⟨hp,g,d,tk,os⟩) l xs:=a1
  have b2:Heap.IsTuple (Shared.heap ⟨hp.push {cls:=.type "tuple_iterator",data:=.fields #[.ref l, .int 0 0]},g,d,tk,os⟩) m ys:=Heap.IsTuple.push a2 _
  wp_walk using wpAny_pyIter_tuple b1,wpAny_pyIter_tuple b2
  exact⟨_,rfl,h⟩
section
theorem SW {m:Addr}{xs:Array Value}(a1:s.heap.IsTuple l xs)(a2:s.heap.IsTuple m ys)
  (h:∀h',IsZip h' (s.heap.objs.size+4) (s.heap.objs.size+2) (s.heap.objs.size+3) .none->IsPair h' (s.heap.objs.size+2) (.ref s.heap.objs.size) (.ref (s.heap.objs.size+1))->IsPair h' (s.heap.objs.size+3) .none .none->
   h'.IsTupleIter s.heap.objs.size l 0->h'.IsTupleIter (s.heap.objs.size+1) m 0->(∀c o,s.heap.get? c=some o->h'.get? c=some o)->Q (.ref (s.heap.objs.size+4)) {s with heap:=h'}):wpAny (model prog w) A (call (.type "zip") [.ref l, .ref m]) Q E s:=by
 refine callType_new F.called_zip (by decide) (F.typeCall_zip_2 _ _) (F.newCall_zip_2 _ _) (λobj=>F.args_object_init_3 obj _ _) F.entry_zip_new (RZ l m xs ys) ⟨a1,a2,?_⟩
 have n1:(zt1 s.heap l).objs.size=s.heap.objs.size+1:=Heap.size_push ..
 have n2:(zt2 s.heap l m).objs.size=s.heap.objs.size+2:=by unfold zt2;rw[Heap.size_push,n1]
 have n3:(zt3 s.heap l m).objs.size=s.heap.objs.size+3:=by unfold zt3;rw[Heap.size_push,n2]
 have n4:(zt4 s.heap l m).objs.size=s.heap.objs.size+4:=by unfold zt4;rw[Heap.size_push,n3]
 have up:∀{g:Heap}{c:Addr}{o p:Obj},g.get? c=some o->(g.push p).get? c=some o:=λe=>Heap.get?_push_of_some _ e
 have g5:(zt5 s.heap l m).get? (zt4 s.heap l m).objs.size=some _:=Heap.get?_push_size _ rfl
 have g4:(zt5 s.heap l m).get? (zt3 s.heap l m).objs.size=some _:=up (Heap.get?_push_size _ rfl)
 have g3:(zt5 s.heap l m).get? (zt2 s.heap l m).objs.size=some _:=up (up (Heap.get?_push_size _ rfl))
 have g2:(zt5 s.heap l m).get? (zt1 s.heap l).objs.size=some _:=up (up (up (Heap.get?_push_size _ rfl)))
 have g1:(zt5 s.heap l m).get? s.heap.objs.size=some _:=up (up (up (up (Heap.get?_push_size _ rfl))))
 show _/\_
 rw[n2,n3,n4] at g5
 rw[n1,n2] at g3
 rw[n3] at g4
 rw[n1] at g2
 rw[n4]
 exact⟨⟨_,g5,rfl⟩,h _ g5 g3 g4 ⟨_,g1,rfl,rfl⟩ ⟨_,g2,rfl,rfl⟩ λc o x=>up (up (up (up (up x))))⟩
end
def W5 (K:W.Frag)(a b:Addr):It:=
 ⟨λi H=>∃ xs ys x y,SqT K H a xs/\SqT K H b ys/\xs[i]?=some x/\ys[i]?=some y,λi H v H'=>∃ p x y,v= .ref p/\H p=none/\H'=upd H p (.tup [x,y])/\(∀xs,SqT K H a xs->xs[i]?=some x)/\∀ys,SqT K H b ys->ys[i]?=some y,
  λi H=>∃ xs ys,SqT K H a xs/\SqT K H b ys/\(xs.length<=i∨ys.length<=i)⟩
theorem MH {TI TO i1 i2 l1 l2:Addr}(ap:ZipApart z TI TO i1 i2 l1 l2):
  Turn P w K (.Tuple elts k pos) (W5 K l1 l2) [z,TI,TO,i1,i2] z (λi h=>IsZip h z TI TO .none/\IsPair h TI (.ref i1) (.ref i2)/\(∃a b,IsPair h TO a b)/\h.IsTupleIter i1 l1 i/\h.IsTupleIter i2 l2 i) where
 mem:=.head _
 obj:=λi h st=>by
  obtain⟨h1,h2,⟨a,c,h3⟩,⟨o4,h4,c4,d4⟩,⟨o5,h5,c5,d5⟩⟩:=st
  exact Ab ⟨_,h1,λv z=>by cases z⟩ ⟨_,h2,λv z=>by cases z⟩ ⟨_,h3,λv z=>by cases z⟩ ⟨o4,h4,λv z=>by rw[d4] at z;cases z⟩ ⟨o5,h5,λv z=>by rw[d5] at z;cases z⟩
 keep:=λi h h' st k=>⟨k z (.head _) _ st.1,k TI (.tail _ (.head _)) _ st.2.1,let ⟨a,b,q⟩:=st.2.2.1;⟨a,b,k TO (.tail _ (.tail _ (.head _))) _ q⟩,st.2.2.2.1.at λo q=>k i1 (.tail _ (.tail _ (.tail _ (.head _)))) o q,st.2.2.2.2.at λo q=>k i2 (.tail _ (.tail _ (.tail _ (.tail _ (.head _))))) o q⟩
 item:=by
  intro X hP hw hK hc i aa s σ H E I hf st hg
  subst hP hw hK
  obtain⟨xs,ys,x,y,gm,gn,hx,hy⟩:=hg
  obtain⟨ib,gj,p1,_⟩:=I.tuple gm
  obtain⟨aB,fe,p2,_⟩:=I.tuple gn
  obtain⟨u,hu,ru⟩:=gj.get hx
  obtain⟨v,hv,rv⟩:=fe.get hy
  obtain⟨h1,h2,⟨a,c,h3⟩,h4,h5⟩:=id st
  refine B0 ap h1 h2 h3 ⟨h4,p1⟩ ⟨h5,p2⟩ (x:=u) (y:=v) (by simpa using hu) (by simpa using hv) λh' z' TO' i1' i2' tup kk=>?_
  have hT:∀b o,s.heap.get? b=some o->s.heap.objs.size≠b:=λb o q z=>absurd (Heap.lt_size q) (by rw[←z];exact Nat.lt_irrefl _)
  have tz:=hT z _ h1
  have tTI:=hT TI _ h2
  have tTO:=hT TO _ h3
  have t1:s.heap.objs.size≠i1:=by obtain⟨o,q,_⟩:=h4;exact hT i1 o q
  have t2:s.heap.objs.size≠i2:=by obtain⟨o,q,_⟩:=h5;exact hT i2 o q
  refine⟨_,rfl,wpAny_letOwnedTupleGo_zip z' λh'' z'' sb=>?_⟩
  have k1:∀b o,b≠z->h'.get? b=some o->h''.get? b=some o:=λb o hb e=>(sb.2 b hb).trans e
  have k2:∀b o,b∉ [z,TI,TO,i1,i2]->s.heap.get? b=some o->h''.get? b=some o:=λb o q1 q=>let f:=Aq q1;k1 b o f.1 (kk b o f.1 f.2.2.1 f.2.2.2.1 f.2.2.2.2 q)
  refine⟨.ref s.heap.objs.size,upd H s.heap.objs.size (.tup [x,y]),I.turnLay (h':=h'') (t':=s.toks) k2 hf (Nat.le_refl _) ⟨by show 2<=sizeLine;decide,[u,v], .cons ru (.cons rv .nil),⟨_,k1 _ _ tz tup,⟨rfl,rfl⟩,_,rfl⟩⟩,rfl,
   ⟨_,x,y,rfl,I.hok.fresh (Nat.le_refl _),rfl,λzs hz=>by rw[I.tuple_inj hz gm];exact hx,λzs hz=>by rw[I.tuple_inj hz gn];exact hy⟩,⟨z'',k1 _ _ ap.TIz (kk _ _ ap.TIz ap.TITO ap.TIi1 ap.TIi2 h2),⟨_,_,k1 _ _ ap.TOz TO'⟩,i1'.at λo q=>k1 _ _ ap.i1z q,i2'.at λo q=>k1 _ _ ap.i2z q⟩,λb hb=>?_⟩
  exact(XV (Ab (p:=λb=>b≠s.heap.objs.size) tz.symm tTI.symm tTO.symm t1.symm t2.symm b hb)).trans (hf b hb).1
 done:=by
  intro X hP hw hK hc i aa s σ H E I hf st hg
  subst hP hw hK
  obtain⟨xs,ys,gm,gn,hx⟩:=hg
  obtain⟨ib,gj,p1,_⟩:=I.tuple gm
  obtain⟨aB,fe,p2,_⟩:=I.tuple gn
  obtain⟨h1,h2,⟨a,c,h3⟩,h4,h5⟩:=id st
  have hl1:=gj.length
  have ft:=fe.length
  refine HB (I.ok.hd hc) ap h1 h2 h3 ⟨h4,p1⟩ ⟨h5,p2⟩ (hx.elim (λh=>.inl (by simp;omega)) λh=>.inr (by simp;omega)) λh' kk=>⟨rfl,I.turns (t':=s.toks) (ch:=[z,TI,TO,i1,i2]) (λb o q1 q=>let f:=Aq q1;kk b o f.1 f.2.2.1 f.2.2.2.1 f.2.2.2.2 q) hf⟩
 self:=λ_ _ _ _ _ st h=>wpAny_pyIter_zip st.1 h
section
variable {fO:Pos}
def SZ (K:W.Frag)(t:TA):TI:=λσ H R=>t σ H λvs H1=>∃ a b,vs=[.ref a, .ref b]/\(∃xs,SqT K H1 a xs)/\(∃ys,SqT K H1 b ys)/\R (W5 K a b) H1
theorem Pm {t:TA}{p:Pos}(K:W.Frag)(hK:X.K=K)(hg:Gl X "zip")(hm:X.mg "zip" =none)(ha:PA X (e::es) t)
  (he:starEach (e::es) X.env=(false,eval e X.env)::starEach es X.env:=by rfl)(bO:(backTo pos (starEach es X.env)).any (·.1)=false:=by rfl):PI X (.Tuple elts k fO) (.Call (.Name "zip" p) (e::es) [] pos) (SZ K t):=by
 subst hK
 intro aa s σ H R I h
 refine wpAny_Call_Name_kw (UY I hg hm boot_zip ?_)
 refine callWith_type1 (thn (ha pos aa s σ H _ I h) λus s1 r9=>?_) he bO
 obtain⟨vs,H1,I1,r1,q1⟩:=r9
 obtain⟨a,b,rfl,⟨xs,gm⟩,⟨ys,gn⟩,q⟩:=q1
 obtain⟨u,v,rfl,ru,rv⟩:=Yf.two r1
 cases ru
 cases rv
 obtain⟨ib,_,pl1,_⟩:=I1.tuple gm
 obtain⟨aB,_,pl2,_⟩:=I1.tuple gn
 have l1:a<s1.heap.objs.size:=by obtain⟨o,ho,_⟩:=pl1;exact Heap.lt_size ho
 have l2:b<s1.heap.objs.size:=by obtain⟨o,ho,_⟩:=pl2;exact Heap.lt_size ho
 refine SW pl1 pl2 λh' hz hTI hTO i1 i2 kk=>?_
 refine wpAny_pyIter_zip hz ?_
 have hge:∀c:Nat,s1.heap.objs.size<=c->Br X aa H1 c:=λc hc=>I1.fpOk hc (I1.hok.fresh hc)
 generalize s1.heap.objs.size=n0 at l1 l2 hz hTI hTO i1 i2 hge⊢
 have l1': @LT.lt Nat _ a n0:=l1
 have l2': @LT.lt Nat _ b n0:=l2
 have ap:ZipApart (n0+4) (n0+2) (n0+3) n0 (n0+1) a b:=by
  constructor<;> (intro z;have z: @Eq Nat _ _:=z;omega)
 refine⟨_,[n0+4,n0+2,n0+3,n0,n0+1],_,_,H1,rfl,I1.kept (t':=s1.toks) kk,MH ap,⟨hz,hTI,⟨_,_,hTO⟩,i1,i2⟩,λc hb=>hge c ?_,q⟩
 simp only[List.mem_cons,List.not_mem_nil,or_false] at hb
 rcases hb with rfl |rfl |rfl |rfl |rfl
 ·exact Nat.le_add_right _ _
 ·exact Nat.le_add_right _ _
 ·exact Nat.le_add_right _ _
 ·exact Nat.le_refl _
 ·exact Nat.le_add_right _ _
end
section
def kvS (d:List (Str×Int)):List (Key×V):=d.map λe=>(.inr e.1, .int e.2)
def rDs:Enc (List (Str×Int)):=λ_ H v d=>∃ p,v= .ref p/\H p=some (.dK (kvS d))
def oDs:OE (List (Str×Int)):=λ_ _ v d C=>∃ p,v= .ref p/\C=[(p, .dK (kvS d))]
instance:MonoE rDs:=⟨λs r9=>by obtain⟨p,e,q⟩:=r9;exact⟨p,e,s _ _ q⟩⟩
instance:MonoO oDs:=⟨λ_ h=>h⟩
instance:FlatO oDs:=⟨λ_ h=>h⟩
instance:FrzC oDs rDs:=⟨λr9 _ hc=>by obtain⟨p,e,c⟩:=r9;exact⟨p,e,hc (p, .dK _) (by rw[c];simp)⟩⟩
def Gr (d:List (Str×Int))(k:Str):Option Int:=(d.find? λe=>decide (e.1=k)).map (·.2)
theorem EH {k:Str}:∀{d:List (Str×Int)},Bp (kvS d) (.inr k)=(Gr d k).map V.int
 | []=>rfl
 |e::d=>by
  by_cases z:e.1=k
  ·rw[show kvS (e::d)=(.inr e.1, .int e.2)::kvS d from rfl,VU (by rw[z])]
   simp[Gr,List.find?_cons,z]
  ·rw[show kvS (e::d)=(.inr e.1, .int e.2)::kvS d from rfl,VP (λq=>z (Sum.inr.inj q)),EH]
   simp[Gr,List.find?_cons,z]
theorem NR {mk:Rs Str}(hd:EvB K Er S OO σ td rDs md)(hk:EvB K Er S OO σ ty VY mk):EvB K Er S OO σ (SM td ty) Xf (md.bind λd=>mk.bind λk=>Gz (Gr d k)):=λH Q w s P=>
 hd.run w s FB.tr P λd x H1 s1 w1 q1 ⟨p,e,q⟩ P1=>hk.run w1 q1 FB.tr P1 λk y H2 s2 w2 q2 r2 P2=>by
  cases eg:Gr d k with
  |none=>rw[eg] at P2;exact P2.elim
  |some a=>
   rw[eg] at P2
   exact⟨p, .int a,e, .inl ⟨_, .inr k, .inl (s2 _ _ q),r2,by rw[EH,eg];rfl⟩,P2 _ H2 (Xx.refl _) rfl⟩
theorem Pq {k:Key}(h:k∉kvs.map (·.1)):Uj kvs k v=kvs++[(k,v)]:=by
 unfold Uj
 rw[if_neg]
 intro z
 obtain⟨x,hx,e⟩:=List.any_eq_true.mp z
 exact h (List.mem_map.mpr ⟨x,hx,of_decide_eq_true e⟩)
theorem Fz:∀{more kvs:List (Key×V)},((kvs++more).map (·.1)).Nodup->Kg kvs more=kvs++more
 | [],kvs,_=>(List.append_nil _).symm
 |e::more,kvs,h=>by
  have h2:((kvs++[e]++more).map (·.1)).Nodup:=by rw[List.append_assoc];exact h
  show Kg (Uj kvs e.1 e.2) more=_
  rw[Pq,Fz h2,List.append_assoc]
  ·rfl
  ·intro z
   rw[List.map_append,List.map_cons] at h
   exact(List.nodup_append.mp h).2.2 e.1 z e.1 (by simp) rfl
def trC (d:List (Str×Int)):List (TE×TE):=d.map λe=>(tC (.str e.1),tC (.int e.2))
theorem LG {Q:List (V×V)->Hp->Prop}:∀{d:List (Str×Int)},Q (d.map λe=>(.str e.1, .int e.2)) H->EF (trC d) σ H Q
 | [],h=>h
 |e::d,h=>LG (d:=d) (Q:=λps H3=>Q ((.str e.1, .int e.2)::ps) H3) h
theorem NL (d:List (Str×Int))(hl:d.length<=15)(hn:(d.map (·.1)).Nodup):Ev K Er S OO OO σ (TZ (trC d)) oDs (.ok d):=λH Q w s P p hp=>by
 refine LG ⟨X7,kvS d,by unfold kvS;rw[List.map_map];rfl,by unfold kvS;rw[List.length_map];exact hl,?_⟩
 have e:Kg [] (kvS d)=kvS d:=Fz (kvs:=[]) (by
  rw[List.nil_append]
  unfold kvS
  rw[List.map_map]
  exact List.pairwise_map.mpr ((List.pairwise_map.mp hn).imp λz q=>z (Sum.inr.inj q)))
 rw[e,R8]
 exact P (.ref p) [(p, .dK (kvS d))] _ (XH hp _) (w.new hp rfl) (Jv hp) ⟨p,rfl,rfl⟩
theorem Py {ma mb:Rs Mx}(ha:EvB K Er S OO σ ta rMx ma)(hb:EvB K Er S OO σ tb rMx mb):EvB K Er S OO σ (tOp rNe ta tb) XB (ma.bind λa=>mb.bind λb=>chk (a.kd=b.kd) (.ok (!decide (a=b)))):=λH Q w s P=>
 ha.run w s FB.tr P λa x H1 s1 w1 q1 r1 P1=>hb.run w1 q1 FB.tr P1 λb y H2 s2 w2 q2 r2 P2=>by
  obtain⟨hk,P2⟩:=PZ.chk P2
  have z:Wr x y=true/\decide (x=y)=decide (a=b):=by
   cases a with
   |i n=>cases b with
    |i m=>simpa using Scal.to (r:=Xf) (K:=K) (H:=H1) (H':=H2) (a:=n) (b:=m) r1 r2
    |s m=>cases hk
    |b m=>cases hk
   |s n=>cases b with
    |s m=>simpa using Scal.to (r:=VY) (K:=K) (H:=H1) (H':=H2) (a:=n) (b:=m) r1 r2
    |i m=>cases hk
    |b m=>cases hk
   |b n=>cases b with
    |b m=>simpa using Scal.to (r:=XB) (K:=K) (H:=H1) (H':=H2) (a:=n) (b:=m) r1 r2
    |i m=>cases hk
    |s m=>cases hk
  exact⟨z.1,P2 _ H2 (Xx.refl _) (by rw[z.2];rfl)⟩
end
section
theorem Me {q:Enc γ}[z:MonoE r][y:MonoE q]{mb:Rs (List γ)}(ha:EvS K Er S OO σ ta (rPL r) ma)(hb:EvS K Er S OO σ tb (rPL q) mb):Walk K Er S OO σ (SZ K (Xv ta (Xv tb YK))) (rP2 r q) (ma.bind λas=>mb.bind λbs=>.ok (as.zip bs)):=⟨fun {H R} w s P=>by
 refine ha H _ w s ?_
 cases em:ma with
 |bad=>rw[em] at P;exact P
 |err x=>rw[em] at P;exact P
 |ok as=>
  rw[em] at P
  intro v H1 s1 ⟨p,xs,e,hp,pr⟩
  refine hb H1 _ (w.keep s1) (S.mono _ _ (Xh s1) s) ?_
  have P1:PZ Er _ H (mb.bind λbs=>.ok (as.zip bs)):=P
  cases en:mb with
  |bad=>rw[en] at P1;exact P1
  |err x=>rw[en] at P1;exact λH2 s2=>P1 H2 (s1.trans s2)
  |ok bs=>
   rw[en] at P1
   intro v2 H2 s2 ⟨p2,ys,e2,dm,eF⟩
   have e8:=Xh (OO:=OO) s2 _ _ hp
   refine⟨p,p2,by rw[e,e2],⟨xs,SqT.of (Xz _ _ e8)⟩,⟨ys,SqT.of (Xz _ _ dm)⟩,P1 _ H2 (s1.trans s2) ?_ ?_⟩
   ·intro i c hc aU H3 w3 m3
    rw[List.getElem?_zip_eq_some] at hc
    obtain⟨x,hx,rx⟩:=Paired.getR pr hc.1
    obtain⟨x2,eE,rx2⟩:=Paired.getR eF hc.2
    have q1:SqT K H3 p xs:=SqT.of (Xz _ _ (m3 _ _ e8))
    have q2:SqT K H3 p2 ys:=SqT.of (Xz _ _ (m3 _ _ dm))
    refine⟨⟨xs,ys,x,x2,q1,q2,hx,eE⟩,λyv H4 h4=>?_⟩
    obtain⟨b,x',y',rfl,hb,rfl,g1,g2⟩:=h4
    have e1:=g1 xs q1
    have e3:=g2 ys q2
    rw[hx] at e1
    rw[eE] at e3
    cases e1
    cases e3
    refine⟨XH hb _,⟨b,x,x2,rfl,Ud w3 hb,z.mono (((Xh s2).trans m3).trans (Xh (XH hb _))) rx,y.mono (m3.trans (Xh (XH hb _))) rx2⟩⟩
   ·intro aU H3 w3 m3
    refine⟨xs,ys,SqT.of (Xz _ _ (m3 _ _ e8)),SqT.of (Xz _ _ (m3 _ _ dm)),?_⟩
    rw[List.length_zip,Paired.len pr,Paired.len eF]
    omega⟩
end
section
def Am (K:W.Frag):R2:=λx y H Q=>∃ as bs:List Mx,rPL rMx K H x as/\rPL rMx K H y bs/\as.map Mx.kd=bs.map Mx.kd/\Q (.bl (!decide (as=bs))) H
theorem Tv (K:W.Frag)(hK:X.K=K)(hu:X.A.units+1<cLine):OpR X (compareOp .NotEq) (Am K):=by
 subst hK
 intro aa s σ H x y v u Q I rx ry h
 obtain⟨as,bs,⟨a,xs,rfl,q1,p1⟩,⟨b,ys,rfl,q2,p2⟩,hk,q⟩:=h
 cases rx;cases ry
 obtain⟨its,r1,l1,_⟩:=I.tuple (SqT.of q1)
 obtain⟨aB,r2,l2,_⟩:=I.tuple (SqT.of q2)
 have n1:=r1.length
 have n2:=r2.length
 have m1:=Paired.len p1
 have m2:=Paired.len p2
 have:=SeqAt.RcNeAt.tuples (A:=X.A) (e:=λj=>decide (as[j]?=bs[j]?)) l1 l2 (by omega) (λj h1 h2=>by
  have bB:j<its.length:=by simpa using h1
  have bv:j<aB.length:=by simpa using h2
  obtain⟨x,ex,rx⟩:=Paired.getR (i:=j) (b:=its[j]) r1 (by simp[bB])
  obtain⟨y,ey,ry⟩:=Paired.getR (i:=j) (b:=aB[j]) r2 (by simp[bv])
  obtain⟨a,ea,ra⟩:=Paired.getL p1 ex
  obtain⟨b,eb,rb⟩:=Paired.getL p2 ey
  have kk:a.kd=b.kd:=by
   have z:=congrArg (λl=>l[j]?) hk
   simpa[ea,eb] using z
  have:=Wx (A:=X.A.in1) I rx ry ra rb kk (by rw[ZN];omega)
  simp only[ea,eb]
  simpa using this)
 rw[show its.toArray.size=as.length by simp only[List.size_toArray];omega,show aB.toArray.size=bs.length by simp only[List.size_toArray];omega,Pd] at this
 exact this _ _ _ _ ⟨.bl _,H,I,rfl,q⟩
end
section
theorem Pn {ma mb:Rs (List Mx)}(ha:EvB K Er S OO σ ta (rPL rMx) ma)(hb:EvB K Er S OO σ tb (rPL rMx) mb):EvB K Er S OO σ (tOp (Am K) ta tb) XB (ma.bind λa=>mb.bind λb=>chk (a.map Mx.kd=b.map Mx.kd) (.ok (!decide (a=b)))):=λH Q w s P=>
 ha.run w s FB.tr P λa x H1 s1 w1 q1 r1 P1=>hb.run w1 q1 FB.tr P1 λb y H2 s2 w2 q2 r2 P2=>by
  obtain⟨hk,P3⟩:=PZ.chk P2
  exact⟨a,b,MonoE.mono s2 r1,r2,hk,P3 _ H2 (Xx.refl _) rfl⟩
end
end L2
end
namespace L2
open PySem PySem.Spec PyProof.Rows
theorem J9 {X:Cx}{α:Type}[DecidableEq α]{r:Enc α}{d:Nat}(K:W.Frag)(h:X.K=K)(E:EqOk r d)(hu:X.A.units+d<cLine):OpR X (compareOp .NotEq) (Wp K r):=by subst h;exact TV E hu
section
variable {α β γ δ ρ:Type}{K:W.Frag}{Er:Exc->Hp->Prop}{S T:SC}{OO:List (List XZ)}{σ l:St}{i j k n:Nat}{v w:V}{x:Option V}{r:Enc α}{q:Enc β}{t:Enc γ}{o:OE α}{a:α}{C D:List XZ}{te ta tb tc:TE}
class Nn (i j:Nat):Prop where h:i≠j
instance:Nn 0 (j+1):=⟨by omega⟩
instance:Nn (i+1) 0:=⟨by omega⟩
instance [x:Nn i j]:Nn (i+1) (j+1):=⟨by have:=x.h;omega⟩
class Lk {β:Type}(l:List β)(k:Nat):Prop where h:k<l.length
instance {b:β}{l:List β}:Lk (b::l) 0:=⟨by simp⟩
instance {b:β}{l:List β}[x:Lk l k]:Lk (b::l) (k+1):=⟨by simpa using x.h⟩
instance {b:β}{l:List β}[x:Lk l k]:Lk (l.set j b) k:=⟨by simpa using x.h⟩
instance {b:β}:Lk (List.replicate (n+1) b) 0:=⟨by simp⟩
instance {b:β}[x:Lk (List.replicate n b) k]:Lk (List.replicate (n+1) b) (k+1):=⟨by simpa using x.h⟩
class Sl (σ:St)(i:Nat)(v:outParam V):Prop where h:σ[i]?=some (some v)
instance:Sl (some v::l) 0 v:=⟨rfl⟩
instance [y:Sl l i v]:Sl (x::l) (i+1) v:=⟨y.h⟩
instance [y:Lk σ i]:Sl (σ.set i (some v)) i v:=⟨by simp[y.h]⟩
instance [y:Sl σ i v][z:Nn j i]:Sl (σ.set j x) i v:=⟨by rw[List.getElem?_set_ne z.h];exact y.h⟩
class Cp (caps:List (Nat×Str))(j:Nat)(i:outParam Nat):Prop where h:∃s,caps[j]?=some (i,s)
instance {s:Str}{c:List (Nat×Str)}:Cp ((i,s)::c) 0 i:=⟨s,rfl⟩
instance {p:Nat×Str}{c:List (Nat×Str)}[y:Cp c j i]:Cp (p::c) (j+1) i:=⟨y.h⟩
instance {s:Str}{z:List Str}{c:List (Nat×Str)}:Lk (Yt (List.length (s::z)) c σ) 0:=⟨by unfold Yt;simp;omega⟩
instance {s s':Str}{z:List Str}{c:List (Nat×Str)}:Lk (Yt (List.length (s::s'::z)) c σ) 1:=⟨by unfold Yt;simp;omega⟩
instance {s:Str}{c:List (Nat×Str)}[y:Cp c j i][z:Sl σ i v]:Sl (Yt (List.length [s]) c σ) (j+1) v:=⟨by
 obtain⟨s,h⟩:=y.h
 unfold Yt
 rw[List.getElem?_append_right (by simp),List.getElem?_map]
 simp[h,z.h]⟩
instance {s s':Str}{c:List (Nat×Str)}[y:Cp c j i][z:Sl σ i v]:Sl (Yt (List.length [s,s']) c σ) (j+2) v:=⟨by
 obtain⟨s,h⟩:=y.h
 unfold Yt
 rw[List.getElem?_append_right (by simp),List.getElem?_map]
 simp[h,z.h]⟩
class Ow (OO:List (List XZ))(k:outParam Nat)(C:List XZ):Prop where h:OO[k]?=some C
instance:Ow (C::OO) 0 C:=⟨rfl⟩
instance [y:Ow OO k C]:Ow (D::OO) (k+1) C:=⟨y.h⟩
instance [y:Lk OO k]:Ow (OO.set k C) k C:=⟨by simp[y.h]⟩
instance [y:Ow OO k C][z:Nn j k]:Ow (OO.set j D) k C:=⟨by rw[List.getElem?_set_ne z.h];exact y.h⟩
class Fc (S:SC)(K:W.Frag)(v:V){α:outParam Type}(r:outParam (Enc α))(a:outParam α):Prop where h:∀x,S.p x->r K x v a
instance [MonoE r]:Fc (S.and (SC.one K r v a)) K v r a:=⟨λ_ s=>s.2⟩
instance (priority:=900)[y:Fc S K v r a]:Fc (S.and T) K v r a:=⟨λx s=>y.h x s.1⟩
class Fo (S:SC)(K:W.Frag)(v:V){α:outParam Type}(o:outParam (OE α))(a:outParam α)(C:outParam (List XZ)):Prop where h:∀x,S.p x->o K x v a C
instance [MonoO o]:Fo (S.and (SC.oneO K o v a C)) K v o a C:=⟨λ_ s=>s.2⟩
instance (priority:=900)[y:Fo S K v o a C]:Fo (S.and T) K v o a C:=⟨λx s=>y.h x s.1⟩
class Su (S T:SC):Prop where h:∀x,S.p x->T.p x
instance:Su S S:=⟨λ_ s=>s⟩
instance (priority:=900):Su S SC.nil:=⟨λ_ _=>SC.t⟩
instance (priority:=800)[MonoE r][y:Su S T][z:Fc S K v r a]:Su S (T.and (SC.one K r v a)):=⟨λx s=>⟨y.h x s,z.h x s⟩⟩
instance (priority:=800)[MonoO o][y:Su S T][z:Fo S K v o a C]:Su S (T.and (SC.oneO K o v a C)):=⟨λx s=>⟨y.h x s,z.h x s⟩⟩
instance (priority:=700){T':SC}[y:Su S T']:Su (S.and T) T':=⟨λx s=>y.h x s.1⟩
variable (K Er S OO σ te) in
class CB {α:outParam Type}(r:outParam (Enc α))(m:outParam (Rs α)):Prop where h:EvB K Er S OO σ te r m
variable (K Er S OO σ te) in
class CW {α:Type}(r:Enc α)(m:outParam (Rs α)):Prop where h:EvB K Er S OO σ te r m
variable (K Er S OO σ te) in
class CS {α:outParam Type}(r:outParam (Enc α))(m:outParam (Rs α)):Prop where h:EvS K Er S OO σ te r m
variable (K Er S OO σ te) in
class CV {α:Type}(r:Enc α)(m:outParam (Rs α)):Prop where h:EvS K Er S OO σ te r m
variable (K Er S OO σ te) in
class CN {α:outParam Type}(o:outParam (OE α))(m:outParam (Rs α)):Prop where h:Ev K Er S OO OO σ te o m
variable (K Er S OO σ te) in
class CM {α:outParam Type}(o:outParam (OE α))(m:outParam (Rs α)):Prop where h:Ev K Er S OO OO σ te o m
variable (K Er S OO σ te) in
class CO {α:Type}(o:OE α)(m:outParam (Rs α)):Prop where h:Ev K Er S OO OO σ te o m
variable (K Er S OO σ te) in
class CL {α:outParam Type}(r:outParam (Enc α))(m:outParam (Rs (List α))):Prop where h:EvL K Er S OO σ te r m
class CT (K:W.Frag)(Er:Exc->Hp->Prop)(S:SC)(OO:List (List XZ))(σ:St)(tt:TT)(m:outParam (Rs Bool)):Prop where h:EvT Er S OO σ tt m
class CP (K:W.Frag)(Er:Exc->Hp->Prop)(S:SC)(OO:List (List XZ))(σ:St)(tt:TO)(m:outParam (Rs (Option Int))):Prop where h:EvP Er S OO σ tt m
variable (K Er S OO σ) in
class CA {α:Type}(t:TA)(r:Enc α)(m:outParam (Rs (List α))):Prop where h:EvA K Er S OO σ t r m
variable (K Er S OO σ) in
class Cw (wi:TI){α:outParam Type}(r:outParam (Enc α))(m:outParam (Rs (List α))):Prop where h:Walk K Er S OO σ wi r m
variable {m m':Rs α}{ml:Rs (List α)}{mi mj:Rs Int}{mb mc:Rs Bool}{ms:Rs Str}{tt tu:TT}
theorem qb [c:CW K Er S OO σ te r m]:EvB K Er S OO σ te r m:=c.h
theorem qB [c:CB K Er S OO σ te r m]:EvB K Er S OO σ te r m:=c.h
theorem qs [c:CV K Er S OO σ te r m]:EvS K Er S OO σ te r m:=c.h
theorem qS [c:CS K Er S OO σ te r m]:EvS K Er S OO σ te r m:=c.h
theorem qn [c:CO K Er S OO σ te o m]:Ev K Er S OO OO σ te o m:=c.h
theorem qN [c:CN K Er S OO σ te o m]:Ev K Er S OO OO σ te o m:=c.h
theorem qM [c:CM K Er S OO σ te o m]:Ev K Er S OO OO σ te o m:=c.h
theorem ql [c:CL K Er S OO σ te r ml]:EvL K Er S OO σ te r ml:=c.h
variable (K) in
theorem qt [c:CT K Er S OO σ tt mb]:EvT Er S OO σ tt mb:=c.h
variable (K) in
theorem qp {tt:TO}{m:Rs (Option Int)}[c:CP K Er S OO σ tt m]:EvP Er S OO σ tt m:=c.h
theorem qa {t:TA}[c:CA K Er S OO σ t r ml]:EvA K Er S OO σ t r ml:=c.h
theorem qw {wi:TI}[c:Cw K Er S OO σ wi r ml]:Walk K Er S OO σ wi r ml:=c.h
-- as wanted
instance [c:CB K Er S OO σ te r m]:CW K Er S OO σ te r m:=⟨c.h⟩
instance (priority:=900){m:Rs Mx}[c:CB K Er S OO σ te rMx m]:CW K Er S OO σ te Xf (m.bind mxI):=⟨Yc c.h⟩
instance (priority:=900){m:Rs Mx}[c:CB K Er S OO σ te rMx m]:CW K Er S OO σ te VY (m.bind mxS):=⟨Lf c.h⟩
instance (priority:=900){m:Rs Mx}[c:CB K Er S OO σ te rMx m]:CW K Er S OO σ te XB (m.bind mxB):=⟨SE c.h⟩
instance (priority:=900){m:Rs (Option α)}[c:CB K Er S OO σ te (Gm r) m]:CW K Er S OO σ te r (m.bind Gz):=⟨Kh c.h⟩
instance (priority:=900){m:Rs (Int×Int)}[c:CB K Er S OO σ te (rP2 Xf Xf) m]:CW K Er S OO σ te (rPL Xf) (m.bind λp=>.ok [p.1,p.2]):=⟨GR c.h⟩
instance [FlatE r][c:CW K Er S OO σ te r m]:CV K Er S OO σ te r m:=⟨EvB.sh c.h⟩
instance (priority:=900)[c:CS K Er S OO σ te r m]:CV K Er S OO σ te r m:=⟨c.h⟩
instance (priority:=800)[c:CV K Er S OO σ te Xf mi]:CV K Er S OO σ te rMx (mi.bind λa=>.ok (.i a)):=⟨ZB c.h⟩
instance (priority:=800)[c:CV K Er S OO σ te VY ms]:CV K Er S OO σ te rMx (ms.bind λa=>.ok (.s a)):=⟨FI c.h⟩
instance (priority:=800)[c:CV K Er S OO σ te XB mb]:CV K Er S OO σ te rMx (mb.bind λa=>.ok (.b a)):=⟨MV c.h⟩
instance [c:CN K Er S OO σ te o m]:CO K Er S OO σ te o m:=⟨c.h⟩
instance (priority:=900)[c:CV K Er S OO σ te r m]:CO K Er S OO σ te (oF r) m:=⟨EvS.ev c.h⟩
instance [c:CN K Er S OO σ te o m]:CM K Er S OO σ te o m:=⟨c.h⟩
instance (priority:=900)[c:CS K Er S OO σ te r m]:CM K Er S OO σ te (oF r) m:=⟨EvS.ev c.h⟩
instance {o:OE α}:CO K Er S OO σ (M4 YK) (oL o) (.ok []):=⟨G3⟩
-- one of df other
instance (priority:=500)[FrzC o r][c:CN K Er S OO σ te o m]:CB K Er S OO σ te r m:=⟨Ev.toB c.h⟩
instance (priority:=600)[FlatE r][c:CB K Er S OO σ te r m]:CS K Er S OO σ te r m:=⟨EvB.sh c.h⟩
instance (priority:=500)[FrzC o r][c:CN K Er S OO σ te o m]:CS K Er S OO σ te r m:=⟨Ev.sh c.h⟩
instance (priority:=700)[c:CS K Er S OO σ te (rV r) ml]:CL K Er S OO σ te r ml:=⟨EvS.ls c.h⟩
instance (priority:=600)[FlatE r][c:CB K Er S OO σ te (rV r) ml]:CL K Er S OO σ te r ml:=⟨EvB.ls c.h⟩
instance (priority:=800)[MonoE r][c:CN K Er S OO σ te (oL (oF r)) ml]:CL K Er S OO σ te r ml:=⟨Ev.ls c.h⟩
-- names
instance [y:Sl σ i v][z:Fc S K v r a][MonoE r]:CB K Er S OO σ (VI i) r (.ok a):=⟨X3 i y.h z.h⟩
instance (priority:=900)[y:Sl σ i v][z:Fo S K v o a C][u:Ow OO k C][FrzC o r]:CB K Er S OO σ (VI i) r (.ok a):=⟨RD i k y.h u.h z.h⟩
instance [y:Sl σ i v][z:Fc S K v r a]:CS K Er S OO σ (VI i) r (.ok a):=⟨GM i y.h z.h⟩
-- constants
instance {n:Int}:CB K Er S OO σ (tC (.int n)) Xf (.ok n):=⟨ZC n⟩
instance {b:Bool}:CB K Er S OO σ (tC (.bl b)) XB (.ok b):=⟨Td b⟩
instance {x:Str}:CB K Er S OO σ (tC (.str x)) VY (.ok x):=⟨Gu x⟩
-- numbers
section
variable [x':CW K Er S OO σ ta Xf mi][y':CW K Er S OO σ tb Xf mj]
instance:CB K Er S OO σ (tOp (rI0 λi j=>V.int (i+j)) ta tb) Xf (mi.bind λa=>mj.bind λb=>.ok (a+b)):=⟨LV x'.h y'.h⟩
instance:CB K Er S OO σ (tOp (rI0 λi j=>V.int (i-j)) ta tb) Xf (mi.bind λa=>mj.bind λb=>.ok (a-b)):=⟨Gk x'.h y'.h⟩
instance:CB K Er S OO σ (tOp (rI Ty λi j=>V.int (i*j)) ta tb) Xf (mi.bind λa=>mj.bind λb=>Oh a b):=⟨JC x'.h y'.h⟩
instance:CB K Er S OO σ (tOp (rI (λx j=>(0:Int)<j) λi j=>V.int (i % j)) ta tb) Xf (mi.bind λa=>mj.bind λb=>TD a b):=⟨Pw x'.h y'.h⟩
instance:CB K Er S OO σ (tOp (rI (λx j=>(0:Int)<j/\j.natAbs.log2<9000) λi j=>V.int (i/j)) ta tb) Xf (mi.bind λa=>mj.bind λb=>WH a b):=⟨SA x'.h y'.h⟩
instance:CB K Er S OO σ (tOp (rI Ws λi j=>V.int (i^j.toNat)) ta tb) Xf (mi.bind λa=>mj.bind λb=>WI a b):=⟨RX x'.h y'.h⟩
instance:CB K Er S OO σ (tOp (rI0 λi j=>V.bl (decide (i<j))) ta tb) XB (mi.bind λa=>mj.bind λb=>.ok (decide (a<b))):=⟨Fy x'.h y'.h⟩
instance:CB K Er S OO σ (tOp (rI0 λi j=>V.bl (decide (i<=j))) ta tb) XB (mi.bind λa=>mj.bind λb=>.ok (decide (a<=b))):=⟨T0 x'.h y'.h⟩
instance:CB K Er S OO σ (tOp (rI0 λi j=>V.bl (decide (j<i))) ta tb) XB (mi.bind λa=>mj.bind λb=>.ok (decide (b<a))):=⟨Oo x'.h y'.h⟩
instance:CB K Er S OO σ (tOp (rI0 λi j=>V.bl (decide (j<=i))) ta tb) XB (mi.bind λa=>mj.bind λb=>.ok (decide (b<=a))):=⟨Tp x'.h y'.h⟩
instance:CB K Er S OO σ (tCB (λxs H Q=>∃ (i:Int),∃(j:Int),xs=[V.int i,V.int j]/\Q (V.int (if j > i then j else i)) H) (Xv ta (Xv tb YK))) Xf (mi.bind λa=>mj.bind λb=>.ok (max a b)):=⟨LR x'.h y'.h⟩
instance:CB K Er S OO σ (tCB (λxs H Q=>∃ (i:Int),∃(j:Int),xs=[V.int i,V.int j]/\Q (V.int (if j<i then j else i)) H) (Xv ta (Xv tb YK))) Xf (mi.bind λa=>mj.bind λb=>.ok (min a b)):=⟨Ix x'.h y'.h⟩
instance:Cw K Er S OO σ (Sb (Xv ta YK)) Xf (mi.bind λn=>Ov (0:Int) n):=⟨Gy x'.h⟩
instance:CB K Er S OO σ (tUn (rU λi=>V.int (-i)) ta) Xf (mi.bind λa=>.ok (-a)):=⟨UQ x'.h⟩
instance:CB K Er S OO σ (tCB (λxs H Q=>∃ (i:Int),xs=[V.int i]/\Q (V.int (if i<(0:Int) then-i else i)) H) (Xv ta YK)) Xf (mi.bind λa=>.ok (a.natAbs:Int)):=⟨PX x'.h⟩
instance:CP K Er S OO σ (Sc ta) (mi.bind λi=>.ok (some i)):=⟨N6 x'.h⟩
instance:CP K Er S OO σ BU (.ok none):=⟨M9⟩
end
section
variable [DecidableEq α][Scal r][MonoE r][y':CB K Er S OO σ tb r m'][x':CW K Er S OO σ ta r m]
instance:CB K Er S OO σ (tOp rEq ta tb) XB (m.bind λa=>m'.bind λb=>.ok (decide (a=b))):=⟨VT x'.h y'.h⟩
instance:CB K Er S OO σ (tOp rNe ta tb) XB (m.bind λa=>m'.bind λb=>.ok !decide (a=b)):=⟨KU x'.h y'.h⟩
end
section
variable [DecidableEq α][Scal r][MonoE r][x':CB K Er S OO σ ta r m][y':CW K Er S OO σ tb r m']
instance (priority:=900):CB K Er S OO σ (tOp rEq ta tb) XB (m.bind λa=>m'.bind λb=>.ok (decide (a=b))):=⟨VT x'.h y'.h⟩
instance (priority:=900):CB K Er S OO σ (tOp rNe ta tb) XB (m.bind λa=>m'.bind λb=>.ok !decide (a=b)):=⟨KU x'.h y'.h⟩
end
section
variable {m m':Rs Mx}[x':CB K Er S OO σ ta rMx m][y':CB K Er S OO σ tb rMx m']
instance:CB K Er S OO σ (tOp rEq ta tb) XB ((m.bind mxI).bind λa=>(m'.bind mxI).bind λb=>.ok (decide (a=b))):=⟨VT (Yc x'.h) (Yc y'.h)⟩
instance:CB K Er S OO σ (tOp rNe ta tb) XB ((m.bind mxI).bind λa=>(m'.bind mxI).bind λb=>.ok !decide (a=b)):=⟨KU (Yc x'.h) (Yc y'.h)⟩
end
section
variable [DecidableEq α][MonoE r][x':CB K Er S OO σ ta r m][y':CW K Er S OO σ tb r m']
instance:CB K Er S OO σ (tOp (Wp K r) ta tb) XB (m.bind λa=>m'.bind λb=>.ok !decide (a=b)):=⟨GJ x'.h y'.h⟩
end
-- truths
section
variable [x':CW K Er S OO σ ta XB mb][y':CW K Er S OO σ tb XB mc][u':CT K Er S OO σ tt mb][w':CT K Er S OO σ tu mc]
instance:CT K Er S OO σ (tB ta) mb:=⟨Lg x'.h⟩
instance:CT K Er S OO σ (NO ta) mb:=⟨XD x'.h⟩
instance:CT K Er S OO σ (Wz tt) (mb.bind λb=>.ok !b):=⟨F9 u'.h⟩
instance:CT K Er S OO σ (WX tt tu) (O5 mb mc):=⟨M3 u'.h w'.h⟩
instance:CT K Er S OO σ (tOr tt tu) (orR mb mc):=⟨Z1 u'.h w'.h⟩
instance:CB K Er S OO σ (Sh ta tb) XB (O5 mb mc):=⟨ZJ x'.h y'.h⟩
instance:CB K Er S OO σ (tCB (λxs H Q=>(∃(i:Int),xs=[V.int i]/\Q (V.int i) H)∨∃(k:Bool),xs=[V.bl k]/\Q (V.int (if k=true then(1:Int) else(0:Int))) H) (Xv ta YK)) Xf (mb.bind λb=>.ok (if b=true then(1:Int) else(0:Int))):=⟨Kr x'.h⟩
end
section
variable [u':CT K Er S OO σ tt mb][x':CB K Er S OO σ ta r m][y':CW K Er S OO σ tb r m']
instance:CB K Er S OO σ (tIf tt ta tb) r (mb.bind λb=>if b=true then m else m'):=⟨OZ u'.h x'.h y'.h⟩
end
-- items
section
variable [MonoE r][j':CW K Er S OO σ tb Xf mi]
section
variable [x':CB K Er S OO σ ta (rV r) ml]
instance:CB K Er S OO σ (tOp (Ih K) ta tb) r (ml.bind λas=>mi.bind λi=>atR as i):=⟨S9 x'.h j'.h⟩
end
section
variable [x':CB K Er S OO σ ta (rPL r) ml]
instance:CB K Er S OO σ (tOp (Ex K) ta tb) r (ml.bind λas=>mi.bind λi=>atR as i):=⟨Zz x'.h j'.h⟩
end
section
variable [x':CL K Er S OO σ ta r ml]
instance:CS K Er S OO σ (tOp (Ih K) ta tb) r (ml.bind λas=>mi.bind λi=>atR as i):=⟨Te x'.h j'.h⟩
instance:CN K Er S OO σ (tOp WS ta tb) (oL (oF r)) (ml.bind λas=>mi.bind λn=>Og as n):=⟨S1 x'.h j'.h⟩
end
end
section
variable [x':CB K Er S OO σ ta (rV r) ml]
instance:CB K Er S OO σ (tCB (K6 K) (Xv ta YK)) Xf (ml.bind λas=>.ok (as.length:Int)):=⟨Sz x'.h⟩
end
section
variable [x':CB K Er S OO σ ta (rPL r) ml]
instance:CB K Er S OO σ (tCB (K6 K) (Xv ta YK)) Xf (ml.bind λas=>.ok (as.length:Int)):=⟨Hk x'.h⟩
end
section
variable {m:Rs (Int×Int)}[x':CB K Er S OO σ ta (rP2 Xf Xf) m]
instance:CB K Er S OO σ (tCB (K6 K) (Xv ta YK)) Xf ((m.bind λp=>.ok [p.fst,p.snd]).bind λas=>.ok (as.length:Int)):=⟨Hk (GR x'.h)⟩
end
section
variable {m:Rs (α×β)}[x':CB K Er S OO σ ta (rP2 r q) m]
instance:CB K Er S OO σ (tOp (Ex K) ta (tC (V.int (0:Int)))) r (m.bind λp=>.ok p.fst):=⟨UU x'.h⟩
instance:CB K Er S OO σ (tOp (Ex K) ta (tC (V.int (1:Int)))) q (m.bind λp=>.ok p.snd):=⟨Ir x'.h⟩
end
section
variable {m:Rs (α×β)}[y':CS K Er S OO σ ta (rP2 r q) m]
instance:CS K Er S OO σ (tOp (Ex K) ta (tC (V.int (0:Int)))) r (m.bind λp=>.ok p.fst):=⟨R6 y'.h⟩
instance:CS K Er S OO σ (tOp (Ex K) ta (tC (V.int (1:Int)))) q (m.bind λp=>.ok p.snd):=⟨PJ y'.h⟩
end
-- lists, tuples
section
variable [MonoE r]{t:TA}{ml':Rs (List α)}[x':CL K Er S OO σ ta r ml][y':CL K Er S OO σ tb r ml']{tl th:TO}{pl ph:Rs (Option Int)}[u':CP K Er S OO σ tl pl][w':CP K Er S OO σ th ph]
instance:CN K Er S OO σ (tOp Wk ta tb) (oL (oF r)) (ml.bind λas=>ml'.bind λbs=>CG as bs):=⟨Mo x'.h y'.h⟩
instance:CN K Er S OO σ (tSl (T2 K) ta tl th) (oL (oF r)) (ml.bind λas=>pl.bind λlo=>ph.bind λhi=>.ok (G8 as lo hi)):=⟨NI x'.h u'.h w'.h⟩
instance:CN K Er S OO σ (tCB (F8 K) (Xv ta YK)) (oL (oF r)) (ml.bind λas=>.ok as):=⟨RT x'.h⟩
end
section
variable [MonoE r]{tl th:TO}{pl ph:Rs (Option Int)}[z':CB K Er S OO σ ta (rPL r) ml][u':CP K Er S OO σ tl pl][w':CP K Er S OO σ th ph]
instance:CB K Er S OO σ (tSl (Wl K) ta tl th) (rPL r) (ml.bind λas=>pl.bind λlo=>ph.bind λhi=>chk (¬(HT.sIx as.length 0 lo=0/\HT.sIx as.length as.length hi=as.length)) (.ok (G8 as lo hi))):=⟨Yz z'.h u'.h w'.h⟩
end
instance [MonoE r]:CA K Er S OO σ YK r (.ok []):=⟨BD⟩
instance [MonoE r]{t:TA}[x':CV K Er S OO σ ta r m][y':CA K Er S OO σ t r ml]:CA K Er S OO σ (Xv ta t) r (m.bind λa=>ml.bind λas=>.ok (a::as)):=⟨XF x'.h y'.h⟩
instance (priority:=1100)[MonoE r]{t:TA}[x':CA K Er S OO σ t r ml]:CO K Er S OO σ (M4 t) (oL (oF r)) (ml.bind λas=>chk (as.length<=sizeLine) (.ok as)):=⟨UZ x'.h⟩
instance (priority:=1100)[MonoE r]{t:TA}[x':CA K Er S OO σ t r ml]:CW K Er S OO σ (M4 t) (rV r) (ml.bind λas=>chk (as.length<=sizeLine) (.ok as)):=⟨Ev.toB (UZ x'.h)⟩
section
variable {t:TA}[MonoE r][x':CS K Er S OO σ ta r m][y':CA K Er S OO σ t r ml]
instance:CN K Er S OO σ (M4 (Xv ta t)) (oL (oF r)) ((m.bind λa=>ml.bind λas=>.ok (a::as)).bind λas=>chk (as.length<=sizeLine) (.ok as)):=⟨UZ (XF x'.h y'.h)⟩
end
section
variable {m1:Rs β}[MonoE r][MonoE q][x':CS K Er S OO σ ta r m][y':CS K Er S OO σ tb q m1]
instance:CS K Er S OO σ (SO (Xv ta (Xv tb YK))) (rP2 r q) (m.bind λa=>m1.bind λb=>.ok (a,b)):=⟨Zq x'.h y'.h⟩
end
instance [MonoE r][x':CS K Er S OO σ ta (rV r) ml]:Cw K Er S OO σ (HE K ta) r ml:=⟨ZT x'.h⟩
instance [MonoE r][x':CS K Er S OO σ ta (rPL r) ml]:Cw K Er S OO σ (Wo K ta) r ml:=⟨E7 x'.h⟩
-- calls
section
variable {α1 α2 α3 α4:Type}{r1:Enc α1}{r2:Enc α2}{r3:Enc α3}{r4:Enc α4}{m1:Rs α1}{m2:Rs α2}{m3:Rs α3}{m4:Rs α4}{td:TE}{o:OE ρ}[FlatO o][MonoE r1][MonoE r2][MonoE r3]{f1:α1->Rs ρ}{f2:α1->α2->Rs ρ}{f3:α1->α2->α3->Rs ρ}{f4:α1->α2->α3->α4->Rs ρ}[x1:CW K Er S OO σ ta r1 m1][x2:CW K Er S OO σ tb r2 m2][x3:CW K Er S OO σ tc r3 m3][x4:CW K Er S OO σ td r4 m4]
instance:CN K Er S OO σ (Vn (sp1 r1 o f1 K) [] E0 (Xv ta YK)) o (m1.bind λa=>noE (f1 a)):=⟨Hb (o:=o) (f:=f1) x1.h⟩
instance:CN K Er S OO σ (Vn (sp2 r1 r2 o f2 K) [] E0 (Xv ta (Xv tb YK))) o (m1.bind λa=>m2.bind λb=>noE (f2 a b)):=⟨KB (o:=o) (f:=f2) x1.h x2.h⟩
instance:CN K Er S OO σ (Vn (sp3 r1 r2 r3 o f3 K) [] E0 (Xv ta (Xv tb (Xv tc YK)))) o (m1.bind λa=>m2.bind λb=>m3.bind λc=>noE (f3 a b c)):=⟨KE (o:=o) (f:=f3) x1.h x2.h x3.h⟩
instance:CN K Er S OO σ (Vn (sp4 r1 r2 r3 r4 o f4 K) [] E0 (Xv ta (Xv tb (Xv tc (Xv td YK))))) o (m1.bind λa=>m2.bind λb=>m3.bind λc=>m4.bind λd=>noE (f4 a b c d)):=⟨NE (o:=o) (f:=f4) x1.h x2.h x3.h x4.h⟩
end
end
section
variable {α β γ δ ρ ι κ κ2:Type}{K:W.Frag}{Er:Exc->Hp->Prop}{S:SC}{OO:List (List XZ)}{σ:St}{u t tb:TS}{Fd:Ends->β->Hp->Prop}[fd:FdOk Fd]{o:OE ρ}{wi:TI}{g:TG}{r:Enc α}
abbrev jn (OO:List (List XZ))(σ:St)(S:SC)(oo:List (List XZ)->ι->List (List XZ))(ss:St->ι->St)(nf:SC->γ->ι->SC):Jn γ ι:=⟨oo OO,ss σ,nf S⟩
variable (oo:List (List XZ)->ι->List (List XZ))(ss:St->ι->St)(nf:SC->γ->ι->SC)
theorem QO {m:Rs γ}{f:γ->Rs β}(hb:Sv Er S OO σ t (FNd (jn OO σ S oo ss nf)) m)(hr:∀g x,Sv Er (nf S g x) (oo OO x) (ss σ x) u Fd (f g)):Sv Er S OO σ (ZY t u) Fd (m.bind f):=P6 hb hr
theorem OI {c:TT}{mc:γ->Rs Bool}{body:γ->Rs γ}{f:γ->Rs β}(n:Nat)(x0:ι)(g0:γ)(h1:OO=oo OO x0)(h2:σ=ss σ x0)(h3:∀h,S.p h->(nf S g0 x0).p h)(hc:∀g x,EvT Er (nf S g x) (oo OO x) (ss σ x) c (mc g))(hb:∀g x,Sv Er (nf S g x) (oo OO x) (ss σ x) tb (FNd (jn OO σ S oo ss nf)) (body g))(hr:∀g x,Sv Er (nf S g x) (oo OO x) (ss σ x) u Fd (f g)):Sv Er S OO σ (ZY (IV c tb) u) Fd ((KR n g0 mc body).bind f):=Nb (jn OO σ S oo ss nf) n x0 g0 h1 h2 h3 hc hb hr
variable (K)
theorem CC {m:Rs (List α)}{body:γ->α->Rs γ}{f:γ->Rs β}(T:∀OO,Tgt K OO g r κ)(x0:ι)(g0:γ)(he:Walk K Er S OO σ wi r m)(h1:OO=oo OO x0)(h2:σ=ss σ x0)(h3:∀h,S.p h->(nf S g0 x0).p h)(hb:∀g x a v,Sv Er ((T (oo OO x)).sc a v (nf S g x)) (oo OO x) ((T (oo OO x)).set v (ss σ x)) tb (FNd (jn OO σ S oo ss nf)) (body g a))(hr:∀g x,Sv Er (nf S g x) (oo OO x) (ss σ x) u Fd (f g)):Sv Er S OO σ (ZY (PB wi g tb) u) Fd (m.bind λas=>(forN as g0 body).bind f):=TM (jn OO σ S oo ss nf) T x0 g0 he h1 h2 h3 hb hr
theorem Tw {m:Rs (List α)}{body:γ->α->Rs (Ctl ρ γ)}{f:γ->Rs ρ}(T:∀OO,Tgt K OO g r κ)(x0:ι)(g0:γ)(he:Walk K Er S OO σ wi r m)(h1:OO=oo OO x0)(h2:σ=ss σ x0)(h3:∀h,S.p h->(nf S g0 x0).p h)(hb:∀g x a v,Sv Er ((T (oo OO x)).sc a v (nf S g x)) (oo OO x) ((T (oo OO x)).set v (ss σ x)) tb (FCd K o (jn OO σ S oo ss nf)) (body g a))(hr:∀g x,Sv Er (nf S g x) (oo OO x) (ss σ x) u (FTd K o) (f g)):Sv Er S OO σ (ZY (PB wi g tb) u) (FTd K o) (m.bind λas=>(M5 as g0 body).bind (G1 f)):=Rw (jn OO σ S oo ss nf) T x0 g0 he h1 h2 h3 hb hr
theorem SY {ti:TE}[MonoE r]{mi:Rs Int}{body:γ->α->Rs γ}{f:γ->Rs β}{v:V}{as:List (List α)}{C:List XZ}{n k:Nat}[y:Sl σ n v][z:Fo S K v (oL (oL (oF r))) as C][q:Ow OO k C](hi:EvB K Er S OO σ ti Xf mi)(T:∀OO,Tgt K OO g r κ)(x0:ι)(g0:γ)(hC:∀x,(oo OO x)[k]?=some C)(h1:OO=oo OO x0)(h2:σ=ss σ x0)(h3:∀h,S.p h->(nf S g0 x0).p h)
  (hb:∀g x a v,Sv Er ((T (oo OO x)).sc a v (nf S g x)) (oo OO x) ((T (oo OO x)).set v (ss σ x)) tb (FNd (jn OO σ S oo ss nf)) (body g a))(hr:∀g x,Sv Er (nf S g x) (oo OO x) (ss σ x) u Fd (f g)):Sv Er S OO σ (ZY (PB (HE K (tOp (Ih K) (VI n) ti)) g tb) u) Fd (mi.bind λi=>(atR as i).bind λrow=>(forN row g0 body).bind f):=Ob n k y.h q.h z.h hi (jn OO σ S oo ss nf) T x0 g0 hC h1 h2 h3 hb hr
theorem RF {kf:Nat}{Cf:List XZ}{m:Rs (Ctl ρ γ)}{f:γ->Rs ρ}(hb:Sv Er S OO σ t (Pl K o kf Cf (jn OO σ S oo ss nf)) m)(hr:∀g x,Sv Er (nf S g x) (oo OO x) (ss σ x) u (HA K o kf Cf) (f g)):Sv Er S OO σ (ZY t u) (HA K o kf Cf) (m.bind (G1 f)):=LM hb hr
end
section
variable {α β γ δ ρ:Type}(K:W.Frag){Er:Exc->Hp->Prop}{S:SC}{OO OO':List (List XZ)}{σ:St}{u:TS}{Fd:Ends->β->Hp->Prop}[fd:FdOk Fd]{o:OE α}{r:Enc α}{te ta:TE}{i k:Nat}{m:Rs α}{f:α->Rs β}{v:V}{as:List α}{C:List XZ}
theorem Yp [MonoE r](he:EvS K Er S OO σ te r m)(hr:∀a v,Sv Er (S.add K r v a) OO (σ.set i (some v)) u Fd (f a)):Sv Er S OO σ (ZY (Ha te (YY i)) u) Fd (m.bind f):=U9 i he hr
theorem ZI [MonoO o](k:Nat)[y:Lk OO k](he:Ev K Er S OO OO σ te o m)(hr:∀a v C,Sv Er (S.addO K o v a C) (OO.set k C) (σ.set i (some v)) u Fd (f a)):Sv Er S OO σ (ZY (Ha te (YY i)) u) Fd (m.bind f):=Se i k he y.h hr
variable {K} in
theorem Um {a:α}[y:Sl σ i v][z:Fo S K v o a C][q:Ow OO k C]:Ev K Er S OO (OO.set k []) σ (VI i) o (.ok a):=Pp i k y.h q.h z.h
theorem Md {f:List α->Rs β}[MonoO o][y:Sl σ i v][z:Fo S K v (oL o) as C](he:Ev K Er S OO OO' σ ta o m)[q:Ow OO k C][q':Ow OO' k C](hr:∀zs C',Sv Er (S.addO K (oL o) v zs C') (OO'.set k C') σ u Fd (f zs)):Sv Er S OO σ (ZY (G5 (tBM K "list" FK (VI i) (Xv ta YK))) u) Fd (m.bind λa=>chk (as.length<sizeLine) (f (as++[a]))):=Tb i k y.h q.h q'.h z.h he λa C'=>hr _ C'
theorem Aw {m:Rs (List α)}{f:List α->Rs β}[MonoO o][y:Sl σ i v][z:Fo S K v (oL o) as C](he:Ev K Er S OO OO' σ ta (oL o) m)[q:Ow OO k C][q':Ow OO' k C](hr:∀zs C',Sv Er (S.addO K (oL o) v zs C') (OO'.set k C') σ u Fd (f zs)):Sv Er S OO σ (ZY (G5 (tBM K "list" BX (VI i) (Xv ta YK))) u) Fd (m.bind λbs=>chk (as.length+bs.length<=sizeLine) (f (as++bs))):=S0 i k y.h q.h q'.h z.h he λa C'=>hr _ C'
theorem Ay {ti:TE}{mi:Rs Int}{x:Nat}[MonoE r]{f:α->List α->Rs β}[y:Sl σ i v][z:Fo S K v (oL (oF r)) as C][q:Ow OO k C](hi:EvB K Er S OO σ ti Xf mi)(hr:∀a bs y C',Sv Er ((S.add K r y a).addO K (oL (oF r)) v bs C') (OO.set k C') (σ.set x (some y)) u Fd (f a bs)):Sv Er S OO σ (ZY (Ha (tBM K "list" Hj (VI i) (Xv ti YK)) (YY x)) u) Fd (mi.bind λj=>(NF as j).bind λp=>f p.1 p.2):=TF x i k y.h q.h z.h hi λa bs y C'=>hr a bs y C'
theorem VW {ti:TE}{mi:Rs Int}{f:List α->Rs β}[MonoO o][y:Sl σ i v][z:Fo S K v (oL o) as C][q:Ow OO k C](he:Ev K Er S OO OO σ ta o m)(hi:∀D,EvB K Er S (D::OO) σ ti Xf mi)(hr:∀bs C',Sv Er (S.addO K (oL o) v bs C') (OO.set k C') σ u Fd (f bs)):Sv Er S OO σ (ZY (Ha ta (Wf (VI i) ti NV)) u) Fd (m.bind λa=>mi.bind λj=>(Ui as j a).bind f):=No i k y.h q.h z.h he hi hr
theorem Mj {tv ty:TE}[MonoE r]{mk:Rs Int}{f:List (Int×α)->Rs β}{d:List (Int×α)}[y:Sl σ i v][z:Fo S K v (oD r) d C][q:Ow OO k C](hv:EvS K Er S OO σ tv r m)(hy:EvB K Er S OO σ ty Xf mk)(hr:∀d' C',Sv Er (S.addO K (oD r) v d' C') (OO.set k C') σ u Fd (f d')):Sv Er S OO σ (ZY (R4 (VI i) ty tv) u) Fd (m.bind λa=>mk.bind λn=>chk (d.length<sizeLine) (f (G2 d n a))):=Rp i k y.h q.h z.h hv hy hr
variable {γ' ι:Type}{J:Jn γ ι}
theorem YU {J:Jn γ ι}(x:ι)(g:γ)(h1:OO=J.oo x)(h2:σ=J.ss x)[h3:Su S (J.sc g x)]:Sv Er S OO σ F3 (FNd J) (.ok g):=Tz x g h1 h2 h3.h
end
theorem V0 {N:List Str}{vs:List V}{j:Nat}(h:N.length=j+vs.length):Ge N vs=vs.map some++List.replicate j none:=by
 unfold Ge
 rw[show N.length-vs.length=j by omega]
section
variable {ρ:Type}{P:Program}{w:World}{K:W.Frag}{mg:Str->Option Value}{base:Heap}{x:Str}{st:Stmt}{N ps:List Str}{k:Nat}{o:OE ρ}[MonoO o]
abbrev Rm (k:Nat)(x:Str)(st:Stmt)(s:Shared)(f:Addr)(am:Value)(A:Around):Prop:=Room k (A.deeper (envOfC x (Xg st) s.heap.objs.size f am))
abbrev Au (x:Str)(st:Stmt)(s:Shared)(f:Addr)(am:Value)(A:Around):Nat:=(A.deeper (envOfC x (Xg st) s.heap.objs.size f am)).units
theorem go1 {α0:Type}{r0:Enc α0}[MonoE r0]{m:α0->Rs ρ}(D:Def K mg x st ps)(S:FnScope N ps (Xg st))(j n:Nat)(hN:N.length=j+1)(hp:ps.length=1)
  (hb:∀{f:Addr}{am:Value}{A:Around}{outer:List Env}{s:Shared}{H:Hp}{E:XK},Rm k x st s f am A->Au x st s f am A+8<cLine->Au x st s f am A+1<cLine->∃t,PSs (Ia CX0 P w K mg base N x (Xg st) f am A outer s H E).nox (Yj st) t/\∀v0 a0,Sv (λ_ _=>False) (SC.add SC.nil K r0 v0 a0) (List.replicate n []) (some v0::List.replicate j none) t (FTd K o) (m a0)):Fn P w K mg base (k+1) x ps (sp1 r0 o m K):=by
 refine Kl D S (λvs H Q E h=>?_) (λf am A outer s H vs Q E hr h=>?_)
 ·obtain⟨v0,a0,b,rfl,_⟩:=h;exact hp.symm
 obtain⟨v0,a0,b,rfl,h0,hm,q⟩:=h
 obtain⟨t,hx,hy⟩:=hb hr (hu8 hr) (UO hr)
 refine⟨t,hx,?_⟩
 rw[V0 hN]
 exact B3 (S:=(SC.add SC.nil K r0 v0 a0)) (σ:=some v0::List.replicate j none) n (hy v0 a0) (SC.i SC.t h0) hm q rfl
theorem go2 {α0 α1:Type}{r0:Enc α0}[MonoE r0]{r1:Enc α1}[MonoE r1]{m:α0->α1->Rs ρ}(D:Def K mg x st ps)(S:FnScope N ps (Xg st))(j n:Nat)(hN:N.length=j+2)(hp:ps.length=2)
  (hb:∀{f:Addr}{am:Value}{A:Around}{outer:List Env}{s:Shared}{H:Hp}{E:XK},Rm k x st s f am A->Au x st s f am A+8<cLine->Au x st s f am A+1<cLine->∃t,PSs (Ia CX0 P w K mg base N x (Xg st) f am A outer s H E).nox (Yj st) t/\∀v0 v1 a0 a1,Sv (λ_ _=>False) (SC.add (SC.add SC.nil K r0 v0 a0) K r1 v1 a1) (List.replicate n []) (some v0::some v1::List.replicate j none) t (FTd K o) (m a0 a1)):Fn P w K mg base (k+1) x ps (sp2 r0 r1 o m K):=by
 refine Kl D S (λvs H Q E h=>?_) (λf am A outer s H vs Q E hr h=>?_)
 ·obtain⟨v0,v1,a0,a1,b,rfl,_⟩:=h;exact hp.symm
 obtain⟨v0,v1,a0,a1,b,rfl,h0,h1,hm,q⟩:=h
 obtain⟨t,hx,hy⟩:=hb hr (hu8 hr) (UO hr)
 refine⟨t,hx,?_⟩
 rw[V0 hN]
 exact B3 (S:=(SC.add (SC.add SC.nil K r0 v0 a0) K r1 v1 a1)) (σ:=some v0::some v1::List.replicate j none) n (hy v0 v1 a0 a1) (SC.i (SC.i SC.t h0) h1) hm q rfl
theorem go3 {α0 α1 α2:Type}{r0:Enc α0}[MonoE r0]{r1:Enc α1}[MonoE r1]{r2:Enc α2}[MonoE r2]{m:α0->α1->α2->Rs ρ}(D:Def K mg x st ps)(S:FnScope N ps (Xg st))(j n:Nat)(hN:N.length=j+3)(hp:ps.length=3)
  (hb:∀{f:Addr}{am:Value}{A:Around}{outer:List Env}{s:Shared}{H:Hp}{E:XK},Rm k x st s f am A->Au x st s f am A+8<cLine->Au x st s f am A+1<cLine->∃t,PSs (Ia CX0 P w K mg base N x (Xg st) f am A outer s H E).nox (Yj st) t/\∀v0 v1 v2 a0 a1 a2,Sv (λ_ _=>False) (SC.add (SC.add (SC.add SC.nil K r0 v0 a0) K r1 v1 a1) K r2 v2 a2) (List.replicate n []) (some v0::some v1::some v2::List.replicate j none) t (FTd K o) (m a0 a1 a2)):Fn P w K mg base (k+1) x ps (sp3 r0 r1 r2 o m K):=by
 refine Kl D S (λvs H Q E h=>?_) (λf am A outer s H vs Q E hr h=>?_)
 ·obtain⟨v0,v1,v2,a0,a1,a2,b,rfl,_⟩:=h;exact hp.symm
 obtain⟨v0,v1,v2,a0,a1,a2,b,rfl,h0,h1,h2,hm,q⟩:=h
 obtain⟨t,hx,hy⟩:=hb hr (hu8 hr) (UO hr)
 refine⟨t,hx,?_⟩
 rw[V0 hN]
 exact B3 (S:=(SC.add (SC.add (SC.add SC.nil K r0 v0 a0) K r1 v1 a1) K r2 v2 a2)) (σ:=some v0::some v1::some v2::List.replicate j none) n (hy v0 v1 v2 a0 a1 a2) (SC.i (SC.i (SC.i SC.t h0) h1) h2) hm q rfl
theorem go4 {α0 α1 α2 α3:Type}{r0:Enc α0}[MonoE r0]{r1:Enc α1}[MonoE r1]{r2:Enc α2}[MonoE r2]{r3:Enc α3}[MonoE r3]{m:α0->α1->α2->α3->Rs ρ}(D:Def K mg x st ps)(S:FnScope N ps (Xg st))(j n:Nat)(hN:N.length=j+4)(hp:ps.length=4)
  (hb:∀{f:Addr}{am:Value}{A:Around}{outer:List Env}{s:Shared}{H:Hp}{E:XK},Rm k x st s f am A->Au x st s f am A+8<cLine->Au x st s f am A+1<cLine->∃t,PSs (Ia CX0 P w K mg base N x (Xg st) f am A outer s H E).nox (Yj st) t/\∀v0 v1 v2 v3 a0 a1 a2 a3,Sv (λ_ _=>False) (SC.add (SC.add (SC.add (SC.add SC.nil K r0 v0 a0) K r1 v1 a1) K r2 v2 a2) K r3 v3 a3) (List.replicate n []) (some v0::some v1::some v2::some v3::List.replicate j none) t (FTd K o) (m a0 a1 a2 a3)):Fn P w K mg base (k+1) x ps (sp4 r0 r1 r2 r3 o m K):=by
 refine Kl D S (λvs H Q E h=>?_) (λf am A outer s H vs Q E hr h=>?_)
 ·obtain⟨v0,v1,v2,v3,a0,a1,a2,a3,b,rfl,_⟩:=h;exact hp.symm
 obtain⟨v0,v1,v2,v3,a0,a1,a2,a3,b,rfl,h0,h1,h2,h3,hm,q⟩:=h
 obtain⟨t,hx,hy⟩:=hb hr (hu8 hr) (UO hr)
 refine⟨t,hx,?_⟩
 rw[V0 hN]
 exact B3 (S:=(SC.add (SC.add (SC.add (SC.add SC.nil K r0 v0 a0) K r1 v1 a1) K r2 v2 a2) K r3 v3 a3)) (σ:=some v0::some v1::some v2::some v3::List.replicate j none) n (hy v0 v1 v2 v3 a0 a1 a2 a3) (SC.i (SC.i (SC.i (SC.i SC.t h0) h1) h2) h3) hm q rfl
theorem goL {f:Addr}{fd:FuncData}{α0:Type}{r0:Enc α0}[MonoE r0]{m:α0->Rs ρ}(F:Fun K x x st f fd)(S:FnScope N ps (Xg st))(j n:Nat)(hN:N.length=j+1)(hp:ps.length=1)
  (hb:∀{am:Value}{A:Around}{outer:List Env}{s:Shared}{H:Hp}{E:XK},Rm k x st s f am A->Au x st s f am A+8<cLine->Au x st s f am A+1<cLine->∃t,PSs (Ia CX0 P w K mg base N x (Xg st) f am A outer s H E).nox (Yj st) t/\∀v0 a0,Sv (λ_ _=>False) (SC.add SC.nil K r0 v0 a0) (List.replicate n []) (some v0::List.replicate j none) t (FTd K o) (m a0)):FnOk P w K mg base CX0 (k+1) f fd ps (sp1 r0 o m K):=by
 refine F.ok S (λvs H Q E h=>?_) (λam A outer s H vs Q E hr h=>?_)
 ·obtain⟨v0,a0,b,rfl,_⟩:=h;exact hp.symm
 obtain⟨v0,a0,b,rfl,h0,hm,q⟩:=h
 obtain⟨t,hx,hy⟩:=hb hr (hu8 hr) (UO hr)
 refine⟨t,hx,?_⟩
 rw[V0 hN]
 exact B3 (S:=SC.add SC.nil K r0 v0 a0) (σ:=some v0::List.replicate j none) n (hy v0 a0) (SC.i SC.t h0) hm q rfl
end
abbrev Pk (p:Program->World->W.Frag->(Str->Option Value)->Heap->Prop):Prop:=∀ {P w K mg base},p P w K mg base
section
variable {X:Cx}{a b:Expr}{pos:Pos}{ta tb:TE}(K:W.Frag)(ha:PE X a ta)(hb:PE X b tb)(h:X.K=K:=by rfl)(hs:L1 b:=by exact λ_ _=>rfl)
include ha hb h hs
theorem Xk:PE X (.Subscript a b pos) (tOp (Ex K) ta tb):=X8 (XX K h) ha hb hs
theorem XA:PE X (.Subscript a b pos) (tOp (Ih K) ta tb):=X8 (X1 K h) ha hb hs
end
end L2
set_option synthInstance.maxSize 2000
set_option synthInstance.maxHeartbeats 400000
namespace My
open PySem L2
def top (i:Nat):Stmt:=PySem.Challenge.pw_plait_k65_undone.main.body.getD i (.Pass ⟨0,0,0,0⟩)
abbrev Qy:Stmt:=top 6
abbrev Gj:Stmt:=top 7
abbrev Kw:Stmt:=top 9
abbrev QA:Stmt:=top 10
abbrev Bw:Stmt:=top 12
abbrev Gv:Stmt:=top 13
abbrev K4:Stmt:=top 14
abbrev Gf:Stmt:=top 15
abbrev V8:Stmt:=top 16
abbrev Q8:Stmt:=top 17
abbrev Qa:Stmt:=top 18
abbrev GH:Stmt:=top 19
abbrev J8:Stmt:=top 20
abbrev QF:Stmt:=top 21
abbrev Vs:Stmt:=top 22
abbrev JK:Stmt:=top 23
abbrev Uk:Stmt:=top 24
abbrev Lj:Stmt:=top 25
abbrev ZD:Stmt:=top 26
abbrev QG:Stmt:=top 27
abbrev Zr:Stmt:=top 28
abbrev Zd:Stmt:=top 29
abbrev Dh:Stmt:=top 30
abbrev Lx:Stmt:=top 31
abbrev F1:Stmt:=top 32
abbrev Zj:Stmt:=top 33
abbrev KH:Stmt:=top 34
abbrev DS:Stmt:=top 35
abbrev J7:Stmt:=top 36
abbrev Jb:Stmt:=top 37
abbrev Uq:Stmt:=top 38
abbrev L7:Stmt:=top 40
abbrev P8:Stmt:=top 41
abbrev RP:Stmt:=top 42
abbrev F6:Stmt:=top 43
abbrev Zi:Stmt:=top 44
abbrev FM:Stmt:=top 45
abbrev BV:Stmt:=top 46
abbrev Ul:Stmt:=top 47
abbrev JR:Stmt:=top 48
abbrev DQ:Stmt:=top 49
abbrev KL:Stmt:=top 50
abbrev Wh:Stmt:=top 51
abbrev R1:Stmt:=top 52
abbrev LD:Stmt:=top 53
abbrev Nx:Stmt:=top 54
abbrev RK:Stmt:=top 55
abbrev Lw:Stmt:=top 56
abbrev Hc:Stmt:=top 57
abbrev VC:Stmt:=top 58
abbrev L6:Stmt:=top 59
abbrev KQ:Stmt:=top 60
abbrev Qi:Stmt:=top 61
abbrev Vp:Stmt:=top 62
abbrev DL:Stmt:=top 63
def Mm:Scope:={kind:=PySem.ScopeKind.function,names:=[(PySem.Str.ofString ".0",PySem.NameKind.local),(PySem.Str.ofString "_law_walk",PySem.NameKind.local),(PySem.Str.ofString "_law_far",PySem.NameKind.free)],isGenerator:=false,isCoroutine:=false,more:=[]:PySem.Scope}
structure Blt (mg:Str->Option Value):Prop where
 b_abs:mg "abs" =none
 b_all:mg "all" =none
 b_bool:mg "bool" =none
 b_dict:mg "dict" =none
 b_int:mg "int" =none
 b_isinstance:mg "isinstance" =none
 b_len:mg "len" =none
 b_list:mg "list" =none
 b_max:mg "max" =none
 b_min:mg "min" =none
 b_range:mg "range" =none
 b_set:mg "set" =none
 b_sorted:mg "sorted" =none
 b_str:mg "str" =none
 b_tuple:mg "tuple" =none
 b_zip:mg "zip" =none
 c_MOST_CROSSINGS:∃u,mg "MOST_CROSSINGS" =some u/\Ya (.int 40) u
theorem Bh:FnScope ["drawing"] ["drawing"] (Xg Qy):=⟨rfl,rfl,rfl,by decide+kernel,rfl,by decide+kernel,by decide+kernel⟩
section
variable (P:Program)(w:World)(K:W.Frag)(mg:Str->Option Value)(base:Heap)
abbrev Vt (m:((List (List Int))×(List (Int×Int)))->Rs (List Int)):Prop:=Fn P w K mg base 1 "crossings" ["drawing"] (sp1 (rP2 (rV (rV Xf)) (rV (rP2 Xf Xf))) (oL (oF Xf)) m K)
def Vc:{m // Pk λP w K mg base=>Def K mg "crossings" Qy ["drawing"]->Blt mg->Vt P w K mg base m}:=⟨_, @λP w K mg base D Z=>go1 D Bh 0 0 rfl rfl λhr hu aA=>⟨_,(Xb (Xp (Zs (sc:=(Xg Qy)) (N0:=["drawing"]) (tns:=["entry"]) (caps:=[]) rfl (XT (K:=K) rfl (Xk K (pv 0) Xc)) (YB (by decide)) (λcl C s H ex E=>⟨Xw (i:=0) (show List.Nodup (["entry"]:List Str) by decide+kernel) rfl (Or.inl rfl),Y3,(Xk K (pv 0) Xc)⟩)))
  Xe),λae aq=>(Xs (Y5 (λ_=>tg1 0) qw (λC2 a3 v4=>qM)))⟩⟩
def Va:=Vc.1
theorem Fe:FnScope ["drawing","crossing","entry"] ["drawing","crossing"] (Xg Gj):=⟨rfl,rfl,rfl,by decide+kernel,rfl,by decide+kernel,by decide+kernel⟩
abbrev VQ (m:((List (List Int))×(List (Int×Int)))->Int->Rs Int):Prop:=Fn P w K mg base 1 "sign_of" ["drawing","crossing"] (sp2 (rP2 (rV (rV Xf)) (rV (rP2 Xf Xf))) Xf (oF Xf) m K)
def KP:{m // Pk λP w K mg base=>Def K mg "sign_of" Gj ["drawing","crossing"]->Blt mg->VQ P w K mg base m}:=⟨_, @λP w K mg base D Z=>go2 D Fe 1 0 rfl rfl λhr hu aA=>⟨_,(Xb (YX PassesOwn.never rfl (XT (K:=K) rfl (Xk K (pv 0) Xc)) (Xw (i:=2) Fe.nd rfl (Or.inl rfl))
   (Xb (XG (Xl XY (Xk K (pv 2) Xc) (pv 1) (Xq _))
    (Xb (Xp (Xk K (pv 2) Xc))
    Xe)
    Xe)
   Xe))
  (Xb Ho
  Xe)),λae ag aq au=>(Tw K (λO (x2:Option V)=>[]) (λs x2=>[some ae,some ag,x2]) (λS (g3:Unit) x2=>S) (λ_=>tg1 2) ((none)) () qw rfl rfl (λ_ s=>s) (λg4 x5 a6 v7=>(Ey (qt K) (Xs qM) (O8 (YU ((some v7)) () rfl rfl)))) λeT bu=>SX)⟩⟩
def Yv:=KP.1
theorem J6:FnScope ["passages","by","start"] ["passages","by"] (Xg QA):=⟨rfl,rfl,rfl,by decide+kernel,rfl,by decide+kernel,by decide+kernel⟩
abbrev QH (m:(List Int)->Int->Rs (List Int)):Prop:=Fn P w K mg base 1 "begun_later" ["passages","by"] (sp2 (rV Xf) Xf (oL (oF Xf)) m K)
def Qx:{m // Pk λP w K mg base=>Def K mg "begun_later" QA ["passages","by"]->Blt mg->QH P w K mg base m}:=⟨_, @λP w K mg base D Z=>go2 D J6 1 0 rfl rfl λhr hu aA=>⟨_,(Xb (XG (Xl XY (Xo (Xj K rfl) rfl Z.b_len boot_len (Xa (pv 0) Xd)) Xc (Xq _))
   (Xb (Xp (XL Xd))
   Xe)
   Xe)
  (Xb (Xm (i:=2) J6.nd rfl (Or.inl rfl) (Xn Yo (pv 1) (Xo (Xj K rfl) rfl Z.b_len boot_len (Xa (pv 0) Xd))))
  (Xb (Xp (Xn Z2 (XI (YC K rfl) (pv 0) (XM (pv 2)) Yb) (XI (YC K rfl) (pv 0) Yb (XM (pv 2)))))
  Xe))),λae ag aq au=>(XN (qt K) (Xs (G3 (o:=(oF Xf)))) (Yp K qS λa5 v6=>(Xs qN)))⟩⟩
def Qu:=Qx.1
theorem Cm:FnScope ["drawing","walk","by","walks"] ["drawing","walk","by"] (Xg Kw):=⟨rfl,rfl,rfl,by decide+kernel,rfl,by decide+kernel,by decide+kernel⟩
abbrev DJ (m:((List (List Int))×(List (Int×Int)))->Int->Int->Rs ((List (List Int))×(List (Int×Int)))):Prop:=Fn P w K mg base 2 "turned" ["drawing","walk","by"] (sp3 (rP2 (rV (rV Xf)) (rV (rP2 Xf Xf))) Xf Xf (oT2 (oL (oL (oF Xf))) (oL (oF (rP2 Xf Xf)))) m K)
def FN:{m // Pk λP w K mg base=>Def K mg "turned" Kw ["drawing","walk","by"]->QH P w K mg base Qu->Blt mg->DJ P w K mg base m}:=⟨_, @λP w K mg base D aM Z=>go3 D Cm 1 1 rfl rfl λhr hu aA=>⟨_,(Xb (Q6 3 (Xg Kw) ["drawing","walk","by","walks"] ["passages"] [] rfl Cm.nd rfl rfl (XT (K:=K) rfl (Xk K (pv 0) Xc)) (YB (by decide)) (λcl C s H ex E=>⟨Xw (i:=0) (show List.Nodup (["passages"]:List Str) by decide+kernel) rfl (Or.inl rfl),Y3,(XJ (XQ K rfl) rfl Z.b_list PyProof.Rows.boot_list (Xa (pv 0) Xd))⟩))
  (Xb (Zf (Xt aM hr (by decide) (Xa (XA K (pv 3) (pv 1)) (Xa (pv 2) Xd))) (Qr (pv 3) (pv 1) YH))
  (Xb (Xp (XE (Xa (pv 3) (Xa (XJ (XQ K rfl) rfl Z.b_list PyProof.Rows.boot_list (Xa (Xk K (pv 0) Xc) Xd)) Xd))))
  Xe))),λae ag aS aq au b6=>(ZI K (o:=(oL (oL (oF Xf)))) 0 (Y5 (λ_=>tg1 0) qw (λC5 a6 v7=>qN)) λa1 v2 C3=>(VW K qN (λ_=>qB) λa17 C18=>(Xs (Zo Um λ_=>qN))))⟩⟩
def Df:=FN.1
theorem Hr:FnScope ["drawing","walk"] ["drawing","walk"] (Xg Gv):=⟨rfl,rfl,rfl,by decide+kernel,rfl,by decide+kernel,by decide+kernel⟩
abbrev Jq (m:((List (List Int))×(List (Int×Int)))->Int->Rs Bool):Prop:=Fn P w K mg base 1 "is_walk" ["drawing","walk"] (sp2 (rP2 (rV (rV Xf)) (rV (rP2 Xf Xf))) Xf (oF XB) m K)
def K8:{m // Pk λP w K mg base=>Def K mg "is_walk" Gv ["drawing","walk"]->Blt mg->Jq P w K mg base m}:=⟨_, @λP w K mg base D Z=>go2 D Hr 0 0 rfl rfl λhr hu aA=>⟨_,(Xb (Xp (EA HS Kk Xc (pv 1) (Xo (Xj K rfl) rfl Z.b_len boot_len (Xa (Xk K (pv 0) Xc) Xd))))
  Xe),λae ag aq au=>(Xs (EvS.ev (EvB.sh (V4 qB qB qB))))⟩⟩
def Qj:=K8.1
theorem Fr:FnScope ["drawing","walk","place","passages"] ["drawing","walk","place"] (Xg Gf):=⟨rfl,rfl,rfl,by decide+kernel,rfl,by decide+kernel,by decide+kernel⟩
abbrev ZP (m:((List (List Int))×(List (Int×Int)))->Int->Int->Rs (Option (Int×Int))):Prop:=Fn P w K mg base 2 "pair_at" ["drawing","walk","place"] (sp3 (rP2 (rV (rV Xf)) (rV (rP2 Xf Xf))) Xf Xf (oF (Gm (rP2 Xf Xf))) m K)
def GX:{m // Pk λP w K mg base=>Def K mg "pair_at" Gf ["drawing","walk","place"]->Jq P w K mg base Qj->Blt mg->ZP P w K mg base m}:=⟨_, @λP w K mg base D az Z=>go3 D Fr 1 0 rfl rfl λhr hu aA=>⟨_,(Xb (XG (PW.pt (Ve (Q2 (Zg (Xt az hr (by decide) (Xa (pv 0) (Xa (pv 1) Xd))))) (Q0 (Q2 (EX HS Kk Xc (pv 2) (Xn ZX (Xo (Xj K rfl) rfl Z.b_len boot_len (Xa (XA K (Xk K (pv 0) Xc) (pv 1)) Xd)) Xc))))))
   (Xb (Xp K7)
   Xe)
   Xe)
  (Xb (Xm (i:=3) Fr.nd rfl (Or.inl rfl) (XA K (Xk K (pv 0) Xc) (pv 1)))
  (Xb (Xp (XE (Xa (XA K (pv 3) (pv 2)) (Xa (XA K (pv 3) (Xn XC (pv 2) Xc)) Xd))))
  Xe))),λae ag aS aq au b6=>(XN (Z1 (qt K) (F9 (XD (K:=K) (V4 qB qB qB)))) (Xs RM) (Yp K qS λa16 v17=>(Xs (M8 Wv qM))))⟩⟩
def Yq:=GX.1
theorem BA:FnScope ["pair","passage"] ["pair","passage"] (Xg Uk):=⟨rfl,rfl,rfl,by decide+kernel,rfl,by decide+kernel,by decide+kernel⟩
abbrev UI (m:(Int×Int)->Int->Rs Int):Prop:=Fn P w K mg base 1 "order_of" ["pair","passage"] (sp2 (rP2 Xf Xf) Xf (oF Xf) m K)
def UH:{m // Pk λP w K mg base=>Def K mg "order_of" Uk ["pair","passage"]->Blt mg->UI P w K mg base m}:=⟨_, @λP w K mg base D Z=>go2 D BA 0 0 rfl rfl λhr hu aA=>⟨_,(Xb (Xp (Z7 (Xl XY (Xk K (pv 0) Xc) (pv 1) (Xq _)) Xc (Yu X0 Xc)))
  Xe),λae ag aq au=>(Xs (Nh (qt K) qM qM))⟩⟩
def Uz:=UH.1
theorem X4:FnScope ["drawing","move","top","mid","low","a","c","b","p","q","r"] ["drawing","move"] (Xg JK):=⟨rfl,rfl,rfl,by decide+kernel,rfl,by decide+kernel,by decide+kernel⟩
abbrev Ji (m:((List (List Int))×(List (Int×Int)))->(List Mx)->Rs Bool):Prop:=Fn P w K mg base 3 "pass_legal" ["drawing","move"] (sp2 (rP2 (rV (rV Xf)) (rV (rP2 Xf Xf))) (rPL rMx) (oF XB) m K)
def Jl:{m // Pk λP w K mg base=>Def K mg "pass_legal" JK ["drawing","move"]->ZP P w K mg base Yq->UI P w K mg base Uz->VQ P w K mg base Yv->Blt mg->Ji P w K mg base m}:=⟨_, @λP w K mg base D ad aI af Z=>go2 D X4 9 0 rfl rfl λhr hu aA=>⟨_,(Xb (Xm (i:=2) X4.nd rfl (Or.inl rfl) (Xt ad hr (by decide) (Xa (pv 0) (Xa (Xk K (pv 1) Xc) (Xa (Xk K (pv 1) Xc) Xd)))))
  (Xb (Xm (i:=3) X4.nd rfl (Or.inl rfl) (Xt ad hr (by decide) (Xa (pv 0) (Xa (Xk K (pv 1) Xc) (Xa (Xk K (pv 1) Xc) Xd)))))
  (Xb (Xm (i:=4) X4.nd rfl (Or.inl rfl) (Xt ad hr (by decide) (Xa (pv 0) (Xa (Xk K (pv 1) Xc) (Xa (Xk K (pv 1) Xc) Xd)))))
  (Xb (XG (PW.pt (Ve (Xl Mq (pv 2) K7 (Xq _)) (Ve (Xl Mq (pv 3) K7 (Xq _)) (Q0 (Xl Mq (pv 4) K7 (Xq _))))))
   (Xb (Xp Zc)
   Xe)
   Xe)
  (Xb (Xm (i:=5) X4.nd rfl (Or.inl rfl) (Yu X0 (Xo (JI K rfl rfl) rfl Z.b_min PyProof.Rows.boot_min (Xa (pv 3) Xd))))
  (Xb (Xm (i:=6) X4.nd rfl (Or.inl rfl) (Xo (Ue K rfl rfl) rfl Z.b_max PyProof.Rows.boot_max (Xa (pv 3) Xd)))
  (Xb (XG (PW.pt (Ve (Xl Kk (Xo (JI K rfl rfl) rfl Z.b_min PyProof.Rows.boot_min (Xa (pv 2) Xd)) Xc (Xq _)) (Ve (Xl Q7 (pv 5) (pv 2) rfl) (Ve (Xl Kk (pv 6) Xc (Xq _)) (Q0 (Xl Gp (pv 6) (pv 2) rfl))))))
   (Xb (Xp Zc)
   Xe)
   Xe)
  (Xb (Xm (i:=7) X4.nd rfl (Or.inl rfl) (Z7 (Xl XY (Xk K (pv 2) Xc) (pv 5) (Xq _)) (Xk K (pv 2) Xc) (Xk K (pv 2) Xc)))
  (Xb (XG (Xl (J9 K rfl (Ib eq_int) (Km (by decide) hu)) (Xo (U7 K rfl) rfl Z.b_sorted PyProof.Rows.boot_sorted (Xa (pv 4) Xd)) (Xo (Zp K rfl) rfl Z.b_sorted PyProof.Rows.boot_sorted (Xa (XL (Xa (Yu X0 (pv 7)) (Xa (Yu X0 (pv 6)) Xd))) Xd X9)) (Xq _))
   (Xb (Xp Zc)
   Xe)
   Xe)
  (Xb (Xm (i:=8) X4.nd rfl (Or.inl rfl) (Xt aI hr (by decide) (Xa (pv 2) (Xa (pv 5) Xd))))
  (Xb (Xm (i:=9) X4.nd rfl (Or.inl rfl) (Xt aI hr (by decide) (Xa (pv 3) (Xa (Yu X0 (pv 5)) Xd))))
  (Xb (Xm (i:=10) X4.nd rfl (Or.inl rfl) (Xt aI hr (by decide) (Xa (pv 4) (Xa (Yu X0 (pv 7)) Xd))))
  (Xb (XG (Xl FW (Xn X6 (pv 8) (Xt af hr (by decide) (Xa (pv 0) (Xa (pv 7) Xd)))) (Xn X6 (pv 9) (Xt af hr (by decide) (Xa (pv 0) (Xa (pv 6) Xd)))) (Xq _))
   (Xb (Xp Zc)
   Xe)
   Xe)
  (Xb (Xp (X5 XY (Xn X6 (pv 9) (Xt af hr (by decide) (Xa (pv 0) (Xa (pv 5) Xd)))) (Xn X6 (pv 10) (Xt af hr (by decide) (Xa (pv 0) (Xa (pv 7) Xd)))) (Xq _)))
  Xe)))))))))))))),λae ag aq au=>(Yp K qS λa1 v2=>(Yp K qS λa11 v12=>(Yp K qS λa21 v22=>(XN (Z1 (XD (K:=K) (En (tb:=tC .non) qB)) (Z1 (XD (K:=K) (En (tb:=tC .non) qB)) (XD (K:=K) (En (tb:=tC .non) qB)))) (Xs qM) (BJ (K:=K) (r:=(rP2 Xf Xf)) (λ_ s=>s.l.l.r) λa35=>(BJ (K:=K) (r:=(rP2 Xf Xf)) (λ_ s=>s.l.l.r) λa36=>(BJ (K:=K) (r:=(rP2 Xf Xf)) (λ_ s=>s.l.l.r) λa37=>(Yp K (r:=Xf) (EvB.sh (UQ (Ju qb))) λa38 v39=>(Yp K (r:=Xf) (EvB.sh (KD qb)) λa42 v43=>(XN (Z1 (XD (K:=K) (Fy (Ju qb) qB)) (Z1 (XD (K:=K) (Da qB qb)) (Z1 (qt K) (XD (K:=K) (K9 qB qb))))) (Xs qM) (Yp K qS λa57 v58=>(XN (XD (K:=K) (GJ (Ev.toB (FD qb)) (Ev.toB (KJ ql)))) (Xs qM) (Yp K qS λa79 v80=>(Yp K qS λa84 v85=>(Yp K qS λa90 v91=>(XN (qt K) (Xs qM) (Xs qM)))))))))))))))))⟩⟩
def Z6:=Jl.1
theorem HP:FnScope ["drawing","walk","place","more"] ["drawing","walk","place","more"] (Xg K4):=⟨rfl,rfl,rfl,by decide+kernel,rfl,by decide+kernel,by decide+kernel⟩
abbrev V2 (m:((List (List Int))×(List (Int×Int)))->Int->Int->Int->Rs Bool):Prop:=Fn P w K mg base 2 "can_lay" ["drawing","walk","place","more"] (sp4 (rP2 (rV (rV Xf)) (rV (rP2 Xf Xf))) Xf Xf Xf (oF XB) m K)
def GW:{m // Pk λP w K mg base=>Def K mg "can_lay" K4 ["drawing","walk","place","more"]->Jq P w K mg base Qj->Blt mg->V2 P w K mg base m}:=⟨_, @λP w K mg base D az Z=>go4 D HP 0 0 rfl rfl λhr hu aA=>⟨_,(Xb (Xp (Jp (Xt az hr (by decide) (Xa (pv 0) (Xa (pv 1) Xd))) (J4 (EA HS HS Xc (pv 2) (Xn XC (Xo (Xj K rfl) rfl Z.b_len boot_len (Xa (XA K (Xk K (pv 0) Xc) (pv 1)) Xd)) (pv 3))))))
  Xe),λae ag aS dS aq au b6 ff=>(Xs (EvS.ev (EvB.sh (ZJ qB (V4 qB qB qB)))))⟩⟩
def Zx:=GW.1
theorem Fk:FnScope ["drawing","names","known"] ["drawing","names"] (Xg V8):=⟨rfl,rfl,rfl,by decide+kernel,rfl,by decide+kernel,by decide+kernel⟩
abbrev VL (m:((List (List Int))×(List (Int×Int)))->(List Int)->Rs Bool):Prop:=Fn P w K mg base 2 "can_add" ["drawing","names"] (sp2 (rP2 (rV (rV Xf)) (rV (rP2 Xf Xf))) (rV Xf) (oF XB) m K)
def GB:{m // Pk λP w K mg base=>Def K mg "can_add" V8 ["drawing","names"]->Vt P w K mg base Va->Blt mg->VL P w K mg base m}:=⟨_, @λP w K mg base D bf Z=>go2 D Fk 1 0 rfl rfl λhr hu aA=>⟨_,(Xb (Xm (i:=2) Fk.nd rfl (Or.inr rfl) (Xt bf hr (by decide) (Xa (pv 0) Xd)))
  (Xb (XG (PW.pt (Ve (Xl BR (Xn XC (Xo (Xj K rfl) rfl Z.b_len boot_len (Xa (pv 2) Xd)) (Xo (Xj K rfl) rfl Z.b_len boot_len (Xa (pv 1) Xd))) (TY Z.c_MOST_CROSSINGS rfl) (Xq _)) (Q0 (Xl Kk (Xo FZ rfl Z.b_len boot_len (Xa (XJ (By K rfl rfl) rfl Z.b_set PySem.Pv.boot_set (Xa (pv 1) Xd)) Xd)) (Xo (Xj K rfl) rfl Z.b_len boot_len (Xa (pv 1) Xd)) (Xq _)))))
   (Xb (Xp Zc)
   Xe)
   Xe)
  (Xb (Xp (Xo (Iq rfl) rfl Z.b_all PyProof.Rows.boot_all (Xa (Zs (sc:=(Xg V8)) (N0:=["drawing","names","known"]) (tns:=["name"]) (caps:=[(2,"known")]) rfl (XT (K:=K) rfl (pv 1)) (YB (by decide)) (λcl C s H ex E=>⟨Xw (i:=0) (show List.Nodup (["name","known"]:List Str) by decide+kernel) rfl (Or.inl rfl),Y3,(Jp (X5 WW (pv 0) Xc (Xq _)) (J4 (X5 (VM K rfl) (pv 0) (pv 1) rfl)))⟩)) Xd)))
  Xe))),λae ag aq au=>(Yp K qS λa1 v2=>(XN (Z1 (qt K) (XD (K:=K) (Fy (Ef ql) qB))) (Xs qM) (Xs (EvS.ev (EvB.sh (Sx (Ev.toB (Y5 (λ_=>tg1 0) qw (λC17 a18 v19=>(EvS.ev (EvB.sh (ZJ qB (PD qB qB)))))))))))))⟩⟩
def ZS:=GB.1
theorem DN:FnScope ["drawing","move"] ["drawing","move"] (Xg Q8):=⟨rfl,rfl,rfl,by decide+kernel,rfl,by decide+kernel,by decide+kernel⟩
abbrev JO (m:((List (List Int))×(List (Int×Int)))->(List Mx)->Rs Bool):Prop:=Fn P w K mg base 3 "curl_legal" ["drawing","move"] (sp2 (rP2 (rV (rV Xf)) (rV (rP2 Xf Xf))) (rPL rMx) (oF XB) m K)
def Jz:{m // Pk λP w K mg base=>Def K mg "curl_legal" Q8 ["drawing","move"]->V2 P w K mg base Zx->VL P w K mg base ZS->Blt mg->JO P w K mg base m}:=⟨_, @λP w K mg base D aD aH Z=>go2 D DN 0 0 rfl rfl λhr hu aA=>⟨_,(Xb (XG (PW.pt (Ve (Q2 (Zg (Xt aD hr (by decide) (Xa (pv 0) (Xa (Xk K (pv 1) Xc) (Xa (Xk K (pv 1) Xc) (Xa Xc Xd))))))) (Q0 (Q2 (Zg (Xt aH hr (by decide) (Xa (pv 0) (Xa (XL (Xa (Xk K (pv 1) Xc) Xd)) Xd X9))))))))
   (Xb (Xp Zc)
   Xe)
   Xe)
  (Xb (Xp (Jp (X5 (UP K rfl) (Xk K (pv 1) Xc) (XE (Xa Xu (Xa Xu Xd))) rfl) (J4 (X5 (UP K rfl) (Xk K (pv 1) Xc) (XE (Xa Xc (Xa (Yu X0 Xc) Xd))) rfl))))
  Xe)),λae ag aq au=>(XN (qt K) (Xs qM) (Xs (EvS.ev (EvB.sh (ZJ (K9 qb (Nt (Ev.toB qM))) (K9 qb (GR (Ev.toB qM))))))))⟩⟩
def JH:=Jz.1
theorem HM:FnScope ["pair"] ["pair"] (Xg GH):=⟨rfl,rfl,rfl,by decide+kernel,rfl,by decide+kernel,by decide+kernel⟩
abbrev GA (m:(Int×Int)->Rs Bool):Prop:=Fn P w K mg base 1 "is_curl" ["pair"] (sp1 (rP2 Xf Xf) (oF XB) m K)
def Gq:{m // Pk λP w K mg base=>Def K mg "is_curl" GH ["pair"]->Blt mg->GA P w K mg base m}:=⟨_, @λP w K mg base D Z=>go1 D HM 0 0 rfl rfl λhr hu aA=>⟨_,(Xb (Xp (X5 XY (Xk K (pv 0) Xc) (Yu X0 (Xk K (pv 0) Xc)) (Xq _)))
  Xe),λae aq=>(Xs qM)⟩⟩
def GS:=Gq.1
theorem Jj:FnScope ["drawing","move","pair"] ["drawing","move"] (Xg Qa):=⟨rfl,rfl,rfl,by decide+kernel,rfl,by decide+kernel,by decide+kernel⟩
abbrev Qd (m:((List (List Int))×(List (Int×Int)))->(List Mx)->Rs Bool):Prop:=Fn P w K mg base 3 "uncurl_legal" ["drawing","move"] (sp2 (rP2 (rV (rV Xf)) (rV (rP2 Xf Xf))) (rPL rMx) (oF XB) m K)
def Qc:{m // Pk λP w K mg base=>Def K mg "uncurl_legal" Qa ["drawing","move"]->ZP P w K mg base Yq->GA P w K mg base GS->Blt mg->Qd P w K mg base m}:=⟨_, @λP w K mg base D ad bD Z=>go2 D Jj 1 0 rfl rfl λhr hu aA=>⟨_,(Xb (Xm (i:=2) Jj.nd rfl (Or.inl rfl) (Xt ad hr (by decide) (Xa (pv 0) (Xa (Xk K (pv 1) Xc) (Xa (Xk K (pv 1) Xc) Xd)))))
  (Xb (Xp (Jp (X5 Eb (pv 2) K7 (Xq _)) (J4 (Xt bD hr (by decide) (Xa (pv 2) Xd)))))
  Xe)),λae ag aq au=>(Yp K qS λa1 v2=>(Xs (EvS.ev (EvB.sh (ZJ (Dx (tb:=tC .non) qB) qB)))))⟩⟩
def Qb:=Qc.1
theorem U4:FnScope ["drawing","move","same"] ["drawing","move"] (Xg J8):=⟨rfl,rfl,rfl,by decide+kernel,rfl,by decide+kernel,by decide+kernel⟩
abbrev Vf (m:((List (List Int))×(List (Int×Int)))->(List Mx)->Rs Bool):Prop:=Fn P w K mg base 3 "lay_legal" ["drawing","move"] (sp2 (rP2 (rV (rV Xf)) (rV (rP2 Xf Xf))) (rPL rMx) (oF XB) m K)
def Vo:{m // Pk λP w K mg base=>Def K mg "lay_legal" J8 ["drawing","move"]->V2 P w K mg base Zx->VL P w K mg base ZS->Blt mg->Vf P w K mg base m}:=⟨_, @λP w K mg base D aD aH Z=>go2 D U4 1 0 rfl rfl λhr hu aA=>⟨_,(Xb (XG (PW.pt (Ve (Q2 (Zg (Xt aD hr (by decide) (Xa (pv 0) (Xa (Xk K (pv 1) Xc) (Xa (Xk K (pv 1) Xc) (Xa Xc Xd))))))) (Q0 (Q2 (Zg (Xt aH hr (by decide) (Xa (pv 0) (Xa (XL (Xa (Xk K (pv 1) Xc) (Xa (Xk K (pv 1) Xc) Xd))) Xd X9))))))))
   (Xb (Xp Zc)
   Xe)
   Xe)
  (Xb (Xm (i:=2) U4.nd rfl (Or.inl rfl) (X5 XY (Xk K (pv 1) Xc) (Xk K (pv 1) Xc) (Xq _)))
  (Xb (XG (PW.pt (ED (Zg (pv 2)) (Dw (Xl XY (Xk K (pv 1) Xc) (Xn XC (Xk K (pv 1) Xc) Xc) (Xq _)))))
   (Xb (Xp Zc)
   Xe)
   Xe)
  (Xb (Xp (Jp (Xt aD hr (by decide) (Xa (pv 0) (Xa (Xk K (pv 1) Xc) (Xa (Xk K (pv 1) Xc) (Xa (Z7 (Zg (pv 2)) Xc Xc) Xd))))) (J4 (X5 (UP K rfl) (Xk K (pv 1) Xc) (XE (Xa Xc (Xa (Yu X0 Xc) Xd))) rfl))))
  Xe)))),λae ag aq au=>(XN (qt K) (Xs qM) (Yp K qS λa25 v26=>(XN (qt K) (Xs qM) (Xs (EvS.ev (EvB.sh (ZJ qB (K9 qb (GR (Ev.toB qM))))))))))⟩⟩
def Vl:=Vo.1
theorem Ck:FnScope ["drawing","over","under"] ["drawing","over","under"] (Xg Vs):=⟨rfl,rfl,rfl,by decide+kernel,rfl,by decide+kernel,by decide+kernel⟩
abbrev Vq (m:((List (List Int))×(List (Int×Int)))->(Int×Int)->(Int×Int)->Rs Bool):Prop:=Fn P w K mg base 2 "can_unlay" ["drawing","over","under"] (sp3 (rP2 (rV (rV Xf)) (rV (rP2 Xf Xf))) (rP2 Xf Xf) (rP2 Xf Xf) (oF XB) m K)
def Vv:{m // Pk λP w K mg base=>Def K mg "can_unlay" Vs ["drawing","over","under"]->VQ P w K mg base Yv->Blt mg->Vq P w K mg base m}:=⟨_, @λP w K mg base D af Z=>go3 D Ck 0 0 rfl rfl λhr hu aA=>⟨_,(Xb (XG (PW.pt (Ve (Xl Kk (Xo (JI K rfl rfl) rfl Z.b_min PyProof.Rows.boot_min (Xa (pv 1) Xd)) Xc (Xq _)) (Q0 (Xl (J9 K rfl (Ib eq_int) (Km (by decide) hu)) (Xo (U7 K rfl) rfl Z.b_sorted PyProof.Rows.boot_sorted (Xa (pv 2) Xd)) (Xo (Zp K rfl) rfl Z.b_sorted PyProof.Rows.boot_sorted (Xa (XL (Xa (Yu X0 (Xk K (pv 1) Xc)) (Xa (Yu X0 (Xk K (pv 1) Xc)) Xd))) Xd X9)) (Xq _)))))
   (Xb (Xp Zc)
   Xe)
   Xe)
  (Xb (Xp (X5 FW (Xt af hr (by decide) (Xa (pv 0) (Xa (Xk K (pv 1) Xc) Xd))) (Xt af hr (by decide) (Xa (pv 0) (Xa (Xk K (pv 1) Xc) Xd))) (Xq _)))
  Xe)),λae ag aS aq au b6=>(XN (Z1 (XD (K:=K) (Fy (Ju qb) qB)) (XD (K:=K) (GJ (Ev.toB (FD qb)) (Ev.toB (KJ ql))))) (Xs qM) (Xs qM))⟩⟩
def Vi:=Vv.1
theorem Z8:FnScope ["drawing","move","over","under"] ["drawing","move"] (Xg QF):=⟨rfl,rfl,rfl,by decide+kernel,rfl,by decide+kernel,by decide+kernel⟩
abbrev QL (m:((List (List Int))×(List (Int×Int)))->(List Mx)->Rs Bool):Prop:=Fn P w K mg base 3 "unlay_legal" ["drawing","move"] (sp2 (rP2 (rV (rV Xf)) (rV (rP2 Xf Xf))) (rPL rMx) (oF XB) m K)
def QK:{m // Pk λP w K mg base=>Def K mg "unlay_legal" QF ["drawing","move"]->ZP P w K mg base Yq->Vq P w K mg base Vi->Blt mg->QL P w K mg base m}:=⟨_, @λP w K mg base D ad bg Z=>go2 D Z8 2 0 rfl rfl λhr hu aA=>⟨_,(Xb (Xm (i:=2) Z8.nd rfl (Or.inl rfl) (Xt ad hr (by decide) (Xa (pv 0) (Xa (Xk K (pv 1) Xc) (Xa (Xk K (pv 1) Xc) Xd)))))
  (Xb (Xm (i:=3) Z8.nd rfl (Or.inl rfl) (Xt ad hr (by decide) (Xa (pv 0) (Xa (Xk K (pv 1) Xc) (Xa (Xk K (pv 1) Xc) Xd)))))
  (Xb (Xp (Jp (X5 Eb (pv 2) K7 (Xq _)) (Jp (X5 Eb (pv 3) K7 (Xq _)) (J4 (Xt bg hr (by decide) (Xa (pv 0) (Xa (pv 2) (Xa (pv 3) Xd))))))))
  Xe))),λae ag aq au=>(Yp K qS λa1 v2=>(Yp K qS λa11 v12=>(Xs (EvS.ev (EvB.sh (ZJ (Dx (tb:=tC .non) qB) (ZJ (Dx (tb:=tC .non) qB) qB)))))))⟩⟩
def Qv:=QK.1
theorem ES:FnScope ["drawing","move","word"] ["drawing","move"] (Xg Bw):=⟨rfl,rfl,rfl,by decide+kernel,rfl,by decide+kernel,by decide+kernel⟩
abbrev KN (m:((List (List Int))×(List (Int×Int)))->(List Mx)->Rs Bool):Prop:=Fn P w K mg base 4 "legal" ["drawing","move"] (sp2 (rP2 (rV (rV Xf)) (rV (rP2 Xf Xf))) (rPL rMx) (oF XB) m K)
def Jx:{m // Pk λP w K mg base=>Def K mg "legal" Bw ["drawing","move"]->Ji P w K mg base Z6->Jq P w K mg base Qj->JO P w K mg base JH->Qd P w K mg base Qb->Vf P w K mg base Vl->QL P w K mg base Qv->Blt mg->KN P w K mg base m}:=⟨_, @λP w K mg base D aV az aW aJ bh aN Z=>go2 D ES 1 0 rfl rfl λhr hu aA=>⟨_,(Xb (Xm (i:=2) ES.nd rfl (Or.inl rfl) (Xk K (pv 1) Xc))
  (Xb (XG (Xl XY (pv 2) Xu (Xq _))
   (Xb (Xp (Xt az hr (by decide) (Xa (pv 0) (Xa (Xk K (pv 1) Xc) Xd))))
   Xe)
   Xe)
  (Xb (XG (Xl XY (pv 2) Xu (Xq _))
   (Xb (Xp (Xt aW hr (by decide) (Xa (pv 0) (Xa (pv 1) Xd))))
   Xe)
   Xe)
  (Xb (XG (Xl XY (pv 2) Xu (Xq _))
   (Xb (Xp (Xt aJ hr (by decide) (Xa (pv 0) (Xa (pv 1) Xd))))
   Xe)
   Xe)
  (Xb (XG (Xl XY (pv 2) Xu (Xq _))
   (Xb (Xp (Xt bh hr (by decide) (Xa (pv 0) (Xa (pv 1) Xd))))
   Xe)
   Xe)
  (Xb (XG (Xl XY (pv 2) Xu (Xq _))
   (Xb (Xp (Xt aN hr (by decide) (Xa (pv 0) (Xa (pv 1) Xd))))
   Xe)
   Xe)
  (Xb (Xp (Xt aV hr (by decide) (Xa (pv 0) (Xa (pv 1) Xd))))
  Xe))))))),λae ag aq au=>(Yp K (r:=VY) qs λa1 v2=>(XN (qt K) (Xs qN) (XN (qt K) (Xs qN) (XN (qt K) (Xs qN) (XN (qt K) (Xs qN) (XN (qt K) (Xs qN) (Xs qN)))))))⟩⟩
def YZ:=Jx.1
theorem UD:FnScope ["drawing","move"] ["drawing","move"] (Xg ZD):=⟨rfl,rfl,rfl,by decide+kernel,rfl,by decide+kernel,by decide+kernel⟩
abbrev YQ (m:((List (List Int))×(List (Int×Int)))->(List Mx)->Rs Unit):Prop:=Fn P w K mg base 5 "refuse_illegal" ["drawing","move"] (sp2 (rP2 (rV (rV Xf)) (rV (rP2 Xf Xf))) (rPL rMx) oU m K)
def XO:{m // Pk λP w K mg base=>Def K mg "refuse_illegal" ZD ["drawing","move"]->KN P w K mg base YZ->Blt mg->YQ P w K mg base m}:=⟨_, @λP w K mg base D aC Z=>by
 refine Kl D UD (λvs H Q E h=>?_) (λf am A outer s H vs Q E hr h=>?_)
 ·obtain⟨ae,ag,aq,au,b,rfl,_⟩:=h;rfl
 obtain⟨ae,ag,aq,au,b,rfl,cU,cV,hm,q⟩:=h
 have hu:=hu8 hr
 have aA:=UO hr
 refine⟨_,(Xb (XG (Q2 (Zg (Xt aC hr (by decide) (Xa (pv 0) (Xa (pv 1) Xd)))))
   (Xb Ho
   Xe)
   Xe)
  Xe),?_⟩
 refine WQ (J:=({oo:=λx3=>[],ss:=λx3=>[some ae,some ag],sc:=λg4 x3=>(SC.add (SC.add SC.nil K (rP2 (rV (rV Xf)) (rV (rP2 Xf Xf))) ae aq) K (rPL rMx) ag au)}:Jn (Unit) (Unit))) (K:=K) (S:=(SC.add (SC.add SC.nil K (rP2 (rV (rV Xf)) (rV (rP2 Xf Xf))) ae aq) K (rPL rMx) ag au)) (σ:=[some ae,some ag]) 0 ?_ (SC.i (SC.i SC.t cU) cV) hm q (λ_ _=>rfl)
 exact(Tk (qt K) (YU () () rfl rfl))⟩
def Xy:=XO.1
theorem JE:FnScope ["drawing","move","walks","at","place","first"] ["drawing","move"] (Xg KH):=⟨rfl,rfl,rfl,by decide+kernel,rfl,by decide+kernel,by decide+kernel⟩
abbrev DW (m:((List (List Int))×(List (Int×Int)))->(List Mx)->Rs ((List (List Int))×(List (Int×Int)))):Prop:=Fn P w K mg base 1 "passed" ["drawing","move"] (sp2 (rP2 (rV (rV Xf)) (rV (rP2 Xf Xf))) (rPL rMx) (oT2 (oL (oL (oF Xf))) (oL (oF (rP2 Xf Xf)))) m K)
def DR:{m // Pk λP w K mg base=>Def K mg "passed" KH ["drawing","move"]->Blt mg->DW P w K mg base m}:=⟨_, @λP w K mg base D Z=>go2 D JE 4 1 rfl rfl λhr hu aA=>⟨_,(Xb (Q6 2 (Xg KH) ["drawing","move","walks","at","place","first"] ["walk"] [] rfl JE.nd rfl rfl (XT (K:=K) rfl (Xk K (pv 0) Xc)) (YB (by decide)) (λcl C s H ex E=>⟨Xw (i:=0) (show List.Nodup (["walk"]:List Str) by decide+kernel) rfl (Or.inl rfl),Y3,(XJ (XQ K rfl) rfl Z.b_list PyProof.Rows.boot_list (Xa (pv 0) Xd))⟩))
  (Xb (YX PassesOwn.never rfl (R5 (K:=K) rfl (XE (Xa (XE (Xa (Xk K (pv 1) Xc) (Xa (Xk K (pv 1) Xc) Xd))) (Xa (XE (Xa (Xk K (pv 1) Xc) (Xa (Xk K (pv 1) Xc) Xd))) (Xa (XE (Xa (Xk K (pv 1) Xc) (Xa (Xk K (pv 1) Xc) Xd))) Xd))))) (VX rfl (Yk (Xw (i:=3) JE.nd rfl (Or.inl rfl)) (Yk (Xw (i:=4) JE.nd rfl (Or.inl rfl)) QC)))
   (Xb (Xm (i:=5) JE.nd rfl (Or.inl rfl) (XA K (XA K (pv 2) (pv 3)) (pv 4)))
   (Xb (Zf (XA K (XA K (pv 2) (pv 3)) (Xn XC (pv 4) Xc)) (Qr (XA K (pv 2) (pv 3)) (pv 4) YH))
   (Xb (Zf (pv 5) (Qr (XA K (pv 2) (pv 3)) (Xn XC (pv 4) Xc) YH))
   Xe))))
  (Xb (Xp (XE (Xa (pv 2) (Xa (XJ (XQ K rfl) rfl Z.b_list PyProof.Rows.boot_list (Xa (Xk K (pv 0) Xc) Xd)) Xd))))
  Xe))),λae ag aq au=>(ZI K (o:=(oL (oL (oF Xf)))) 0 (Y5 (λ_=>tg1 0) qw (λC5 a6 v7=>qN)) λa1 v2 C3=>(CC K (λO (dE:Option V×Option V×Option V×V×List XZ)=>[dE.2.2.2.2]) (λs dE=>[some ae,some ag,some dE.2.2.2.1,dE.1,dE.2.1,dE.2.2.1]) (λS (g36:(List (List Int))) dE=>(SC.addO S K (oL (oL (oF Xf))) dE.2.2.2.1 g36 dE.2.2.2.2)) (λ_=>tg2 3 4) ((none),(none),(none),v2,C3) (a1) (E7 (YL (XF (Zq (EvB.sh (Yc qB)) (EvB.sh (Yc qB))) (XF (Zq (EvB.sh (Yc qB)) (EvB.sh (Yc qB))) (XF (Zq (EvB.sh (Yc qB)) (EvB.sh (Yc qB))) qa))))) rfl rfl (λ_ s=>(SC.i s s.r)) (λg37 x38 a39 v40=>(Yp K qS λa41 v42=>(Uc (K:=K) (r:=Xf) 2 0 rfl rfl (λ_ s=>s.l.l.l.r) qS qB qB λa56 C57=>(Uc (K:=K) (r:=Xf) 2 0 rfl rfl (λ_ s=>s.r) qS qB qB λa65 C66=>(YU ((some v40.1),(some v40.2),(some v42),x38.2.2.2.1,C66) (a65) rfl rfl))))) λg69 x70=>(Xs (Zo Um λ_=>qN))))⟩⟩
def Ks:=DR.1
theorem Kf:FnScope ["walks","at","place","pair","told"] ["walks","at","place","pair"] (Xg QG):=⟨rfl,rfl,rfl,by decide+kernel,rfl,by decide+kernel,by decide+kernel⟩
abbrev Qt (m:(List (List Int))->Int->Int->(List Int)->Rs (List (List Int))):Prop:=Fn P w K mg base 1 "with_pair" ["walks","at","place","pair"] (sp4 (rV (rV Xf)) Xf Xf (rV Xf) (oL (oL (oF Xf))) m K)
def Vj:{m // Pk λP w K mg base=>Def K mg "with_pair" QG ["walks","at","place","pair"]->Blt mg->Qt P w K mg base m}:=⟨_, @λP w K mg base D Z=>go4 D Kf 1 1 rfl rfl λhr hu aA=>⟨_,(Xb (Q6 4 (Xg QG) ["walks","at","place","pair","told"] ["walk"] [] rfl Kf.nd rfl rfl (XT (K:=K) rfl (pv 0)) (YB (by decide)) (λcl C s H ex E=>⟨Xw (i:=0) (show List.Nodup (["walk"]:List Str) by decide+kernel) rfl (Or.inl rfl),Y3,(XJ (XQ K rfl) rfl Z.b_list PyProof.Rows.boot_list (Xa (pv 0) Xd))⟩))
  (Xb (Zf (Xn Z2 (Xn Z2 (XI (YC K rfl) (XA K (pv 4) (pv 1)) Yb (XM (pv 2))) (pv 3)) (XI (YC K rfl) (XA K (pv 4) (pv 1)) (XM (pv 2)) Yb)) (Qr (pv 4) (pv 1) YH))
  (Xb (Xp (pv 4))
  Xe))),λae ag aS dS aq au b6 ff=>(ZI K (o:=(oL (oL (oF Xf)))) 0 (Y5 (λ_=>tg1 0) qw (λC4 a5 v6=>qN)) λa1 v2 C3=>(VW K qN (λ_=>qB) λa27 C28=>(Xs Um)))⟩⟩
def ZO:=Vj.1
theorem Gb:FnScope ["drawing","move","crossing","pair"] ["drawing","move"] (Xg Dh):=⟨rfl,rfl,rfl,by decide+kernel,rfl,by decide+kernel,by decide+kernel⟩
abbrev FY (m:((List (List Int))×(List (Int×Int)))->(List Mx)->Rs ((List (List Int))×(List (Int×Int)))):Prop:=Fn P w K mg base 2 "curled" ["drawing","move"] (sp2 (rP2 (rV (rV Xf)) (rV (rP2 Xf Xf))) (rPL rMx) (oT2 (oL (oL (oF Xf))) (oL (oF (rP2 Xf Xf)))) m K)
def Do:{m // Pk λP w K mg base=>Def K mg "curled" Dh ["drawing","move"]->Qt P w K mg base ZO->Blt mg->FY P w K mg base m}:=⟨_, @λP w K mg base D aw Z=>go2 D Gb 2 0 rfl rfl λhr hu aA=>⟨_,(Xb (Xm (i:=2) Gb.nd rfl (Or.inl rfl) (Xk K (pv 1) Xc))
  (Xb (Xm (i:=3) Gb.nd rfl (Or.inl rfl) (Z7 (Xl XY (Xk K (pv 1) Xc) Xu (Xq _)) (XL (Xa (pv 2) (Xa (Yu X0 (pv 2)) Xd))) (XL (Xa (Yu X0 (pv 2)) (Xa (pv 2) Xd)))))
  (Xb (Xp (XE (Xa (Xt aw hr (by decide) (Xa (Xk K (pv 0) Xc) (Xa (Xk K (pv 1) Xc) (Xa (Xk K (pv 1) Xc) (Xa (pv 3) Xd))))) (Xa (Xo (JF K rfl (Km (by decide) hu)) rfl Z.b_sorted PyProof.Rows.boot_sorted (Xa (Xn Z2 (Xk K (pv 0) Xc) (XL (Xa (XE (Xa (pv 2) (Xa (Xk K (pv 1) Xc) Xd))) Xd))) Xd)) Xd))))
  Xe))),λae ag aq au=>(Yp K (r:=Xf) qs λa1 v2=>(Yp K (r:=(rV Xf)) (Ev.sh (Nh (qt K) qN qN)) λa5 v6=>(Xs (Zo qN λ_=>(Dc (Ev.ls (Mo ql (Ev.ls (UZ (XF (Zq qS (EvB.sh (Yc qB))) qa))))))))))⟩⟩
def DK:=Do.1
theorem UB:FnScope ["drawing","move","one","two","under","walks"] ["drawing","move"] (Xg Lx):=⟨rfl,rfl,rfl,by decide+kernel,rfl,by decide+kernel,by decide+kernel⟩
abbrev Iv (m:((List (List Int))×(List (Int×Int)))->(List Mx)->Rs ((List (List Int))×(List (Int×Int)))):Prop:=Fn P w K mg base 2 "laid" ["drawing","move"] (sp2 (rP2 (rV (rV Xf)) (rV (rP2 Xf Xf))) (rPL rMx) (oT2 (oL (oL (oF Xf))) (oL (oF (rP2 Xf Xf)))) m K)
def MR:{m // Pk λP w K mg base=>Def K mg "laid" Lx ["drawing","move"]->Qt P w K mg base ZO->Blt mg->Iv P w K mg base m}:=⟨_, @λP w K mg base D aw Z=>go2 D UB 4 1 rfl rfl λhr hu aA=>⟨_,(Xb (Xm (i:=2) UB.nd rfl (Or.inl rfl) (Xk K (pv 1) Xc))
  (Xb (Xm (i:=3) UB.nd rfl (Or.inl rfl) (Xk K (pv 1) Xc))
  (Xb (Xm (i:=4) UB.nd rfl (Or.inl rfl) (Z7 (Zg (Xk K (pv 1) Xc)) (XL (Xa (Yu X0 (pv 3)) (Xa (Yu X0 (pv 2)) Xd))) (XL (Xa (Yu X0 (pv 2)) (Xa (Yu X0 (pv 3)) Xd)))))
  (Xb (Xm (i:=5) UB.nd rfl (Or.inl rfl) (Xt aw hr (by decide) (Xa (Xk K (pv 0) Xc) (Xa (Xk K (pv 1) Xc) (Xa (Xk K (pv 1) Xc) (Xa (XL (Xa (pv 2) (Xa (pv 3) Xd))) Xd X9))))))
  (Xb (Xm (i:=5) UB.nd rfl (Or.inl rfl) (Xt aw hr (by decide) (Xa (pv 5) (Xa (Xk K (pv 1) Xc) (Xa (Xk K (pv 1) Xc) (Xa (pv 4) Xd))))))
  (Xb (Xp (XE (Xa (pv 5) (Xa (Xo (JF K rfl (Km (by decide) hu)) rfl Z.b_sorted PyProof.Rows.boot_sorted (Xa (Xn Z2 (Xk K (pv 0) Xc) (XL (Xa (XE (Xa (pv 2) (Xa (Xk K (pv 1) Xc) Xd))) (Xa (XE (Xa (pv 3) (Xa (Yu X0 (Xk K (pv 1) Xc)) Xd))) Xd)))) Xd)) Xd))))
  Xe)))))),λae ag aq au=>(Yp K (r:=Xf) qs λa1 v2=>(Yp K (r:=Xf) qs λa5 v6=>(Yp K (r:=(rV Xf)) (Ev.sh (Nh (qt K) qN qN)) λa9 v10=>(ZI K 0 qN λa28 fA C30=>(ZI K 0 qN λa46 v47 C48=>(Xs (Zo Um λ_=>(Dc (Ev.ls (Mo ql (Ev.ls (UZ (XF (Zq qS (EvB.sh (Yc qB))) qa)))))))))))))⟩⟩
def Ii:=MR.1
theorem Jh:FnScope ["walks","at","place","told"] ["walks","at","place"] (Xg Zr):=⟨rfl,rfl,rfl,by decide+kernel,rfl,by decide+kernel,by decide+kernel⟩
abbrev Zn (m:(List (List Int))->Int->Int->Rs (List (List Int))):Prop:=Fn P w K mg base 1 "without_pair" ["walks","at","place"] (sp3 (rV (rV Xf)) Xf Xf (oL (oL (oF Xf))) m K)
def Qe:{m // Pk λP w K mg base=>Def K mg "without_pair" Zr ["walks","at","place"]->Blt mg->Zn P w K mg base m}:=⟨_, @λP w K mg base D Z=>go3 D Jh 1 1 rfl rfl λhr hu aA=>⟨_,(Xb (Q6 3 (Xg Zr) ["walks","at","place","told"] ["walk"] [] rfl Jh.nd rfl rfl (XT (K:=K) rfl (pv 0)) (YB (by decide)) (λcl C s H ex E=>⟨Xw (i:=0) (show List.Nodup (["walk"]:List Str) by decide+kernel) rfl (Or.inl rfl),Y3,(XJ (XQ K rfl) rfl Z.b_list PyProof.Rows.boot_list (Xa (pv 0) Xd))⟩))
  (Xb (Zf (Xn Z2 (XI (YC K rfl) (XA K (pv 3) (pv 1)) Yb (XM (pv 2))) (XI (YC K rfl) (XA K (pv 3) (pv 1)) (XM (Xn XC (pv 2) Xc)) Yb)) (Qr (pv 3) (pv 1) YH))
  (Xb (Xp (pv 3))
  Xe))),λae ag aS aq au b6=>(ZI K (o:=(oL (oL (oF Xf)))) 0 (Y5 (λ_=>tg1 0) qw (λC4 a5 v6=>qN)) λa1 v2 C3=>(VW K qN (λ_=>qB) λa27 C28=>(Xs Um)))⟩⟩
def YO:=Qe.1
theorem Z0:FnScope ["move","ahead"] ["move"] (Xg Zj):=⟨rfl,rfl,rfl,by decide+kernel,rfl,by decide+kernel,by decide+kernel⟩
abbrev Zh (m:(List Mx)->Rs Int):Prop:=Fn P w K mg base 1 "bare_over_place" ["move"] (sp1 (rPL rMx) (oF Xf) m K)
def YI:{m // Pk λP w K mg base=>Def K mg "bare_over_place" Zj ["move"]->Blt mg->Zh P w K mg base m}:=⟨_, @λP w K mg base D Z=>go1 D Z0 1 0 rfl rfl λhr hu aA=>⟨_,(Xb (Xm (i:=1) Z0.nd rfl (Or.inl rfl) (Jp (X5 XY (Xk K (pv 0) Xc) (Xk K (pv 0) Xc) (Xq _)) (J4 (X5 Kk (Xk K (pv 0) Xc) (Xk K (pv 0) Xc) (Xq _)))))
  (Xb (Xp (Z7 (Zg (pv 1)) (Xn ZX (Xk K (pv 0) Xc) Xc) (Xk K (pv 0) Xc)))
  Xe)),λae aq=>(Yp K qS λa1 v2=>(Xs (Nh (qt K) qM qn)))⟩⟩
def XS:=YI.1
theorem Kj:FnScope ["drawing","pair"] ["drawing","pair"] (Xg Zd):=⟨rfl,rfl,rfl,by decide+kernel,rfl,by decide+kernel,by decide+kernel⟩
abbrev Y9 (m:((List (List Int))×(List (Int×Int)))->(Int×Int)->Rs (List (Int×Int))):Prop:=Fn P w K mg base 1 "signs_without" ["drawing","pair"] (sp2 (rP2 (rV (rV Xf)) (rV (rP2 Xf Xf))) (rP2 Xf Xf) (oL (oF (rP2 Xf Xf))) m K)
def Y7:{m // Pk λP w K mg base=>Def K mg "signs_without" Zd ["drawing","pair"]->Blt mg->Y9 P w K mg base m}:=⟨_, @λP w K mg base D Z=>go2 D Kj 0 0 rfl rfl λhr hu aA=>⟨_,(Xb (Xp (Zs (sc:=(Xg Zd)) (N0:=["drawing","pair"]) (tns:=["entry"]) (caps:=[(1,"pair")]) rfl (XT (K:=K) rfl (Xk K (pv 0) Xc)) (YB (by decide)) (λcl C s H ex E=>⟨Xw (i:=0) (show List.Nodup (["entry","pair"]:List Str) by decide+kernel) rfl (Or.inl rfl),(KW (Xl (VM K rfl) (Xk K (pv 0) Xc) (pv 1) rfl)),(pv 0)⟩)))
  Xe),λae ag aq au=>(Xs (V1 (λ_=>tg1 0) qw (λC2 a3 v4=>(XD (K:=K) (Da qB qb))) (λC2 a3 v4=>qM)))⟩⟩
def YG:=Y7.1
theorem VR:FnScope ["drawing","move","over","walks"] ["drawing","move"] (Xg F1):=⟨rfl,rfl,rfl,by decide+kernel,rfl,by decide+kernel,by decide+kernel⟩
abbrev F0 (m:((List (List Int))×(List (Int×Int)))->(List Mx)->Rs ((List (List Int))×(List (Int×Int)))):Prop:=Fn P w K mg base 3 "unlaid" ["drawing","move"] (sp2 (rP2 (rV (rV Xf)) (rV (rP2 Xf Xf))) (rPL rMx) (oT2 (oL (oL (oF Xf))) (oL (oF (rP2 Xf Xf)))) m K)
def Dy:{m // Pk λP w K mg base=>Def K mg "unlaid" F1 ["drawing","move"]->ZP P w K mg base Yq->Zn P w K mg base YO->Zh P w K mg base XS->Y9 P w K mg base YG->Blt mg->F0 P w K mg base m}:=⟨_, @λP w K mg base D ad al ai ao Z=>go2 D VR 2 1 rfl rfl λhr hu aA=>⟨_,(Xb (Xm (i:=2) VR.nd rfl (Or.inl rfl) (Xt ad hr (by decide) (Xa (pv 0) (Xa (Xk K (pv 1) Xc) (Xa (Xk K (pv 1) Xc) Xd)))))
  (Xb (Xm (i:=3) VR.nd rfl (Or.inl rfl) (Xt al hr (by decide) (Xa (Xk K (pv 0) Xc) (Xa (Xk K (pv 1) Xc) (Xa (Xk K (pv 1) Xc) Xd)))))
  (Xb (Xm (i:=3) VR.nd rfl (Or.inl rfl) (Xt al hr (by decide) (Xa (pv 3) (Xa (Xk K (pv 1) Xc) (Xa (Xt ai hr (by decide) (Xa (pv 1) Xd)) Xd)))))
  (Xb (Xp (XE (Xa (pv 3) (Xa (Xt ao hr (by decide) (Xa (pv 0) (Xa (pv 2) Xd))) Xd))))
  Xe)))),λae ag aq au=>(Yp K qS λa1 v2=>(ZI K 0 qN λa11 v12 C13=>(ZI K 0 qN λa23 v24 C25=>(Xs (Zo Um λ_=>qN)))))⟩⟩
def F7:=Dy.1
theorem BI:FnScope ["drawing","move","word","pair"] ["drawing","move"] (Xg Lj):=⟨rfl,rfl,rfl,by decide+kernel,rfl,by decide+kernel,by decide+kernel⟩
abbrev M2 (m:((List (List Int))×(List (Int×Int)))->(List Mx)->Rs ((List (List Int))×(List (Int×Int)))):Prop:=Fn P w K mg base 6 "done" ["drawing","move"] (sp2 (rP2 (rV (rV Xf)) (rV (rP2 Xf Xf))) (rPL rMx) (oT2 (oL (oL (oF Xf))) (oL (oF (rP2 Xf Xf)))) m K)
def V9:{m // Pk λP w K mg base=>Def K mg "done" Lj ["drawing","move"]->YQ P w K mg base Xy->DW P w K mg base Ks->DJ P w K mg base Df->FY P w K mg base DK->ZP P w K mg base Yq->Iv P w K mg base Ii->F0 P w K mg base F7->Zn P w K mg base YO->Y9 P w K mg base YG->Blt mg->M2 P w K mg base m}:=⟨_, @λP w K mg base D ak bR bS bT ad cW bU al ao Z=>go2 D BI 2 0 rfl rfl λhr hu aA=>⟨_,(Xb (Yh (Xt ak hr (by decide) (Xa (pv 0) (Xa (pv 1) Xd))))
  (Xb (Xm (i:=2) BI.nd rfl (Or.inl rfl) (Xk K (pv 1) Xc))
  (Xb (XG (Xl XY (pv 2) Xu (Xq _))
   (Xb (Xp (Xt bS hr (by decide) (Xa (pv 0) (Xa (Xk K (pv 1) Xc) (Xa (Xk K (pv 1) Xc) Xd)))))
   Xe)
   Xe)
  (Xb (XG (Xl XY (pv 2) Xu (Xq _))
   (Xb (Xp (Xt bT hr (by decide) (Xa (pv 0) (Xa (pv 1) Xd))))
   Xe)
   Xe)
  (Xb (XG (Xl XY (pv 2) Xu (Xq _))
   (Xb (Xm (i:=3) BI.nd rfl (Or.inl rfl) (Xt ad hr (by decide) (Xa (pv 0) (Xa (Xk K (pv 1) Xc) (Xa (Xk K (pv 1) Xc) Xd)))))
   (Xb (Xp (XE (Xa (Xt al hr (by decide) (Xa (Xk K (pv 0) Xc) (Xa (Xk K (pv 1) Xc) (Xa (Xk K (pv 1) Xc) Xd)))) (Xa (Xt ao hr (by decide) (Xa (pv 0) (Xa (pv 3) Xd))) Xd))))
   Xe))
   Xe)
  (Xb (XG (Xl XY (pv 2) Xu (Xq _))
   (Xb (Xp (Xt cW hr (by decide) (Xa (pv 0) (Xa (pv 1) Xd))))
   Xe)
   Xe)
  (Xb (XG (Xl XY (pv 2) Xu (Xq _))
   (Xb (Xp (Xt bU hr (by decide) (Xa (pv 0) (Xa (pv 1) Xd))))
   Xe)
   Xe)
  (Xb (Xp (Xt bR hr (by decide) (Xa (pv 0) (Xa (pv 1) Xd))))
  Xe)))))))),λae ag aq au=>(Mc (K:=K) qB (Yp K (r:=VY) qs λa5 v6=>(XN (qt K) (Xs qN) (XN (qt K) (Xs qN) (XN (qt K) (Yp K qS λa29 v30=>(Xs (Zo qN λ_=>qN))) (XN (qt K) (Xs qN) (XN (qt K) (Xs qN) (Xs qN))))))))⟩⟩
def YD:=V9.1
def Qw (aq:((List (List Int))×(List (Int×Int))))(au:(List Mx)):Rs (List Mx):=(Rs.bind (Rs.bind (Rs.ok aq) λx8=>(Rs.bind (Rs.bind (Rs.bind (Rs.ok au) λx4=>(Rs.bind (Rs.ok (1:Int)) λx5=>(atR x4 x5))) mxI) λx9=>(Rs.bind (Rs.bind (Rs.bind (Rs.ok au) λx6=>(Rs.bind (Rs.ok (2:Int)) λx7=>(atR x6 x7))) mxI) λfB=>(noE (Yq x8 x9 fB))))) λa1=>(Rs.bind (Rs.bind (Rs.bind (Rs.bind (Rs.ok a1) Gz) λbi=>(Rs.ok [bi.1,bi.2])) WB) λa11=>(Rs.bind (Rs.bind (Rs.bind (Rs.bind (Rs.bind (Rs.ok a1) Gz) λbu=>(Rs.ok bu.1)) λx17=>(Rs.bind (Rs.ok a11) λeL=>(Rs.ok (decide (x17=eL))))) λcX=>(if cX=true then(Rs.ok ("over":Str)) else(Rs.ok ("under":Str)))) λa14=>(Rs.bind (Rs.bind (Rs.bind (Rs.ok ("curl":Str)) λx20=>(Rs.ok (Mx.s x20))) λdF=>(Rs.bind (Rs.bind (Rs.bind (Rs.bind (Rs.bind (Rs.ok au) λx21=>(Rs.bind (Rs.ok (1:Int)) λx22=>(atR x21 x22))) mxI) λcL=>(Rs.ok (Mx.i cL))) λfW=>(Rs.bind (Rs.bind (Rs.bind (Rs.bind (Rs.bind (Rs.ok au) λbA=>(Rs.bind (Rs.ok (2:Int)) λic=>(atR bA ic))) mxI) λie=>(Rs.ok (Mx.i ie))) λdG=>(Rs.bind (Rs.bind (Rs.bind (Rs.ok a11) λcG=>(Rs.ok (Mx.i cG))) λx37=>(Rs.bind (Rs.bind (Rs.bind (Rs.ok a14) λx28=>(Rs.ok (Mx.s x28))) λdE=>(Rs.bind (Rs.bind (Rs.bind (Rs.bind (Rs.ok aq) λbV=>(Rs.bind (Rs.ok a11) λx31=>(noE (Yv bV x31)))) λig=>(Rs.ok (Mx.i ig))) λcY=>(Rs.bind (Rs.ok []) λx34=>(Rs.ok (cY::x34)))) λx36=>(Rs.ok (dE::x36)))) λx38=>(Rs.ok (x37::x38)))) λx40=>(Rs.ok (dG::x40)))) λfX=>(Rs.ok (fW::fX)))) λdt=>(Rs.ok (dF::dt)))) λii=>(chk (ii.length<=sizeLine) (Rs.ok ii))))))
abbrev BO (m:((List (List Int))×(List (Int×Int)))->(List Mx)->Rs (List Mx)):Prop:=Fn P w K mg base 3 "curl_back" ["drawing","move"] (sp2 (rP2 (rV (rV Xf)) (rV (rP2 Xf Xf))) (rPL rMx) (oF (rPL rMx)) m K)
section
variable {P:Program}{w:World}{K:W.Frag}{mg:Str->Option Value}{base:Heap}
theorem Z4:FnScope ["drawing","move","pair","crossing","first"] ["drawing","move"] (Xg J7):=⟨rfl,rfl,rfl,by decide+kernel,rfl,by decide+kernel,by decide+kernel⟩
theorem Bi (D:Def K mg "curl_back" J7 ["drawing","move"])(ad:Fn P w K mg base 2 "pair_at" ["drawing","walk","place"] (sp3 (rP2 (rV (rV Xf)) (rV (rP2 Xf Xf))) Xf Xf (oF (Gm (rP2 Xf Xf))) Yq K))(af:Fn P w K mg base 1 "sign_of" ["drawing","crossing"] (sp2 (rP2 (rV (rV Xf)) (rV (rP2 Xf Xf))) Xf (oF Xf) Yv K))(Z:Blt mg):Fn P w K mg base 3 "curl_back" ["drawing","move"] (sp2 (rP2 (rV (rV Xf)) (rV (rP2 Xf Xf))) (rPL rMx) (oF (rPL rMx)) Qw K):=by
 refine Kl D Z4 (λvs H Q E h=>?_) (λf am A outer s H vs Q E hr h=>?_)
 ·obtain⟨ae,ag,aq,au,b,rfl,_⟩:=h;rfl
 obtain⟨ae,ag,aq,au,b,rfl,cU,cV,hm,q⟩:=h
 have hu:=hu8 hr
 have aA:=UO hr
 refine⟨_,(Xb (Xm (i:=2) Z4.nd rfl (Or.inl rfl) (Xt ad hr (by decide) (Xa (pv 0) (Xa (X8 (XX K rfl) (pv 1) Xc (λ_ _=>rfl)) (Xa (X8 (XX K rfl) (pv 1) Xc (λ_ _=>rfl)) Xd)))))
  (Xb (Xm (i:=3) Z4.nd rfl (Or.inl rfl) (Xo (Ue K rfl rfl) rfl Z.b_max PyProof.Rows.boot_max (Xa (pv 2) Xd)))
  (Xb (Xm (i:=4) Z4.nd rfl (Or.inl rfl) (Z7 (Xl XY (X8 (XX K rfl) (pv 2) Xc (λ_ _=>rfl)) (pv 3) (Xq _)) Xu Xu))
  (Xb (Xp (XE (Xa Xu (Xa (X8 (XX K rfl) (pv 1) Xc (λ_ _=>rfl)) (Xa (X8 (XX K rfl) (pv 1) Xc (λ_ _=>rfl)) (Xa (pv 3) (Xa (pv 4) (Xa (Xt af hr (by decide) (Xa (pv 0) (Xa (pv 3) Xd))) Xd))))))))
  Xe)))),?_⟩
 refine B3 (S:=(SC.add (SC.add SC.nil K (rP2 (rV (rV Xf)) (rV (rP2 Xf Xf))) ae aq) K (rPL rMx) ag au)) (σ:=[some ae,some ag,none,none,none]) 0 ?_ (SC.i (SC.i SC.t cU) cV) hm q rfl
 unfold Qw
 exact(U9 (K:=K) (r:=(Gm (rP2 Xf Xf))) 2 (EvB.sh (Ev.toB (KE (X3 (r:=(rP2 (rV (rV Xf)) (rV (rP2 Xf Xf)))) 0 rfl (λ_ s=>s.l.r)) (Yc (Zz (X3 (r:=(rPL rMx)) 1 rfl (λ_ s=>s.r)) (ZC 1))) (Yc (Zz (X3 (r:=(rPL rMx)) 1 rfl (λ_ s=>s.r)) (ZC 2)))))) λa1 v2=>(U9 (K:=K) (r:=Xf) 3 (EvB.sh (KD (GR (Kh (X3 (r:=(Gm (rP2 Xf Xf))) 2 rfl (λ_ s=>s.r)))))) λa11 v12=>(U9 (K:=K) (r:=VY) 4 (EvB.sh (OZ (XD (K:=K) (VT (UU (Kh (X3 (r:=(Gm (rP2 Xf Xf))) 2 rfl (λ_ s=>s.l.r)))) (X3 (r:=Xf) 3 rfl (λ_ s=>s.r)))) (Gu _) (Gu _))) λa14 fY=>(Xs (EvB.flat (Ev.toB (EvS.ev (YL (XF (FI (EvB.sh (Gu _))) (XF (ZB (EvB.sh (Yc (Zz (X3 (r:=(rPL rMx)) 1 rfl (λ_ s=>s.l.l.l.r)) (ZC 1))))) (XF (ZB (EvB.sh (Yc (Zz (X3 (r:=(rPL rMx)) 1 rfl (λ_ s=>s.l.l.l.r)) (ZC 2))))) (XF (ZB (GM (r:=Xf) 3 rfl (λ_ s=>s.l.r))) (XF (FI (GM (r:=VY) 4 rfl (λ_ s=>s.r))) (XF (ZB (EvB.sh (Ev.toB (KB (X3 (r:=(rP2 (rV (rV Xf)) (rV (rP2 Xf Xf)))) 0 rfl (λ_ s=>s.l.l.l.l.r)) (X3 (r:=Xf) 3 rfl (λ_ s=>s.l.r)))))) BD))))))))))))))
end
theorem Ug:FnScope ["move","ahead"] ["move"] (Xg Jb):=⟨rfl,rfl,rfl,by decide+kernel,rfl,by decide+kernel,by decide+kernel⟩
abbrev Js (m:(List Mx)->Rs (List Mx)):Prop:=Fn P w K mg base 1 "unlay_back" ["move"] (sp1 (rPL rMx) (oF (rPL rMx)) m K)
def JN:{m // Pk λP w K mg base=>Def K mg "unlay_back" Jb ["move"]->Blt mg->Js P w K mg base m}:=⟨_, @λP w K mg base D Z=>go1 D Ug 1 0 rfl rfl λhr hu aA=>⟨_,(Xb (Xm (i:=1) Ug.nd rfl (Or.inl rfl) (Jp (X5 XY (Xk K (pv 0) Xc) (Xk K (pv 0) Xc) (Xq _)) (J4 (X5 HS (Xk K (pv 0) Xc) (Xk K (pv 0) Xc) (Xq _)))))
  (Xb (Xp (XE (Xa Xu (Xa (Xk K (pv 0) Xc) (Xa (Z7 (Zg (pv 1)) (Xn XC (Xk K (pv 0) Xc) Xc) (Xk K (pv 0) Xc)) (Xa (Xk K (pv 0) Xc) (Xa (Xk K (pv 0) Xc) Xd)))))))
  Xe)),λae aq=>(Yp K qS λa1 v2=>(Xs (EvB.flat (Ev.toB (EvS.ev (YL (r:=rMx) qa))))))⟩⟩
def JD:=JN.1
def JY (aq:((List (List Int))×(List (Int×Int))))(au:(List Mx)):Rs (List Mx):=(Rs.bind (Rs.bind (Rs.ok aq) λx8=>(Rs.bind (Rs.bind (Rs.bind (Rs.ok au) λx4=>(Rs.bind (Rs.ok (1:Int)) λx5=>(atR x4 x5))) mxI) λx9=>(Rs.bind (Rs.bind (Rs.bind (Rs.ok au) λx6=>(Rs.bind (Rs.ok (2:Int)) λx7=>(atR x6 x7))) mxI) λfB=>(noE (Yq x8 x9 fB))))) λa1=>(Rs.bind (Rs.bind (Rs.ok aq) λeL=>(Rs.bind (Rs.bind (Rs.bind (Rs.ok au) λx14=>(Rs.bind (Rs.ok (3:Int)) λx15=>(atR x14 x15))) mxI) λcX=>(Rs.bind (Rs.bind (Rs.bind (Rs.ok au) λbu=>(Rs.bind (Rs.ok (4:Int)) λx17=>(atR bu x17))) mxI) λx20=>(noE (Yq eL cX x20))))) λa11=>(Rs.bind (Rs.bind (Rs.bind (Rs.bind (Rs.ok a11) Gz) λcL=>(Rs.ok cL.1)) λie=>(Rs.bind (Rs.bind (Rs.bind (Rs.bind (Rs.ok a1) Gz) λbA=>(Rs.ok bA.1)) λic=>(Rs.ok (-ic))) λcG=>(Rs.ok (!(decide (ie=cG)))))) λa21=>(Rs.bind (Rs.bind (Rs.ok aq) λig=>(Rs.bind (Rs.bind (Rs.bind (Rs.ok a1) Gz) λx31=>(Rs.ok x31.1)) λcY=>(noE (Yv ig cY)))) λa28=>(Rs.bind (Rs.bind (Rs.bind (Rs.ok ("lay":Str)) λx34=>(Rs.ok (Mx.s x34))) λx69=>(Rs.bind (Rs.bind (Rs.bind (Rs.bind (Rs.bind (Rs.ok au) λdE=>(Rs.bind (Rs.ok (1:Int)) λx36=>(atR dE x36))) mxI) λx37=>(Rs.ok (Mx.i x37))) λij=>(Rs.bind (Rs.bind (Rs.bind (Rs.bind (Rs.ok au) λdG=>(noE (XS dG))) λx40=>(Rs.ok (Mx.i x40))) λik=>(Rs.bind (Rs.bind (Rs.bind (Rs.bind (Rs.bind (Rs.ok au) λfW=>(Rs.bind (Rs.ok (3:Int)) λfX=>(atR fW fX))) mxI) λdF=>(Rs.ok (Mx.i dF))) λx63=>(Rs.bind (Rs.bind (Rs.bind (Rs.bind (Rs.bind (Rs.ok au) λdt=>(Rs.bind (Rs.ok (4:Int)) λii=>(atR dt ii))) mxI) λfZ=>(Rs.ok (Mx.i fZ))) λx61=>(Rs.bind (Rs.bind (Rs.bind (Rs.bind (Rs.bind (Rs.ok a1) Gz) λb7=>(Rs.ok b7.1)) λx48=>(Rs.ok (Mx.i x48))) λx59=>(Rs.bind (Rs.bind (Rs.bind (Rs.bind (Rs.bind (Rs.ok a1) Gz) λx49=>(Rs.ok x49.2)) λil=>(Rs.ok (Mx.i il))) λx57=>(Rs.bind (Rs.bind (Rs.bind (Rs.ok a21) λx51=>(Rs.ok (Mx.b x51))) λx55=>(Rs.bind (Rs.bind (Rs.bind (Rs.ok a28) λx52=>(Rs.ok (Mx.i x52))) λeU=>(Rs.bind (Rs.ok []) λeV=>(Rs.ok (eU::eV)))) λgp=>(Rs.ok (x55::gp)))) λx58=>(Rs.ok (x57::x58)))) λx60=>(Rs.ok (x59::x60)))) λcH=>(Rs.ok (x61::cH)))) λcb=>(Rs.ok (x63::cb)))) λx66=>(Rs.ok (ik::x66)))) λx68=>(Rs.ok (ij::x68)))) λx70=>(Rs.ok (x69::x70)))) λdu=>(chk (du.length<=sizeLine) (Rs.ok du)))))))
abbrev HD (m:((List (List Int))×(List (Int×Int)))->(List Mx)->Rs (List Mx)):Prop:=Fn P w K mg base 3 "lay_back" ["drawing","move"] (sp2 (rP2 (rV (rV Xf)) (rV (rP2 Xf Xf))) (rPL rMx) (oF (rPL rMx)) m K)
section
variable {P:Program}{w:World}{K:W.Frag}{mg:Str->Option Value}{base:Heap}
theorem ZQ:FnScope ["drawing","move","over","under","crossed","sign"] ["drawing","move"] (Xg Uq):=⟨rfl,rfl,rfl,by decide+kernel,rfl,by decide+kernel,by decide+kernel⟩
theorem Eo (D:Def K mg "lay_back" Uq ["drawing","move"])(ad:Fn P w K mg base 2 "pair_at" ["drawing","walk","place"] (sp3 (rP2 (rV (rV Xf)) (rV (rP2 Xf Xf))) Xf Xf (oF (Gm (rP2 Xf Xf))) Yq K))(af:Fn P w K mg base 1 "sign_of" ["drawing","crossing"] (sp2 (rP2 (rV (rV Xf)) (rV (rP2 Xf Xf))) Xf (oF Xf) Yv K))(ai:Fn P w K mg base 1 "bare_over_place" ["move"] (sp1 (rPL rMx) (oF Xf) XS K))(Z:Blt mg):Fn P w K mg base 3 "lay_back" ["drawing","move"] (sp2 (rP2 (rV (rV Xf)) (rV (rP2 Xf Xf))) (rPL rMx) (oF (rPL rMx)) JY K):=by
 refine Kl D ZQ (λvs H Q E h=>?_) (λf am A outer s H vs Q E hr h=>?_)
 ·obtain⟨ae,ag,aq,au,b,rfl,_⟩:=h;rfl
 obtain⟨ae,ag,aq,au,b,rfl,cU,cV,hm,q⟩:=h
 have hu:=hu8 hr
 have aA:=UO hr
 refine⟨_,(Xb (Xm (i:=2) ZQ.nd rfl (Or.inl rfl) (Xt ad hr (by decide) (Xa (pv 0) (Xa (X8 (XX K rfl) (pv 1) Xc (λ_ _=>rfl)) (Xa (X8 (XX K rfl) (pv 1) Xc (λ_ _=>rfl)) Xd)))))
  (Xb (Xm (i:=3) ZQ.nd rfl (Or.inl rfl) (Xt ad hr (by decide) (Xa (pv 0) (Xa (X8 (XX K rfl) (pv 1) Xc (λ_ _=>rfl)) (Xa (X8 (XX K rfl) (pv 1) Xc (λ_ _=>rfl)) Xd)))))
  (Xb (Xm (i:=4) ZQ.nd rfl (Or.inl rfl) (X5 FW (X8 (XX K rfl) (pv 3) Xc (λ_ _=>rfl)) (Yu X0 (X8 (XX K rfl) (pv 2) Xc (λ_ _=>rfl))) (Xq _)))
  (Xb (Xm (i:=5) ZQ.nd rfl (Or.inl rfl) (Xt af hr (by decide) (Xa (pv 0) (Xa (X8 (XX K rfl) (pv 2) Xc (λ_ _=>rfl)) Xd))))
  (Xb (Xp (XE (Xa Xu (Xa (X8 (XX K rfl) (pv 1) Xc (λ_ _=>rfl)) (Xa (Xt ai hr (by decide) (Xa (pv 1) Xd)) (Xa (X8 (XX K rfl) (pv 1) Xc (λ_ _=>rfl)) (Xa (X8 (XX K rfl) (pv 1) Xc (λ_ _=>rfl)) (Xa (X8 (XX K rfl) (pv 2) Xc (λ_ _=>rfl)) (Xa (X8 (XX K rfl) (pv 2) Xc (λ_ _=>rfl)) (Xa (pv 4) (Xa (pv 5) Xd)))))))))))
  Xe))))),?_⟩
 refine B3 (S:=(SC.add (SC.add SC.nil K (rP2 (rV (rV Xf)) (rV (rP2 Xf Xf))) ae aq) K (rPL rMx) ag au)) (σ:=[some ae,some ag,none,none,none,none]) 0 ?_ (SC.i (SC.i SC.t cU) cV) hm q rfl
 unfold JY
 exact(U9 (K:=K) (r:=(Gm (rP2 Xf Xf))) 2 (EvB.sh (Ev.toB (KE (X3 (r:=(rP2 (rV (rV Xf)) (rV (rP2 Xf Xf)))) 0 rfl (λ_ s=>s.l.r)) (Yc (Zz (X3 (r:=(rPL rMx)) 1 rfl (λ_ s=>s.r)) (ZC 1))) (Yc (Zz (X3 (r:=(rPL rMx)) 1 rfl (λ_ s=>s.r)) (ZC 2)))))) λa1 v2=>(U9 (K:=K) (r:=(Gm (rP2 Xf Xf))) 3 (EvB.sh (Ev.toB (KE (X3 (r:=(rP2 (rV (rV Xf)) (rV (rP2 Xf Xf)))) 0 rfl (λ_ s=>s.l.l.r)) (Yc (Zz (X3 (r:=(rPL rMx)) 1 rfl (λ_ s=>s.l.r)) (ZC 3))) (Yc (Zz (X3 (r:=(rPL rMx)) 1 rfl (λ_ s=>s.l.r)) (ZC 4)))))) λa11 v12=>(U9 (K:=K) (r:=XB) 4 (EvB.sh (KU (UU (Kh (X3 (r:=(Gm (rP2 Xf Xf))) 3 rfl (λ_ s=>s.r)))) (UQ (UU (Kh (X3 (r:=(Gm (rP2 Xf Xf))) 2 rfl (λ_ s=>s.l.r))))))) λa21 v22=>(U9 (K:=K) (r:=Xf) 5 (EvB.sh (Ev.toB (KB (X3 (r:=(rP2 (rV (rV Xf)) (rV (rP2 Xf Xf)))) 0 rfl (λ_ s=>s.l.l.l.l.r)) (UU (Kh (X3 (r:=(Gm (rP2 Xf Xf))) 2 rfl (λ_ s=>s.l.l.r))))))) λa28 fA=>(Xs (EvB.flat (Ev.toB (EvS.ev (YL (XF (FI (EvB.sh (Gu _))) (XF (ZB (EvB.sh (Yc (Zz (X3 (r:=(rPL rMx)) 1 rfl (λ_ s=>s.l.l.l.l.r)) (ZC 1))))) (XF (ZB (EvB.sh (Ev.toB (Hb (X3 (r:=(rPL rMx)) 1 rfl (λ_ s=>s.l.l.l.l.r)))))) (XF (ZB (EvB.sh (Yc (Zz (X3 (r:=(rPL rMx)) 1 rfl (λ_ s=>s.l.l.l.l.r)) (ZC 3))))) (XF (ZB (EvB.sh (Yc (Zz (X3 (r:=(rPL rMx)) 1 rfl (λ_ s=>s.l.l.l.l.r)) (ZC 4))))) (XF (ZB (EvB.sh (UU (Kh (X3 (r:=(Gm (rP2 Xf Xf))) 2 rfl (λ_ s=>s.l.l.l.r)))))) (XF (ZB (EvB.sh (Ir (Kh (X3 (r:=(Gm (rP2 Xf Xf))) 2 rfl (λ_ s=>s.l.l.l.r)))))) (XF (MV (GM (r:=XB) 4 rfl (λ_ s=>s.l.r))) (XF (ZB (GM (r:=Xf) 5 rfl (λ_ s=>s.r))) BD))))))))))))))))))
end
theorem Bd:FnScope ["drawing","move","word"] ["drawing","move"] (Xg DS):=⟨rfl,rfl,rfl,by decide+kernel,rfl,by decide+kernel,by decide+kernel⟩
abbrev Ku (m:((List (List Int))×(List (Int×Int)))->(List Mx)->Rs (List Mx)):Prop:=Fn P w K mg base 6 "undone" ["drawing","move"] (sp2 (rP2 (rV (rV Xf)) (rV (rP2 Xf Xf))) (rPL rMx) (oF (rPL rMx)) m K)
def Z5:{m // Pk λP w K mg base=>Def K mg "undone" DS ["drawing","move"]->YQ P w K mg base Xy->BO P w K mg base Qw->Js P w K mg base JD->HD P w K mg base JY->Blt mg->Ku P w K mg base m}:=⟨_, @λP w K mg base D ak bj aX bw Z=>go2 D Bd 1 0 rfl rfl λhr hu aA=>⟨_,(Xb (Yh (Xt ak hr (by decide) (Xa (pv 0) (Xa (pv 1) Xd))))
  (Xb (Xm (i:=2) Bd.nd rfl (Or.inl rfl) (Xk K (pv 1) Xc))
  (Xb (XG (Xl XY (pv 2) Xu (Xq _))
   (Xb (Xp (XE (Xa Xu (Xa (Xk K (pv 1) Xc) (Xa (Yu X0 (Xk K (pv 1) Xc)) Xd)))))
   Xe)
   Xe)
  (Xb (XG (Xl XY (pv 2) Xu (Xq _))
   (Xb (Xp (XE (Xa Xu (Xa (Xk K (pv 1) Xc) (Xa (Xk K (pv 1) Xc) Xd)))))
   Xe)
   Xe)
  (Xb (XG (Xl XY (pv 2) Xu (Xq _))
   (Xb (Xp (Xt bj hr (by decide) (Xa (pv 0) (Xa (pv 1) Xd))))
   Xe)
   Xe)
  (Xb (XG (Xl XY (pv 2) Xu (Xq _))
   (Xb (Xp (Xt aX hr (by decide) (Xa (pv 1) Xd)))
   Xe)
   Xe)
  (Xb (XG (Xl XY (pv 2) Xu (Xq _))
   (Xb (Xp (Xt bw hr (by decide) (Xa (pv 0) (Xa (pv 1) Xd))))
   Xe)
   Xe)
  (Xb (Xp (pv 1))
  Xe)))))))),λae ag aq au=>(Mc (K:=K) qB (Yp K (r:=VY) qs λa5 v6=>(XN (qt K) (Xs (EvB.flat (Ev.toB (EvS.ev (YL (r:=rMx) qa))))) (XN (qt K) (Xs (EvB.flat (Ev.toB (EvS.ev (YL (r:=rMx) qa))))) (XN (qt K) (Xs qN) (XN (qt K) (Xs qN) (XN (qt K) (Xs qN) (Xs qM))))))))⟩⟩
def YR:=Z5.1
theorem FR:FnScope ["_law_script","_law_place","_law_seed","_law_cell_here"] ["_law_script","_law_place"] (Xg L7):=⟨rfl,rfl,rfl,by decide+kernel,rfl,by decide+kernel,by decide+kernel⟩
abbrev Lo (m:(List Int)->Int->Rs Int):Prop:=Fn P w K mg base 1 "_law_cell" ["_law_script","_law_place"] (sp2 (rL Xf) Xf (oF Xf) m K)
def L4:{m // Pk λP w K mg base=>Def K mg "_law_cell" L7 ["_law_script","_law_place"]->Blt mg->Lo P w K mg base m}:=⟨_, @λP w K mg base D Z=>go2 D FR 2 0 rfl rfl λhr hu aA=>⟨_,(Xb (XG (Xl Kk (pv 1) (Xo (Xj K rfl) rfl Z.b_len boot_len (Xa (pv 0) Xd)) (Xq _))
   (Xb (Xp (XA K (pv 0) (pv 1)))
   Xe)
   Xe)
  (Xb (Xm (i:=2) FR.nd rfl (Or.inl rfl) Xc)
  (Xb (YX PassesOwn.never rfl (XT (K:=K) rfl (XI (YC K rfl) (pv 0) Yb (XM Xc))) (Xw (i:=3) FR.nd rfl (Or.inl rfl))
   (Xb (Xm (i:=2) FR.nd rfl (Or.inl rfl) (Xn Yo (Xn XC (Xn XC (Xn X6 (pv 2) Xc) (Xn Yo (pv 3) Xc)) Xc) Xc))
   Xe))
  (Xb (Xp (Xn Yo (Xn XC (pv 2) (Xn X6 Xc (pv 1))) Xc))
  Xe)))),λae ag aq au=>(XN (XD (K:=K) (Fy qB (NX qB))) (Xs (EvS.ev (EvB.sh (RO qB qB)))) (Yp K qS λa7 v8=>(CC K (λO (bi:Option V×V)=>[]) (λs bi=>[some ae,some ag,some bi.2,bi.1]) (λS (fC:Int) bi=>(SC.add S K Xf bi.2 fC)) (λ_=>tg1 3) ((none),v8) (a7) (ZT (Ev.sh (MM qB (qp K) (qp K)))) rfl rfl (λ_ s=>(SC.i s s.r)) (λeT bu a17 v18=>(Yp K qS λa19 v20=>(YU ((some v18),v20) (a19) rfl rfl))) λf6 ig=>(Xs qM))))⟩⟩
def E9:=L4.1
theorem Mg:FnScope ["_law_cell_here","_law_k","_law_one","_law_two"] ["_law_cell_here","_law_k"] (Xg P8):=⟨rfl,rfl,rfl,by decide+kernel,rfl,by decide+kernel,by decide+kernel⟩
abbrev Sn (m:Int->Int->Rs Int):Prop:=Fn P w K mg base 1 "_law_mix" ["_law_cell_here","_law_k"] (sp2 Xf Xf (oF Xf) m K)
def Ph:{m // Pk λP w K mg base=>Def K mg "_law_mix" P8 ["_law_cell_here","_law_k"]->Blt mg->Sn P w K mg base m}:=⟨_, @λP w K mg base D Z=>go2 D Mg 2 0 rfl rfl λhr hu aA=>⟨_,(Xb (Xm (i:=2) Mg.nd rfl (Or.inl rfl) (Xn Yo (Xn UX (Xn XC (Xn XC (Xn Yo (pv 0) Xc) (Xn X6 Xc (pv 1))) Xc) Xc) Xc))
  (Xb (Xm (i:=3) Mg.nd rfl (Or.inl rfl) (Xn Yo (Xn XC (Xn XC (Xn X6 (pv 2) Xc) (Xn X6 (Xn X6 Xc (pv 1)) (pv 1))) Xc) Xc))
  (Xb (Xp (Xn FH (pv 3) Xc))
  Xe))),λae ag aq au=>(Yp K qS λa1 v2=>(Yp K qS λa15 v16=>(Xs qM)))⟩⟩
def Ng:=Ph.1
theorem GI:FnScope ["_law_script","_law_place","_law_sizes","_law_cell_here","_law_left","_law_some","_law_k","_law_other"] ["_law_script","_law_place","_law_sizes"] (Xg RP):=⟨rfl,rfl,rfl,by decide+kernel,rfl,by decide+kernel,by decide+kernel⟩
abbrev HR (m:(List Int)->Int->(List Int)->Rs (List Int)):Prop:=Fn P w K mg base 2 "_law_row" ["_law_script","_law_place","_law_sizes"] (sp3 (rL Xf) Xf (rV Xf) (oL (oF Xf)) m K)
def R3:{m // Pk λP w K mg base=>Def K mg "_law_row" RP ["_law_script","_law_place","_law_sizes"]->Lo P w K mg base E9->Sn P w K mg base Ng->Blt mg->HR P w K mg base m}:=⟨_, @λP w K mg base D cy dv Z=>go3 D GI 5 1 rfl rfl λhr hu aA=>⟨_,(Xb (Xm (i:=3) GI.nd rfl (Or.inl rfl) (Xt cy hr (by decide) (Xa (pv 0) (Xa (pv 1) Xd))))
  (Xb (Xm (i:=4) GI.nd rfl (Or.inl rfl) (pv 3))
  (Xb (Xm (i:=5) GI.nd rfl (Or.inl rfl) (XL Xd))
  (Xb (YX PassesOwn.never rfl (Yr rfl Z.b_range (Xa (Xo (Xj K rfl) rfl Z.b_len boot_len (Xa (pv 2) Xd)) Xd)) (Xw (i:=6) GI.nd rfl (Or.inl rfl))
   (Xb (XG (Xl Kk (pv 3) (Xn UX Xc Xc) (Xq _))
    (Xb (Yh (VS PySem.F.plainAttrs_list PySem.F.slot_list_append PySem.F.type_list_append Yx (pv 5) (Xa (Xn Yo (Xt dv hr (by decide) (Xa (pv 3) (Xa (pv 6) Xd))) (XA K (pv 2) (pv 6))) Xd)))
    Xe)
    (Xb (XG (Xl BR (pv 4) Xc (Xq _))
     (Xb (Yh (VS PySem.F.plainAttrs_list PySem.F.slot_list_append PySem.F.type_list_append Yx (pv 5) (Xa (Xn Yo (pv 4) (XA K (pv 2) (pv 6))) Xd)))
     (Xb (Xm (i:=4) GI.nd rfl (Or.inl rfl) (Xn FH (pv 4) (XA K (pv 2) (pv 6))))
     Xe))
     (Xb (Xm (i:=7) GI.nd rfl (Or.inl rfl) (Xt cy hr (by decide) (Xa (pv 0) (Xa (Xn Yo (Xn XC (Xn XC (pv 1) Xc) (pv 6)) Xc) Xd))))
     (Xb (Yh (VS PySem.F.plainAttrs_list PySem.F.slot_list_append PySem.F.type_list_append Yx (pv 5) (Xa (Xn Yo (Xt dv hr (by decide) (Xa (pv 7) (Xa (pv 6) Xd))) (XA K (pv 2) (pv 6))) Xd)))
     Xe)))
    Xe))
   Xe))
  (Xb (Xp (pv 5))
  Xe))))),λae ag aS aq au b6=>(Yp K qS λa1 v2=>(Yp K qS λa6 v7=>(ZI K (o:=(oL (oF Xf))) 0 (G3 (o:=(oF Xf))) λa8 v9 C10=>(CC K (λO (bi:Option V×V×V×Option V×List XZ)=>[bi.2.2.2.2]) (λs bi=>[some ae,some ag,some aS,some v2,some bi.2.2.1,some bi.2.1,bi.1,bi.2.2.2.1]) (λS (fC:(List Int)×Int) bi=>(SC.add (SC.addO S K (oL (oF Xf)) bi.2.1 fC.1 bi.2.2.2.2) K Xf bi.2.2.1 fC.2)) (λ_=>tg1 6) ((none),v9,v7,(none),C10) (a8,a6) qw rfl rfl (λ_ s=>(SC.i (SC.i s s.r) s.l.r)) (λeT bu a17 v18=>(QO (λO (bA:V×V×Option V×List XZ)=>[bA.2.2.2]) (λs bA=>[some ae,some ag,some aS,some v2,some bA.2.1,some bA.1,some v18,bA.2.2.1]) (λS (gq:(List Int)×Int) bA=>(SC.add (SC.addO S K (oL (oF Xf)) bA.1 gq.1 bA.2.2.2) K Xf bA.2.1 gq.2)) (YW (qt K) (Md K qM λa35 C34=>(YU (bu.2.1,bu.2.2.1,(bu.2.2.2.1),C34) (a35,eT.2) rfl rfl)) (QO (λO (dG:V×Option V×V×List XZ)=>[dG.2.2.2]) (λs dG=>[some ae,some ag,some aS,some v2,some dG.1,some dG.2.2.1,some v18,dG.2.1]) (λS (g40:Int×(List Int)) dG=>(SC.addO (SC.add S K Xf dG.1 g40.1) K (oL (oF Xf)) dG.2.2.1 g40.2 dG.2.2.2)) (YW (qt K) (Md K qM λa47 C46=>(Yp K qS λa48 gr=>(YU (gr,(bu.2.2.2.1),bu.2.1,C46) (a48,a47) rfl rfl))) (Yp K qS λa54 v55=>(Md K qM λa74 C73=>(YU (bu.2.2.1,(some v55),bu.2.1,C73) (eT.2,a74) rfl rfl)))) λim dH=>(YU (dH.2.2.1,dH.1,(dH.2.1),dH.2.2.2) (im.2,im.1) rfl rfl))) λg78 x77=>(YU ((some v18),x77.1,x77.2.1,(x77.2.2.1),x77.2.2.2) (g78.1,g78.2) rfl rfl))) λg79 x80=>(Xs Um)))))⟩⟩
def Be:=R3.1
theorem Y0:FnScope ["_law_lows","_law_signs","_law_strands","_law_seen","_law_walks","_law_start","_law_walk","_law_at","_law_k"] ["_law_lows","_law_signs","_law_strands"] (Xg F6):=⟨rfl,rfl,rfl,by decide+kernel,rfl,by decide+kernel,by decide+kernel⟩
abbrev F5 (m:(List Int)->(List Int)->Int->Rs (List (List Int))):Prop:=Fn P w K mg base 1 "_law_traced" ["_law_lows","_law_signs","_law_strands"] (sp3 (rV Xf) (rV Xf) Xf (oL (oL (oF Xf))) m K)
def Dz:{m // Pk λP w K mg base=>Def K mg "_law_traced" F6 ["_law_lows","_law_signs","_law_strands"]->Blt mg->F5 P w K mg base m}:=⟨_, @λP w K mg base D Z=>go3 D Y0 6 3 rfl rfl λhr hu aA=>⟨_,(Xb (Xm (i:=3) Y0.nd rfl (Or.inl rfl) (Xn Mp (XL (Xa Zc Xd)) (pv 2)))
  (Xb (Xm (i:=4) Y0.nd rfl (Or.inl rfl) (XL Xd))
  (Xb (YX PassesOwn.never rfl (Yr rfl Z.b_range (Xa (pv 2) Xd)) (Xw (i:=5) Y0.nd rfl (Or.inl rfl))
   (Xb (XG (Q2 (Zg (XA K (pv 3) (pv 5))))
    (Xb (Xm (i:=6) Y0.nd rfl (Or.inl rfl) (XL Xd))
    (Xb (Xm (i:=7) Y0.nd rfl (Or.inl rfl) (pv 5))
    (Xb (E3 PassesOwn.never (Q2 (Zg (XA K (pv 3) (pv 7))))
     (Xb (Zf Zc (Qr (pv 3) (pv 7) YH))
     (Xb (YX PassesOwn.never rfl (Yr rfl Z.b_range (Xa (Xo (Xj K rfl) rfl Z.b_len boot_len (Xa (pv 0) Xd)) Xd)) (Xw (i:=8) Y0.nd rfl (Or.inl rfl))
      (Xb (XG (Xl XY (pv 7) (XA K (pv 0) (pv 8)) (Xq _))
       (Xb (Yh (VS PySem.F.plainAttrs_list PySem.F.slot_list_append PySem.F.type_list_append Yx (pv 6) (Xa (Xn X6 (Xn XC (pv 8) Xc) (XA K (pv 1) (pv 8))) Xd)))
       (Xb (Xm (i:=7) Y0.nd rfl (Or.inl rfl) (Xn XC (pv 7) Xc))
       Xe))
       (Xb (XG (Xl XY (pv 7) (Xn XC (XA K (pv 0) (pv 8)) Xc) (Xq _))
        (Xb (Yh (VS PySem.F.plainAttrs_list PySem.F.slot_list_append PySem.F.type_list_append Yx (pv 6) (Xa (Xn X6 (Yu X0 (Xn XC (pv 8) Xc)) (XA K (pv 1) (pv 8))) Xd)))
        (Xb (Xm (i:=7) Y0.nd rfl (Or.inl rfl) (Xn ZX (pv 7) Xc))
        Xe))
        Xe)
       Xe))
      Xe))
     Xe)))
    (Xb (Yh (VS PySem.F.plainAttrs_list PySem.F.slot_list_append PySem.F.type_list_append Yx (pv 4) (Xa (pv 6) Xd)))
    Xe))))
    Xe)
   Xe))
  (Xb (Xp (pv 4))
  Xe)))),λae ag aS aq au b6=>(ZI K 1 qN λa1 v2 C3=>(ZI K (o:=(oL (oL (oF Xf)))) 0 (G3 (o:=(oL (oF Xf)))) λa9 v10 C11=>(CC K (λO (bi:Option V×Option V×Option V×V×Option V×V×List XZ×List XZ)=>[bi.2.2.2.2.2.2.2,bi.2.2.2.2.2.2.1,[]]) (λs bi=>[some ae,some ag,some aS,some bi.2.2.2.1,some bi.2.2.2.2.2.1,bi.1,bi.2.1,bi.2.2.1,bi.2.2.2.2.1]) (λS (fC:(List Bool)×(List (List Int))) bi=>(SC.addO (SC.addO S K (oL (oF XB)) bi.2.2.2.1 fC.1 bi.2.2.2.2.2.2.1) K (oL (oL (oF Xf))) bi.2.2.2.2.2.1 fC.2 bi.2.2.2.2.2.2.2)) (λ_=>tg1 5) ((none),(none),(none),v2,(none),v10,C3,C11) (a1,a9) qw rfl rfl (λ_ s=>(SC.i (SC.i s s.l.r) s.r)) (λeT bu a17 v18=>(QO (λO (cL:Option V×Option V×V×Option V×V×List XZ×List XZ)=>[cL.2.2.2.2.2.2,cL.2.2.2.2.2.1,[]]) (λs cL=>[some ae,some ag,some aS,some cL.2.2.1,some cL.2.2.2.2.1,some v18,cL.1,cL.2.1,cL.2.2.2.1]) (λS (g24:(List Bool)×(List (List Int))) cL=>(SC.addO (SC.addO S K (oL (oF XB)) cL.2.2.1 g24.1 cL.2.2.2.2.2.1) K (oL (oL (oF Xf))) cL.2.2.2.2.1 g24.2 cL.2.2.2.2.2.2)) (YW (qt K) (ZI K (o:=(oL (oF Xf))) 2 (G3 (o:=(oF Xf))) λa25 v26 C27=>(Yp K qS λa28 fA=>(OI (λO (bV:V×Option V×V×V×List XZ×List XZ)=>[bu.2.2.2.2.2.2.2,bV.2.2.2.2.1,bV.2.2.2.2.2]) (λs bV=>[some ae,some ag,some aS,some bV.1,some bu.2.2.2.2.2.1,some v18,some bV.2.2.2.1,some bV.2.2.1,bV.2.1]) (λS (f6:(List Bool)×Int×(List Int)) bV=>(SC.addO (SC.add (SC.addO S K (oL (oF XB)) bV.1 f6.1 bV.2.2.2.2.1) K Xf bV.2.2.1 f6.2.1) K (oL (oF Xf)) bV.2.2.2.1 f6.2.2 bV.2.2.2.2.2)) (b6.natAbs+2) (bu.2.2.2.1,(bu.2.2.2.2.1),fA,v26,bu.2.2.2.2.2.2.1,C27) (eT.1,a28,a25) rfl rfl (λ_ s=>(SC.i (SC.i (SC.i s s.l.l.l.l.r) s.r) s.l.r)) (λg32 cY=>(qt K)) (λg32 cY=>(VW K qM (λ_=>qB) λa39 C40=>(CC K (λO (dF:Option V×V×V×List XZ)=>[bu.2.2.2.2.2.2.2,C40,dF.2.2.2]) (λs dF=>[some ae,some ag,some aS,some cY.1,some bu.2.2.2.2.2.1,some v18,some dF.2.2.1,some dF.2.1,dF.1]) (λS (g44:Int×(List Int)) dF=>(SC.addO (SC.add S K Xf dF.2.1 g44.1) K (oL (oF Xf)) dF.2.2.1 g44.2 dF.2.2.2)) (λ_=>tg1 8) ((cY.2.1),cY.2.2.1,cY.2.2.2.1,cY.2.2.2.2.2) (g32.2.1,g32.2.2) qw rfl rfl (λ_ s=>(SC.i (SC.i s s.l.l.r) s.l.r)) (λf7 fZ a47 io=>(QO (λO (eV:V×V×List XZ)=>[bu.2.2.2.2.2.2.2,C40,eV.2.2]) (λs eV=>[some ae,some ag,some aS,some cY.1,some bu.2.2.2.2.2.1,some v18,some eV.2.1,some eV.1,some io]) (λS (g55:Int×(List Int)) eV=>(SC.addO (SC.add S K Xf eV.1 g55.1) K (oL (oF Xf)) eV.2.1 g55.2 eV.2.2)) (YW (qt K) (Md K qM λa64 C63=>(Yp K qS λa65 v66=>(YU (v66,fZ.2.2.1,C63) (a65,a64) rfl rfl))) (QO (λO (cZ:V×V×List XZ)=>[bu.2.2.2.2.2.2.2,C40,cZ.2.2]) (λs cZ=>[some ae,some ag,some aS,some cY.1,some bu.2.2.2.2.2.1,some v18,some cZ.2.1,some cZ.1,some io]) (λS (g77:Int×(List Int)) cZ=>(SC.addO (SC.add S K Xf cZ.1 g77.1) K (oL (oF Xf)) cZ.2.1 g77.2 cZ.2.2)) (YW (qt K) (Md K qM λa87 C86=>(Yp K qS λa88 v89=>(YU (v89,fZ.2.2.1,C86) (a88,a87) rfl rfl))) (YU (fZ.2.1,fZ.2.2.1,fZ.2.2.2) (f7.1,f7.2) rfl rfl)) λg93 x92=>(YU (x92.1,x92.2.1,x92.2.2) (g93.1,g93.2) rfl rfl))) λg95 x94=>(YU ((some io),x94.1,x94.2.1,x94.2.2) (g95.1,g95.2) rfl rfl))) λg96 ip=>(YU (cY.1,(ip.1),ip.2.1,ip.2.2.1,C40,ip.2.2.2) (a39,g96.1,g96.2) rfl rfl)))) λg99 eM=>(Md K Um λa103 f8=>(YU ((some eM.2.2.2.1),(some eM.2.2.1),eM.1,(eM.2.1),bu.2.2.2.2.2.1,eM.2.2.2.2.1,f8) (g99.1,a103) rfl rfl))))) (YU ((bu.2.1),(bu.2.2.1),bu.2.2.2.1,(bu.2.2.2.2.1),bu.2.2.2.2.2.1,bu.2.2.2.2.2.2.1,bu.2.2.2.2.2.2.2) (eT.1,eT.2) rfl rfl)) λiq da=>(YU ((some v18),(da.1),(da.2.1),da.2.2.1,(da.2.2.2.1),da.2.2.2.2.1,da.2.2.2.2.2.1,da.2.2.2.2.2.2) (iq.1,iq.2) rfl rfl))) λg106 x107=>(Xs Um))))⟩⟩
def Kv:=Dz.1
theorem Yg:FnScope ["_law_walks","_law_signs","_law_some","_law_behind","_law_k","_law_one","_law_found","_law_sign","_law_far"] ["_law_walks","_law_signs","_law_some"] (Xg Zi):=⟨rfl,rfl,rfl,by decide+kernel,rfl,by decide+kernel,by decide+kernel⟩
abbrev Vz (m:(List (List Int))->(List Int)->(List Int)->Rs ((List (List Int))×(List (Int×Int)))):Prop:=Fn P w K mg base 1 "_law_turn_back" ["_law_walks","_law_signs","_law_some"] (Ai (oL (oL (oF Xf))) (rV Xf) (rV Xf) (oT2 (oL (oL (oF Xf))) (oL (oF (rP2 Xf Xf)))) m K)
def Vw:{m // Pk λP w K mg base=>Def K mg "_law_turn_back" Zi ["_law_walks","_law_signs","_law_some"]->Blt mg->Vz P w K mg base m}:=⟨_, @λP w K mg base D Z=>by
 refine Kl D Yg (λvs H Q E h=>?_) (λf am A outer s H vs Q E hr h=>?_)
 ·obtain⟨ae,ag,aS,aq,au,b6,b,rfl,_⟩:=h;rfl
 obtain⟨ae,ag,aS,aq,au,b6,b,rfl,gt,hw,cU,cV,f9,hm,q⟩:=h
 have hu:=hu8 hr
 have aA:=UO hr
 refine⟨_,(Xb (Xm (i:=3) Yg.nd rfl (Or.inl rfl) Na)
  (Xb (YX PassesOwn.never rfl (Yr rfl Z.b_range (Xa (Xo (Xj K rfl) rfl Z.b_len boot_len (Xa (pv 0) Xd)) Xd)) (Xw (i:=4) Yg.nd rfl (Or.inl rfl))
   (Xb (XG (Xl XY (X8 (X1 K rfl) (pv 2) (Xn XC Xc (pv 4)) (λ_ _=>rfl)) Xc (Xq _))
    (Xb (Zf (Cg K rfl (X8 (X1 K rfl) (pv 0) (pv 4) (λ_ _=>rfl)) (Yu X0 Xc)) (Qr (pv 0) (pv 4) YH))
    (Xb (YX PassesOwn.never rfl (XT (K:=K) rfl (X8 (X1 K rfl) (pv 0) (pv 4) (λ_ _=>rfl))) (Xw (i:=5) Yg.nd rfl (Or.inl rfl))
     (Xb (GF aA (pv 3) (pv 5) Zc rfl)
     Xe))
    Xe))
    Xe)
   Xe))
  (Xb (Xm (i:=6) Yg.nd rfl (Or.inl rfl) (XL Xd))
  (Xb (YX PassesOwn.never rfl (Yr rfl Z.b_range (Xa (Xo (Xj K rfl) rfl Z.b_len boot_len (Xa (pv 1) Xd)) Xd)) (Xw (i:=4) Yg.nd rfl (Or.inl rfl))
   (Xb (Xm (i:=7) Yg.nd rfl (Or.inl rfl) (X8 (X1 K rfl) (pv 1) (pv 4) (λ_ _=>rfl)))
   (Xb (XG (Xl FW (OV (IT aA (Xn XC (pv 4) Xc) (pv 3))) (OV (IT aA (Xn ZX (Yu X0 (pv 4)) Xc) (pv 3))) (Xq _))
    (Xb (Xm (i:=7) Yg.nd rfl (Or.inl rfl) (Yu X0 (pv 7)))
    Xe)
    Xe)
   (Xb (Yh (VS PySem.F.plainAttrs_list PySem.F.slot_list_append PySem.F.type_list_append Yx (pv 6) (Xa (XE (Xa (Xn XC (pv 4) Xc) (Xa (pv 7) Xd))) Xd)))
   Xe))))
  (Xb (Xm (i:=8) Yg.nd rfl (Or.inr rfl) (X8 (X1 K rfl) (XL (Xa Xc (Xa Xc (Xa (Xn UX Xc Xc) Xd)))) (X8 (X1 K rfl) (pv 2) (Yu X0 Xc) (λ_ _=>rfl)) (λ_ _=>rfl)))
  (Xb (Q6 0 (Xg Zi) ["_law_walks","_law_signs","_law_some","_law_behind","_law_k","_law_one","_law_found","_law_sign","_law_far"] ["_law_walk"] [(8,"_law_far")] rfl Yg.nd rfl rfl (XT (K:=K) rfl (pv 0)) (YB (by decide)) (λcl C s H ex E=>⟨Xw (i:=0) (show List.Nodup (["_law_walk","_law_far"]:List Str) by decide+kernel) rfl (Or.inl rfl),Y3,(M7 (sc:=(WP Mm (Xg Zi))) (N0:=["_law_walk","_law_far"]) (tns:=["_law_one"]) (caps:=[(1,"_law_far")]) rfl (XT (K:=K) rfl (pv 0)) (YB (by decide)) (λcl C s H ex E=>⟨Xw (i:=0) (show List.Nodup (["_law_one","_law_far"]:List Str) by decide+kernel) rfl (Or.inl rfl),Y3,(Xn X6 (pv 0) (pv 1))⟩))⟩))
  (Xb (Xp (XE (Xa (pv 0) (Xa (Zs (sc:=(Xg Zi)) (N0:=["_law_walks","_law_signs","_law_some","_law_behind","_law_k","_law_one","_law_found","_law_sign","_law_far"]) (tns:=["_law_one","_law_sign"]) (caps:=[(8,"_law_far")]) rfl (XT (K:=K) rfl (pv 6)) (Ra (by decide) (by decide)) (λcl C s H ex E=>⟨Rx K rfl rfl (Yk (Xw (i:=0) (show List.Nodup (["_law_one","_law_sign","_law_far"]:List Str) by decide+kernel) rfl (Or.inl rfl)) (Yk (Xw (i:=1) (show List.Nodup (["_law_one","_law_sign","_law_far"]:List Str) by decide+kernel) rfl (Or.inl rfl)) QC)),Y3,(XE (Xa (Xn X6 (pv 0) (pv 2)) (Xa (pv 1) Xd)))⟩)) Xd))))
  Xe))))))),?_⟩
 refine Wu (S:=(SC.add (SC.add (SC.addO SC.nil K (oL (oL (oF Xf))) ae aq gt) K (rV Xf) ag au) K (rV Xf) aS b6)) (σ:=[some ae,some ag,some aS,none,none,none,none,none,none]) 3 0 (by decide) ?_ hw (SC.i (SC.i (SC.i SC.t cU) cV) f9) hm q rfl
 exact(ZI K (o:=(oD XB)) 2 (Po (r:=XB)) λa1 v2 C3=>(CC K (λO (x6:Option V×V×Option V×V×List XZ×List XZ)=>[x6.2.2.2.2.1,[],x6.2.2.2.2.2]) (λs x6=>[some x6.2.1,some ag,some aS,some x6.2.2.2.1,x6.1,x6.2.2.1,none,none,none]) (λS (g7:(List (List Int))×(List (Int×Bool))) x6=>(SC.addO (SC.addO S K (oL (oL (oF Xf))) x6.2.1 g7.1 x6.2.2.2.2.1) K (oD XB) x6.2.2.2.1 g7.2 x6.2.2.2.2.2)) (λ_=>tg1 4) ((none),ae,(none),v2,gt,C3) (aq,a1) qw rfl rfl (λ_ s=>(SC.i (SC.i s s.l.l.l.r) s.r)) (λg8 x9 a10 dI=>(QO (λO (cX:V×Option V×V×List XZ×List XZ)=>[cX.2.2.2.1,[],cX.2.2.2.2]) (λs cX=>[some cX.1,some ag,some aS,some cX.2.2.1,some dI,cX.2.1,none,none,none]) (λS (g20:(List (List Int))×(List (Int×Bool))) cX=>(SC.addO (SC.addO S K (oL (oL (oF Xf))) cX.1 g20.1 cX.2.2.2.1) K (oD XB) cX.2.2.1 g20.2 cX.2.2.2.2)) (YW (qt K) (VW K (Cn ql qB) (λ_=>qB) λa28 C29=>(SY K (λO (bV:Option V×V×List XZ)=>[C29,[],bV.2.2]) (λs bV=>[some x9.2.1,some ag,some aS,some bV.2.1,some dI,bV.1,none,none,none]) (λS (f6:(List (Int×Bool))) bV=>(SC.addO S K (oD XB) bV.2.1 f6 bV.2.2)) (r:=Xf) qB (λ_=>tg1 5) ((x9.2.2.1),x9.2.2.2.1,x9.2.2.2.2.2) (g8.2) (λ_=>rfl) rfl rfl (λ_ s=>(SC.i s s.l.l.r)) (λg32 cY a34 v35=>(Mj K qS qB λa38 C39=>(YU ((some v35),cY.2.1,C39) (a38) rfl rfl))) λg40 fW=>(YU (x9.2.1,(fW.1),fW.2.1,C29,fW.2.2) (a28,g40) rfl rfl))) (YU (x9.2.1,(x9.2.2.1),x9.2.2.2.1,x9.2.2.2.2.1,x9.2.2.2.2.2) (g8.1,g8.2) rfl rfl)) λf7 dt=>(YU ((some dI),dt.1,(dt.2.1),dt.2.2.1,dt.2.2.2.1,dt.2.2.2.2) (f7.1,f7.2) rfl rfl))) λg46 b7=>(ZI K (o:=(oL (oF (rP2 Xf Xf)))) 1 (G3 (o:=(oF (rP2 Xf Xf)))) λa48 gr C50=>(CC K (λO (eU:Option V×Option V×V×List XZ)=>[b7.2.2.2.2.1,eU.2.2.2,b7.2.2.2.2.2]) (λs eU=>[some b7.2.1,some ag,some aS,some b7.2.2.2.1,eU.1,b7.2.2.1,some eU.2.2.1,eU.2.1,none]) (λS (g54:(List (Int×Int))) eU=>(SC.addO S K (oL (oF (rP2 Xf Xf))) eU.2.2.1 g54 eU.2.2.2)) (λ_=>tg1 4) ((b7.1),(none),gr,C50) (a48) qw rfl rfl (λ_ s=>(SC.i s s.r)) (λg55 gp a57 v58=>(Yp K qS λa59 v60=>(QO (λO (dH:V)=>[b7.2.2.2.2.1,gp.2.2.2,b7.2.2.2.2.2]) (λs dH=>[some b7.2.1,some ag,some aS,some b7.2.2.2.1,some v58,b7.2.2.1,some gp.2.2.1,some dH,none]) (λS (im:Int) dH=>(SC.add S K Xf dH im)) (YW (XD (K:=K) (KU (B8 qB qB) (B8 qB qB))) (Yp K qS λa77 v78=>(YU (v78) (a77) rfl rfl)) (YU (v60) (a59) rfl rfl)) λg81 x80=>(Md K qM λa88 C87=>(YU ((some v58),(some x80),gp.2.2.1,C87) (a88) rfl rfl))))) λg89 x90=>(Yp K qS λa91 v92=>(ZI K (o:=(oL (oL (oF Xf)))) 0 (Mf (K:=K) (o1:=(oL (oL (oF Xf)))) 0 rfl (λ_ s=>s.l.l.l.l.r) (Y5 (λ_=>tg1 0) qw (λir a111 v112=>(Y5 (λ_=>tg1 0) qw (λC114 a115 v116=>qM))))) λa107 v108 C109=>(Xs (Zo Um λ_=>(Mf (K:=K) (o1:=(oL (oF (rP2 Xf Xf)))) 2 rfl (λ_ s=>s.l.l.r) (Y5 (λ_=>tg2 0 1) qw (λC120 a121 v122=>qM)))))))))))⟩
def QM:=Vw.1
theorem Y4:FnScope ["_law_script","_law_place","_law_sizes","_law_some","_law_signs","_law_lows","_law_left","_law_strands","_law_k","_law_walks","_law_at","_law_passage"] ["_law_script","_law_place"] (Xg FM):=⟨rfl,rfl,rfl,by decide+kernel,rfl,by decide+kernel,by decide+kernel⟩
abbrev BF (m:(List Int)->Int->Rs ((List (List Int))×(List (Int×Int)))):Prop:=Fn P w K mg base 3 "_law_begun" ["_law_script","_law_place"] (sp2 (rL Xf) Xf (oT2 (oL (oL (oF Xf))) (oL (oF (rP2 Xf Xf)))) m K)
def Ed:{m // Pk λP w K mg base=>Def K mg "_law_begun" FM ["_law_script","_law_place"]->HR P w K mg base Be->F5 P w K mg base Kv->Vz P w K mg base QM->Blt mg->BF P w K mg base m}:=⟨_, @λP w K mg base D aQ bW bm Z=>go2 D Y4 10 4 rfl rfl λhr hu aA=>⟨_,(Xb (Xm (i:=2) Y4.nd rfl (Or.inl rfl) (Xn Z2 (Xn Z2 (XL (Xa Xc (Xa Xc (Xa Xc (Xa Xc Xd))))) (Xn Mp (XL (Xa Xc Xd)) Xc)) (Xn Mp (XL (Xa Xc (Xa Xc (Xa Xc (Xa Xc (Xa Xc (Xa Xc Xd))))))) Xc)))
  (Xb (Xm (i:=3) Y4.nd rfl (Or.inl rfl) (Xt aQ hr (by decide) (Xa (pv 0) (Xa (pv 1) (Xa (Xn Z2 (pv 2) (XL (Xa Xc Xd))) Xd)))))
  (Xb (L8 (i:=4) (j:=5) (k:=6) rfl Y4.nd rfl rfl rfl (by decide) (by decide) (by decide) rfl rfl rfl (Xa (XL Xd) (Xa (XL Xd) (Xa (XL Xd) Xd X9) X9) X9) rfl)
  (Xb (Xm (i:=7) Y4.nd rfl (Or.inl rfl) (Xn XC Xc (XA K (pv 3) Xc)))
  (Xb (YX PassesOwn.never rfl (Yr rfl Z.b_range (Xa (XA K (pv 3) Xc) Xd)) (Xw (i:=8) Y4.nd rfl (Or.inl rfl))
   (Xb (Yh (VS PySem.F.plainAttrs_list PySem.F.slot_list_append PySem.F.type_list_append Yx (pv 5) (Xa (Xn Yo (XA K (pv 3) (Xn XC (Xn X6 Xc (pv 8)) Xc)) (Xn ZX (pv 7) Xc)) Xd)))
   (Xb (Yh (VS PySem.F.plainAttrs_list PySem.F.slot_list_append PySem.F.type_list_append Yx (pv 4) (Xa (Xn ZX (Xn X6 Xc (XA K (pv 3) (Xn XC (Xn X6 Xc (pv 8)) Xc))) Xc) Xd)))
   (Xb (Yh (VS PySem.F.plainAttrs_list PySem.F.slot_list_extend PySem.F.type_list_extend MA (pv 6) (Xa (XL (Xa (Xn XC (pv 8) Xc) (Xa (Xn ZX (Yu X0 (pv 8)) Xc) Xd))) Xd X9)))
   Xe))))
  (Xb (XG (PW.pt (ED (Xl BR (XA K (pv 3) Xc) Xc (Xq _)) (Dw (Xl BR (pv 7) Xc (Xq _)))))
   (Xb (Zf (XI (YC K rfl) (XL (Xa Xc (Xa Xc (Xa Xc Xd)))) Yb (XM (Xo (Xj K rfl) rfl Z.b_len boot_len (Xa (pv 5) Xd)))) (W0 (pv 5) Yb (XM Xc)))
   Xe)
   Xe)
  (Xb (Xm (i:=9) Y4.nd rfl (Or.inl rfl) (Xt bW hr (by decide) (Xa (pv 5) (Xa (pv 4) (Xa (pv 7) Xd)))))
  (Xb (XG (Xl XY (XA K (pv 3) Xc) Xc (Xq _))
   (Xb (Q6 9 (Xg FM) ["_law_script","_law_place","_law_sizes","_law_some","_law_signs","_law_lows","_law_left","_law_strands","_law_k","_law_walks","_law_at","_law_passage"] ["_law_k"] [] rfl Y4.nd rfl rfl (Yr rfl Z.b_range (Xa (pv 7) Xd)) (YB (by decide)) (λcl C s H ex E=>⟨Xw (i:=0) (show List.Nodup (["_law_k"]:List Str) by decide+kernel) rfl (Or.inl rfl),Y3,(XL Xd)⟩))
   (Xb (YX PassesOwn.never rfl (Yr rfl Z.b_range (Xa (Xn X6 Xc (XA K (pv 3) Xc)) Xd)) (Xw (i:=8) Y4.nd rfl (Or.inl rfl))
    (Xb (Xm (i:=10) Y4.nd rfl (Or.inl rfl) (Xn XC (Xn XC (Xn X6 Xc (Xn FH (pv 8) Xc)) (Xn Yo (pv 8) Xc)) Xc))
    (Xb (Xm (i:=11) Y4.nd rfl (Or.inl rfl) (VS PySem.F.plainAttrs_list PySem.F.slot_list_pop PySem.F.type_list_pop Nl (pv 6) (Xa (Xn Yo (XA K (pv 3) (pv 10)) (Xo (Xj K rfl) rfl Z.b_len boot_len (Xa (pv 6) Xd))) Xd)))
    (Xb (Yh (VS PySem.F.plainAttrs_list PySem.F.slot_list_append PySem.F.type_list_append Yx (XA K (pv 9) (Xn Yo (XA K (pv 3) (Xn XC (pv 10) Xc)) (pv 7))) (Xa (pv 11) Xd)))
    Xe))))
   Xe))
   Xe)
  (Xb (Xp (Xt bm hr (by decide) (Xa (pv 9) (Xa (pv 4) (Xa (pv 3) Xd)))))
  Xe))))))))),λae ag aq au=>(Yp K qS λa1 v2=>(Yp K qS λa36 v37=>(Oe (K:=K) (o1:=(oF Xf)) (o2:=(oF Xf)) (o3:=(oF Xf)) 4 5 6 1 0 2 (Nat.le_of_ble_eq_true rfl) (Nat.le_of_ble_eq_true rfl) (Nat.le_of_ble_eq_true rfl) λv47 io gr C50 C51 C52=>(Yp K qS λa53 v54=>(CC K (λO (cH:Option V×V×V×V×List XZ×List XZ×List XZ)=>[cH.2.2.2.2.1,cH.2.2.2.2.2.1,cH.2.2.2.2.2.2,[]]) (λs cH=>[some ae,some ag,some v2,some v37,some cH.2.2.1,some cH.2.1,some cH.2.2.2.1,some v54,cH.1,none,none,none]) (λS (g63:(List Int)×(List Int)×(List Int)) cH=>(SC.addO (SC.addO (SC.addO S K (oL (oF Xf)) cH.2.1 g63.1 cH.2.2.2.2.1) K (oL (oF Xf)) cH.2.2.1 g63.2.1 cH.2.2.2.2.2.1) K (oL (oF Xf)) cH.2.2.2.1 g63.2.2 cH.2.2.2.2.2.2)) (λ_=>tg1 8) ((none),io,v47,gr,C51,C50,C52) (([]:(List Int)),([]:(List Int)),([]:(List Int))) qw rfl rfl (λ_ s=>(SC.i (SC.i (SC.i s s.l.l.r) s.l.l.l.r) s.l.r)) (λg64 ik a66 v67=>(Md K qM λa80 C79=>(Md K qM λa93 C92=>(Aw K qN λa106 C105=>(YU ((some v67),ik.2.1,ik.2.2.1,ik.2.2.2.1,C79,C92,C105) (a80,a93,a106) rfl rfl))))) λiu bn=>(QO (λO (dJ:V×List XZ)=>[dJ.2,bn.2.2.2.2.2.1,bn.2.2.2.2.2.2,[]]) (λs dJ=>[some ae,some ag,some v2,some v37,some bn.2.2.1,some dJ.1,some bn.2.2.2.1,some v54,bn.1,none,none,none]) (λS (iy:(List Int)) dJ=>(SC.addO S K (oL (oF Xf)) dJ.1 iy dJ.2)) (YW (qt K) (NY (K:=K) 5 0 rfl rfl (λ_ s=>s.l.l.r) qN (λ_=>(qp K)) (λ_=>(qp K)) λa131 C132=>(YU (bn.2.1,C132) (a131) rfl rfl)) (YU (bn.2.1,bn.2.2.2.2.1) (iu.1) rfl rfl)) λg137 x136=>(ZI K 3 qN λa138 v139 C140=>(QO (λO (cg:V×Option V×Option V×Option V×Option V×List XZ)=>[x136.2,bn.2.2.2.2.2.1,[],cg.2.2.2.2.2]) (λs cg=>[some ae,some ag,some v2,some v37,some bn.2.2.1,some x136.1,cg.2.2.2.2.1,some v54,cg.2.1,some cg.1,cg.2.2.1,cg.2.2.2.1]) (λS (g151:(List (List Int))) cg=>(SC.addO S K (oL (oL (oF Xf))) cg.1 g151 cg.2.2.2.2.2)) (YW (qt K) (ZI K (o:=(oL (oL (oF Xf)))) 3 (Y5 (λ_=>tg1 0) qw (λC156 a157 iz=>(G3 (o:=(oF Xf))))) λa152 v153 C154=>(CC K (λO (bE:Option V×Option V×Option V×V×V×List XZ×List XZ)=>[x136.2,bn.2.2.2.2.2.1,bE.2.2.2.2.2.1,bE.2.2.2.2.2.2]) (λs bE=>[some ae,some ag,some v2,some v37,some bn.2.2.1,some x136.1,some bE.2.2.2.1,some v54,bE.1,some bE.2.2.2.2.1,bE.2.1,bE.2.2.1]) (λS (iA:(List Int)×(List (List Int))) bE=>(SC.addO (SC.addO S K (oL (oF Xf)) bE.2.2.2.1 iA.1 bE.2.2.2.2.2.1) K (oL (oL (oF Xf))) bE.2.2.2.2.1 iA.2 bE.2.2.2.2.2.2)) (λ_=>tg1 8) ((bn.1),(none),(none),bn.2.2.2.1,v153,bn.2.2.2.2.2.2,C154) (iu.2.2,a152) qw rfl rfl (λ_ s=>(SC.i (SC.i s s.l.l.l.r) s.r)) (λg167 iB a169 v170=>(Yp K qS λa171 v172=>(Ay K qB λa188 a189 v190 C191=>(Od (K:=K) (r:=Xf) 9 3 rfl rfl (λ_ s=>s.l.l.l.l.r) qS qB λa203 C204=>(YU ((some v170),(some v172),(some v190),iB.2.2.2.1,iB.2.2.2.2.1,C191,C204) (a189,a203) rfl rfl))))) λg205 dL=>(L9 2 (YU (dL.2.2.2.2.1,(dL.1),(dL.2.1),(dL.2.2.1),(some dL.2.2.2.1),dL.2.2.2.2.2.2) (g205.2) rfl rfl)))) (L9 2 (YU (v139,(bn.1),(none),(none),(some bn.2.2.2.1),C140) (a138) rfl rfl))) λg209 x208=>(O2 (K:=K) (o:=(oL (oF Xf))) 1 rfl (λ_ s=>s.l.l.l.l.r) (N9 (K:=K) (q:=(oL (oL (oF Xf)))) 9 3 rfl rfl (λ_ s=>s.l.r) qS qS))))))))))⟩⟩
def DZ:=Ed.1
theorem Kx:FnScope ["_law_walks","_law_found","_law_at","_law_k"] ["_law_walks"] (Xg BV):=⟨rfl,rfl,rfl,by decide+kernel,rfl,by decide+kernel,by decide+kernel⟩
abbrev Ep (m:(List (List Int))->Rs (List (Int×Int×Int×Int))):Prop:=Fn P w K mg base 1 "_law_pairs" ["_law_walks"] (sp1 (rV (rV Xf)) (oL (oF (rP4 Xf Xf Xf Xf))) m K)
def Bz:{m // Pk λP w K mg base=>Def K mg "_law_pairs" BV ["_law_walks"]->Blt mg->Ep P w K mg base m}:=⟨_, @λP w K mg base D Z=>go1 D Kx 3 1 rfl rfl λhr hu aA=>⟨_,(Xb (Xm (i:=1) Kx.nd rfl (Or.inl rfl) (XL Xd))
  (Xb (YX PassesOwn.never rfl (Yr rfl Z.b_range (Xa (Xo (Xj K rfl) rfl Z.b_len boot_len (Xa (pv 0) Xd)) Xd)) (Xw (i:=2) Kx.nd rfl (Or.inl rfl))
   (Xb (YX PassesOwn.never rfl (Yr rfl Z.b_range (Xa (Xn ZX (Xo (Xj K rfl) rfl Z.b_len boot_len (Xa (XA K (pv 0) (pv 2)) Xd)) Xc) Xd)) (Xw (i:=3) Kx.nd rfl (Or.inl rfl))
    (Xb (Yh (VS PySem.F.plainAttrs_list PySem.F.slot_list_append PySem.F.type_list_append Yx (pv 1) (Xa (XE (Xa (pv 2) (Xa (pv 3) (Xa (XA K (XA K (pv 0) (pv 2)) (pv 3)) (Xa (XA K (XA K (pv 0) (pv 2)) (Xn XC (pv 3) Xc)) Xd))))) Xd)))
    Xe))
   Xe))
  (Xb (Xp (pv 1))
  Xe))),λae aq=>(ZI K (o:=(oL (oF (rP4 Xf Xf Xf Xf)))) 0 (G3 (o:=(oF (rP4 Xf Xf Xf Xf)))) λa1 v2 C3=>(CC K (λO (x6:Option V×Option V×V×List XZ)=>[x6.2.2.2]) (λs x6=>[some ae,some x6.2.2.1,x6.1,x6.2.1]) (λS (g7:(List (Int×Int×Int×Int))) x6=>(SC.addO S K (oL (oF (rP4 Xf Xf Xf Xf))) x6.2.2.1 g7 x6.2.2.2)) (λ_=>tg1 2) ((none),(none),v2,C3) (a1) qw rfl rfl (λ_ s=>(SC.i s s.r)) (λg8 x9 a10 dI=>(CC K (λO (eL:Option V×V×List XZ)=>[eL.2.2]) (λs eL=>[some ae,some eL.2.1,some dI,eL.1]) (λS (g19:(List (Int×Int×Int×Int))) eL=>(SC.addO S K (oL (oF (rP4 Xf Xf Xf Xf))) eL.2.1 g19 eL.2.2)) (λ_=>tg1 3) ((x9.2.1),x9.2.2.1,x9.2.2.2) (g8) qw rfl rfl (λ_ s=>(SC.i s s.l.r)) (λg20 x21 a22 v23=>(Md K (EvS.ev (NK qS qS qS qS)) λa40 C39=>(YU ((some v23),x21.2.1,C39) (a40) rfl rfl))) λg41 fX=>(YU ((some dI),(fX.1),fX.2.1,fX.2.2) (g41) rfl rfl))) λg44 ii=>(Xs Um)))⟩⟩
def FV:=Bz.1
theorem YV:FnScope ["_law_signs","_law_top","_law_mid","_law_low","_law_a","_law_c","_law_b","_law_p","_law_q","_law_r"] ["_law_signs","_law_top","_law_mid","_law_low"] (Xg Ul):=⟨rfl,rfl,rfl,by decide+kernel,rfl,by decide+kernel,by decide+kernel⟩
abbrev UA (m:(List (Int×Int))->(Int×Int×Int×Int)->(Int×Int×Int×Int)->(Int×Int×Int×Int)->Rs Bool):Prop:=Fn P w K mg base 1 "_law_straight" ["_law_signs","_law_top","_law_mid","_law_low"] (sp4 (rD Xf) (rP4 Xf Xf Xf Xf) (rP4 Xf Xf Xf Xf) (rP4 Xf Xf Xf Xf) (oF XB) m K)
def UN:{m // Pk λP w K mg base=>Def K mg "_law_straight" Ul ["_law_signs","_law_top","_law_mid","_law_low"]->Blt mg->UA P w K mg base m}:=⟨_, @λP w K mg base D Z=>go4 D YV 6 0 rfl rfl λhr hu aA=>⟨_,(Xb (Xm (i:=4) YV.nd rfl (Or.inl rfl) (Yu X0 (Xo (IB rfl) rfl Z.b_min PyProof.Rows.boot_min (Xa (Xk K (pv 2) Xc) (Xa (Xk K (pv 2) Xc) Xd)))))
  (Xb (Xm (i:=5) YV.nd rfl (Or.inl rfl) (Xo (IE rfl) rfl Z.b_max PyProof.Rows.boot_max (Xa (Xk K (pv 2) Xc) (Xa (Xk K (pv 2) Xc) Xd))))
  (Xb (XG (PW.pt (Ve (Xl Q7 (pv 4) (XI (Y6 K rfl) (pv 1) (XM Xc) Yb) rfl) (Q0 (Xl Gp (pv 5) (XI (Y6 K rfl) (pv 1) (XM Xc) Yb) rfl))))
   (Xb (Xp Zc)
   Xe)
   Xe)
  (Xb (Xm (i:=6) YV.nd rfl (Or.inl rfl) (Xn ZX (Xn XC (Xk K (pv 1) Xc) (Xk K (pv 1) Xc)) (pv 4)))
  (Xb (XG (Xl (J9 K rfl (Ib eq_int) (Km (by decide) hu)) (Xo (Zp K rfl) rfl Z.b_sorted PyProof.Rows.boot_sorted (Xa (XL (Xa (Yu X0 (Xk K (pv 3) Xc)) (Xa (Yu X0 (Xk K (pv 3) Xc)) Xd))) Xd X9)) (Xo (Zp K rfl) rfl Z.b_sorted PyProof.Rows.boot_sorted (Xa (XL (Xa (pv 6) (Xa (pv 5) Xd))) Xd X9)) (Xq _))
   (Xb (Xp Zc)
   Xe)
   Xe)
  (Xb (Xm (i:=7) YV.nd rfl (Or.inl rfl) (Xn ZX (Xn X6 Xc (XJ JJ rfl Z.b_int PyProof.Rows.boot_int (Xa (X5 XY (Xk K (pv 1) Xc) (pv 4) (Xq _)) Xd))) Xc))
  (Xb (Xm (i:=8) YV.nd rfl (Or.inl rfl) (Xn ZX (Xn X6 Xc (XJ JJ rfl Z.b_int PyProof.Rows.boot_int (Xa (X5 XY (Xk K (pv 2) Xc) (Yu X0 (pv 4)) (Xq _)) Xd))) Xc))
  (Xb (Xm (i:=9) YV.nd rfl (Or.inl rfl) (Xn ZX (Xn X6 Xc (XJ JJ rfl Z.b_int PyProof.Rows.boot_int (Xa (X5 XY (Xk K (pv 3) Xc) (Yu X0 (pv 6)) (Xq _)) Xd))) Xc))
  (Xb (Xp (Jp (X5 XY (Xn X6 (pv 7) (K0 aA (pv 0) (pv 6) (λ_ _=>rfl))) (Xn X6 (pv 8) (K0 aA (pv 0) (pv 5) (λ_ _=>rfl))) (Xq _)) (J4 (X5 XY (Xn X6 (pv 8) (K0 aA (pv 0) (pv 4) (λ_ _=>rfl))) (Xn X6 (pv 9) (K0 aA (pv 0) (pv 6) (λ_ _=>rfl))) (Xq _)))))
  Xe))))))))),λae ag aS dS aq au b6 ff=>(Yp K (r:=Xf) (EvB.sh (UQ (Ix (Vb qB) (DC qB)))) λa1 v2=>(Yp K (r:=Xf) (EvB.sh (LR (Vb qB) (DC qB))) λa8 v9=>(XN (Z1 (XD (K:=K) (Da qB (Yz (QE qB) (qp K) (qp K)))) (XD (K:=K) (K9 qB (Yz (QE qB) (qp K) (qp K))))) (Xs qM) (Yp K (r:=Xf) (EvB.sh (Gk (LV (Vb qB) (DC qB)) qB)) λa29 v30=>(XN (XD (K:=K) (GJ (Ev.toB (KJ (Ev.ls (UZ (XF (EvB.sh (UQ (Vb qB))) (XF (EvB.sh (UQ (DC qB))) qa)))))) (Ev.toB (KJ ql)))) (Xs qM) (Yp K (r:=Xf) (EvB.sh (Gk (JC qB (Kr (VT (Vb qB) qB))) qB)) λa58 v59=>(Yp K (r:=Xf) (EvB.sh (Gk (JC qB (Kr (VT (Vb qB) qB))) qB)) λa68 v69=>(Yp K (r:=Xf) (EvB.sh (Gk (JC qB (Kr (VT (Vb qB) qB))) qB)) λa79 v80=>(Xs (EvS.ev (EvB.sh (ZJ (VT (JC qB (Kz qB qB)) (JC qB (Kz qB qB))) (VT (JC qB (Kz qB qB)) (JC qB (Kz qB qB)))))))))))))))⟩⟩
def J0:=UN.1
theorem ZL:FnScope ["_law_drawing","_law_signs","_law_pairs_here","_law_found","_law_top","_law_mid","_law_low"] ["_law_drawing"] (Xg JR):=⟨rfl,rfl,rfl,by decide+kernel,rfl,by decide+kernel,by decide+kernel⟩
abbrev DM (m:((List (List Int))×(List (Int×Int)))->Rs (List (List Mx))):Prop:=Fn P w K mg base 2 "_law_passes" ["_law_drawing"] (sp1 (rP2 (rV (rV Xf)) (rV (rP2 Xf Xf))) (oL (oF (rPL rMx))) m K)
def Dp:{m // Pk λP w K mg base=>Def K mg "_law_passes" JR ["_law_drawing"]->Ep P w K mg base FV->UA P w K mg base J0->Blt mg->DM P w K mg base m}:=⟨_, @λP w K mg base D cz bx Z=>go1 D ZL 6 1 rfl rfl λhr hu aA=>⟨_,(Xb (Xm (i:=1) ZL.nd rfl (Or.inl rfl) (XJ (Z3 K rfl rfl) rfl Z.b_dict PyProof.Rows.boot_dict (Xa (Xk K (pv 0) Xc) Xd)))
  (Xb (Xm (i:=2) ZL.nd rfl (Or.inl rfl) (Xt cz hr (by decide) (Xa (Xk K (pv 0) Xc) Xd)))
  (Xb (Xm (i:=3) ZL.nd rfl (Or.inl rfl) (XL Xd))
  (Xb (YX PassesOwn.never rfl (XT (K:=K) rfl (Zs (sc:=(Xg JR)) (N0:=["_law_drawing","_law_signs","_law_pairs_here","_law_found","_law_top","_law_mid","_law_low"]) (tns:=["_law_one"]) (caps:=[]) rfl (XT (K:=K) rfl (pv 2)) (YB (by decide)) (λcl C s H ex E=>⟨Xw (i:=0) (show List.Nodup (["_law_one"]:List Str) by decide+kernel) rfl (Or.inl rfl),(KW (Xl BR (Xo (JI K rfl rfl) rfl Z.b_min PyProof.Rows.boot_min (Xa (XI (Y6 K rfl) (pv 0) (XM Xc) Yb) Xd)) Xc (Xq _))),(pv 0)⟩))) (Xw (i:=4) ZL.nd rfl (Or.inl rfl))
   (Xb (YX PassesOwn.never rfl (XT (K:=K) rfl (Zs (sc:=(Xg JR)) (N0:=["_law_drawing","_law_signs","_law_pairs_here","_law_found","_law_top","_law_mid","_law_low"]) (tns:=["_law_one"]) (caps:=[]) rfl (XT (K:=K) rfl (pv 2)) (YB (by decide)) (λcl C s H ex E=>⟨Xw (i:=0) (show List.Nodup (["_law_one"]:List Str) by decide+kernel) rfl (Or.inl rfl),(KW (EX Kk Kk (Xo (JI K rfl rfl) rfl Z.b_min PyProof.Rows.boot_min (Xa (XI (Y6 K rfl) (pv 0) (XM Xc) Yb) Xd)) Xc (Xo (Ue K rfl rfl) rfl Z.b_max PyProof.Rows.boot_max (Xa (XI (Y6 K rfl) (pv 0) (XM Xc) Yb) Xd)))),(pv 0)⟩))) (Xw (i:=5) ZL.nd rfl (Or.inl rfl))
    (Xb (YX PassesOwn.never rfl (XT (K:=K) rfl (Zs (sc:=(Xg JR)) (N0:=["_law_drawing","_law_signs","_law_pairs_here","_law_found","_law_top","_law_mid","_law_low"]) (tns:=["_law_one"]) (caps:=[]) rfl (XT (K:=K) rfl (pv 2)) (YB (by decide)) (λcl C s H ex E=>⟨Xw (i:=0) (show List.Nodup (["_law_one"]:List Str) by decide+kernel) rfl (Or.inl rfl),(KW (Xl Kk (Xo (Ue K rfl rfl) rfl Z.b_max PyProof.Rows.boot_max (Xa (XI (Y6 K rfl) (pv 0) (XM Xc) Yb) Xd)) Xc (Xq _))),(pv 0)⟩))) (Xw (i:=6) ZL.nd rfl (Or.inl rfl))
     (Xb (XG (Zg (Xt bx hr (by decide) (Xa (pv 1) (Xa (pv 4) (Xa (pv 5) (Xa (pv 6) Xd))))))
      (Xb (Yh (VS PySem.F.plainAttrs_list PySem.F.slot_list_append PySem.F.type_list_append Yx (pv 3) (Xa (Xn (DH K rfl) (Xn (DH K rfl) (Xn (DH K rfl) (XE (Xa Xu Xd)) (XI (Y6 K rfl) (pv 4) Yb (XM Xc))) (XI (Y6 K rfl) (pv 5) Yb (XM Xc))) (XI (Y6 K rfl) (pv 6) Yb (XM Xc))) Xd)))
      Xe)
      Xe)
     Xe))
    Xe))
   Xe))
  (Xb (Xp (pv 3))
  Xe))))),λae aq=>(Yp K (r:=(rD Xf)) (Ev.sh (KC ql)) λa1 v2=>(Yp K qS λa5 v6=>(ZI K (o:=(oL (oF (rPL rMx)))) 0 (G3 (o:=(oF (rPL rMx)))) λa10 dI C12=>(CC K (λO (bA:Option V×Option V×Option V×V×List XZ)=>[bA.2.2.2.2]) (λs bA=>[some ae,some v2,some v6,some bA.2.2.2.1,bA.1,bA.2.1,bA.2.2.1]) (λS (gq:(List (List Mx))) bA=>(SC.addO S K (oL (oF (rPL rMx))) bA.2.2.2.1 gq bA.2.2.2.2)) (λ_=>tg1 4) ((none),(none),(none),dI,C12) (a10) (ZT (Ev.sh (V1 (λ_=>tg1 0) qw (λC13 a14 fY=>(XD (K:=K) (Oo (Ju (Yz (QE qB) (qp K) (qp K))) qB))) (λC13 a14 fY=>qM)))) rfl rfl (λ_ s=>(SC.i s s.r)) (λg26 cG a28 fA=>(CC K (λO (b7:Option V×Option V×V×List XZ)=>[b7.2.2.2]) (λs b7=>[some ae,some v2,some v6,some b7.2.2.1,some fA,b7.1,b7.2.1]) (λS (g48:(List (List Mx))) b7=>(SC.addO S K (oL (oF (rPL rMx))) b7.2.2.1 g48 b7.2.2.2)) (λ_=>tg1 5) ((cG.2.1),(cG.2.2.1),cG.2.2.2.1,cG.2.2.2.2) (g26) (ZT (Ev.sh (V1 (λ_=>tg1 0) qw (λC30 a31 v32=>(XD (K:=K) (V4 (Ju (Yz (QE qB) (qp K) (qp K))) qB (KD (Yz (QE qB) (qp K) (qp K)))))) (λC30 a31 v32=>qM)))) rfl rfl (λ_ s=>(SC.i s s.l.r)) (λg49 il a51 iC=>(CC K (λO (cb:Option V×V×List XZ)=>[cb.2.2]) (λs cb=>[some ae,some v2,some v6,some cb.2.1,some fA,some iC,cb.1]) (λS (g65:(List (List Mx))) cb=>(SC.addO S K (oL (oF (rPL rMx))) cb.2.1 g65 cb.2.2)) (λ_=>tg1 6) ((il.2.1),il.2.2.1,il.2.2.2) (g49) (ZT (Ev.sh (V1 (λ_=>tg1 0) qw (λC53 a54 v55=>(XD (K:=K) (Fy (KD (Yz (QE qB) (qp K) (qp K))) qB))) (λC53 a54 v55=>qM)))) rfl rfl (λ_ s=>(SC.i s s.l.r)) (λg66 ij a68 v69=>(QO (λO (cZ:V×List XZ)=>[cZ.2]) (λs cZ=>[some ae,some v2,some v6,some cZ.1,some fA,some iC,some v69]) (λS (g77:(List (List Mx))) cZ=>(SC.addO S K (oL (oF (rPL rMx))) cZ.1 g77 cZ.2)) (YW (qt K) (Md K (EvB.flat (Dg (Dg (Dg (Ev.toB (EvS.ev (YL (r:=rMx) qa))) (DG (Yz (QE qB) (qp K) (qp K)))) (DG (Yz (QE qB) (qp K) (qp K)))) (DG (Yz (QE qB) (qp K) (qp K))))) λa108 C107=>(YU (ij.2.1,C107) (a108) rfl rfl)) (YU (ij.2.1,ij.2.2) (g66) rfl rfl)) λg110 iD=>(YU ((some v69),iD.1,iD.2) (g110) rfl rfl))) λg111 ga=>(YU ((some iC),(ga.1),ga.2.1,ga.2.2) (g111) rfl rfl))) λg114 fg=>(YU ((some fA),(fg.1),(fg.2.1),fg.2.2.1,fg.2.2.2) (g114) rfl rfl))) λiy bX=>(Xs Um)))))⟩⟩
def Kq:=Dp.1
theorem IZ:FnScope ["_law_walks","_law_at","_law_k","_law_one","_law_two"] ["_law_walks","_law_at","_law_k","_law_one","_law_two"] (Xg DQ):=⟨rfl,rfl,rfl,by decide+kernel,rfl,by decide+kernel,by decide+kernel⟩
abbrev FX (m:(List (List Int))->Int->Int->Int->Int->Rs (List (List Int))):Prop:=Fn P w K mg base 1 "_law_lay_in" ["_law_walks","_law_at","_law_k","_law_one","_law_two"] (Ao (oL (oL (oF Xf))) Xf Xf Xf Xf m K)
def DA:{m // Pk λP w K mg base=>Def K mg "_law_lay_in" DQ ["_law_walks","_law_at","_law_k","_law_one","_law_two"]->Blt mg->FX P w K mg base m}:=⟨_, @λP w K mg base D Z=>by
 refine Kl D IZ (λvs H Q E h=>?_) (λf am A outer s H vs Q E hr h=>?_)
 ·obtain⟨ae,ag,aS,dS,v_4,aq,au,b6,ff,a_4,b,rfl,_⟩:=h;rfl
 obtain⟨ae,ag,aS,dS,v_4,aq,au,b6,ff,a_4,b,rfl,gt,hw,cU,cV,f9,h_3,h_4,hm,q⟩:=h
 have hu:=hu8 hr
 have aA:=UO hr
 refine⟨_,(Xb (Zf (Xn Z2 (Xn Z2 (XI (YC K rfl) (X8 (X1 K rfl) (pv 0) (pv 1) (λ_ _=>rfl)) Yb (XM (pv 2))) (XL (Xa (pv 3) (Xa (pv 4) Xd)))) (XI (YC K rfl) (X8 (X1 K rfl) (pv 0) (pv 1) (λ_ _=>rfl)) (XM (pv 2)) Yb)) (Qr (pv 0) (pv 1) YH))
  Xe),?_⟩
 refine II (S:=(SC.add (SC.add (SC.add (SC.add (SC.addO SC.nil K (oL (oL (oF Xf))) ae aq gt) K Xf ag au) K Xf aS b6) K Xf dS ff) K Xf v_4 a_4)) (σ:=[some ae,some ag,some aS,some dS,some v_4]) 1 0 (by decide) ?_ hw (SC.i (SC.i (SC.i (SC.i (SC.i SC.t cU) cV) f9) h_3) h_4) hm q (λ_ _=>rfl)
 exact(VW K qN (λ_=>qB) λa24 C25=>(Ld (K:=K) (q:=(oL (oL (oF Xf)))) 0 rfl (λ_ s=>s.r)))⟩
def KG:=DA.1
theorem H9:FnScope ["_law_walks","_law_at","_law_k"] ["_law_walks","_law_at","_law_k"] (Xg KL):=⟨rfl,rfl,rfl,by decide+kernel,rfl,by decide+kernel,by decide+kernel⟩
abbrev GP (m:(List (List Int))->Int->Int->Rs (List (List Int))):Prop:=Fn P w K mg base 1 "_law_cut_out" ["_law_walks","_law_at","_law_k"] (Ah (oL (oL (oF Xf))) Xf Xf m K)
def GO:{m // Pk λP w K mg base=>Def K mg "_law_cut_out" KL ["_law_walks","_law_at","_law_k"]->Blt mg->GP P w K mg base m}:=⟨_, @λP w K mg base D Z=>by
 refine Kl D H9 (λvs H Q E h=>?_) (λf am A outer s H vs Q E hr h=>?_)
 ·obtain⟨ae,ag,aS,aq,au,b6,b,rfl,_⟩:=h;rfl
 obtain⟨ae,ag,aS,aq,au,b6,b,rfl,gt,hw,cU,cV,f9,hm,q⟩:=h
 have hu:=hu8 hr
 have aA:=UO hr
 refine⟨_,(Xb (Zf (Xn Z2 (XI (YC K rfl) (X8 (X1 K rfl) (pv 0) (pv 1) (λ_ _=>rfl)) Yb (XM (pv 2))) (XI (YC K rfl) (X8 (X1 K rfl) (pv 0) (pv 1) (λ_ _=>rfl)) (XM (Xn XC (pv 2) Xc)) Yb)) (Qr (pv 0) (pv 1) YH))
  Xe),?_⟩
 refine II (S:=(SC.add (SC.add (SC.addO SC.nil K (oL (oL (oF Xf))) ae aq gt) K Xf ag au) K Xf aS b6)) (σ:=[some ae,some ag,some aS]) 1 0 (by decide) ?_ hw (SC.i (SC.i (SC.i SC.t cU) cV) f9) hm q (λ_ _=>rfl)
 exact(VW K qN (λ_=>qB) λa19 C20=>(Ld (K:=K) (q:=(oL (oL (oF Xf)))) 0 rfl (λ_ s=>s.r)))⟩
def ZU:=GO.1
theorem Ko:FnScope ["_law_drawing","_law_move","_law_walks","_law_signs","_law_cut","_law_one","_law_two","_law_sign","_law_at","_law_k"] ["_law_drawing","_law_move"] (Xg Wh):=⟨rfl,rfl,rfl,by decide+kernel,rfl,by decide+kernel,by decide+kernel⟩
abbrev SQ (m:((List (List Int))×(List (Int×Int)))->(List Mx)->Rs ((List (List Int))×(List (Int×Int)))):Prop:=Fn P w K mg base 2 "_law_do" ["_law_drawing","_law_move"] (sp2 (rP2 (rV (rV Xf)) (rV (rP2 Xf Xf))) (rPL rMx) (oT2 (oL (oL (oF Xf))) (oL (oF (rP2 Xf Xf)))) m K)
def OG:{m // Pk λP w K mg base=>Def K mg "_law_do" Wh ["_law_drawing","_law_move"]->FX P w K mg base KG->GP P w K mg base ZU->Blt mg->SQ P w K mg base m}:=⟨_, @λP w K mg base D bp br Z=>go2 D Ko 8 2 rfl rfl λhr hu aA=>⟨_,(Xb (Q6 2 (Xg Wh) ["_law_drawing","_law_move","_law_walks","_law_signs","_law_cut","_law_one","_law_two","_law_sign","_law_at","_law_k"] ["_law_walk"] [] rfl Ko.nd rfl rfl (XT (K:=K) rfl (Xk K (pv 0) Xc)) (YB (by decide)) (λcl C s H ex E=>⟨Xw (i:=0) (show List.Nodup (["_law_walk"]:List Str) by decide+kernel) rfl (Or.inl rfl),Y3,(XJ (XQ K rfl) rfl Z.b_list PyProof.Rows.boot_list (Xa (pv 0) Xd))⟩))
  (Xb (Xm (i:=3) Ko.nd rfl (Or.inl rfl) (XJ (Z3 K rfl rfl) rfl Z.b_dict PyProof.Rows.boot_dict (Xa (Xk K (pv 0) Xc) Xd)))
  (Xb (XG (PW.pt (ED (Xl XY (Xk K (pv 1) Xc) Xu (Xq _)) (Dw (Xl BR (Xo (Xj K rfl) rfl Z.b_len boot_len (Xa (XA K (pv 2) (Xk K (pv 1) Xc)) Xd)) Xc (Xq _)))))
   (Xb (Xm (i:=4) Ko.nd rfl (Or.inl rfl) (Xn Yo (Xk K (pv 1) Xc) (Xo (Xj K rfl) rfl Z.b_len boot_len (Xa (XA K (pv 2) (Xk K (pv 1) Xc)) Xd))))
   (Xb (Zf (Xn Z2 (XI (YC K rfl) (XA K (pv 2) (Xk K (pv 1) Xc)) (XM (pv 4)) Yb) (XI (YC K rfl) (XA K (pv 2) (Xk K (pv 1) Xc)) Yb (XM (pv 4)))) (Qr (pv 2) (Xk K (pv 1) Xc) YH))
   Xe))
   Xe)
  (Xb (XG (Xl XY (Xk K (pv 1) Xc) Xu (Xq _))
   (Xb (Xm (i:=5) Ko.nd rfl (Or.inl rfl) (Xn X6 (Xk K (pv 1) Xc) (XA K (XL (Xa (Yu X0 Xc) (Xa Xc Xd))) (XJ JJ rfl Z.b_int PyProof.Rows.boot_int (Xa (X5 XY (Xk K (pv 1) Xc) Xu (Xq _)) Xd)))))
   (Xb (Yh (Xt bp hr (by decide) (Xa (pv 2) (Xa (Xk K (pv 1) Xc) (Xa (Xk K (pv 1) Xc) (Xa (pv 5) (Xa (Yu X0 (pv 5)) Xd)))))))
   (Xb (GF aA (pv 3) (Xk K (pv 1) Xc) (Xk K (pv 1) Xc) rfl)
   Xe)))
   Xe)
  (Xb (XG (Xl XY (Xk K (pv 1) Xc) Xu (Xq _))
   (Xb (Yh (Dk (pv 3) (Xo Oc rfl Z.b_abs PyProof.Rows.boot_abs (Xa (XA K (XA K (pv 2) (Xk K (pv 1) Xc)) (Xk K (pv 1) Xc)) Xd)) ⟨rfl,rfl,rfl,rfl⟩))
   (Xb (Yh (Xt br hr (by decide) (Xa (pv 2) (Xa (Xk K (pv 1) Xc) (Xa (Xk K (pv 1) Xc) Xd)))))
   Xe))
   Xe)
  (Xb (XG (Xl XY (Xk K (pv 1) Xc) Xu (Xq _))
   (Xb (L8 (i:=5) (j:=6) (k:=7) rfl Ko.nd rfl rfl rfl (by decide) (by decide) (by decide) rfl rfl rfl (Xa (Xk K (pv 1) Xc) (Xa (Xk K (pv 1) Xc) (Xa (Xk K (pv 1) Xc) Xd))) rfl)
   (Xb (Yh (Xt bp hr (by decide) (Xa (pv 2) (Xa (Xk K (pv 1) Xc) (Xa (Xk K (pv 1) Xc) (Xa (pv 5) (Xa (pv 6) Xd)))))))
   (Xb (GF aA (pv 3) (pv 5) (pv 7) rfl)
   (Xb (GF aA (pv 3) (pv 6) (Yu X0 (pv 7)) rfl)
   (Xb (XG (Zg (Xk K (pv 1) Xc))
    (Xb (OM (i:=5) (j:=6) rfl Ko.nd rfl rfl (by decide) rfl rfl (Xa (pv 6) (Xa (pv 5) Xd)) rfl)
    Xe)
    Xe)
   (Xb (Yh (Xt bp hr (by decide) (Xa (pv 2) (Xa (Xk K (pv 1) Xc) (Xa (Xk K (pv 1) Xc) (Xa (Yu X0 (pv 5)) (Xa (Yu X0 (pv 6)) Xd)))))))
   Xe))))))
   Xe)
  (Xb (XG (Xl XY (Xk K (pv 1) Xc) Xu (Xq _))
   (Xb (Yh (Dk (pv 3) (XA K (XA K (pv 2) (Xk K (pv 1) Xc)) (Xk K (pv 1) Xc)) ⟨rfl,rfl,rfl,rfl⟩))
   (Xb (Yh (Dk (pv 3) (XA K (XA K (pv 2) (Xk K (pv 1) Xc)) (Xn XC (Xk K (pv 1) Xc) Xc)) ⟨rfl,rfl,rfl,rfl⟩))
   (Xb (YX PassesOwn.never rfl (XT (K:=K) rfl (Cg K rfl (Xo (JF K rfl (Km (by decide) hu)) rfl Z.b_sorted PyProof.Rows.boot_sorted (Xa (XL (Xa (XI (Y6 K rfl) (pv 1) (XM Xc) (XM Xc)) (Xa (XI (Y6 K rfl) (pv 1) (XM Xc) (XM Xc)) Xd))) Xd X9)) (Yu X0 Xc))) (VX rfl (Yk (Xw (i:=8) Ko.nd rfl (Or.inl rfl)) (Yk (Xw (i:=9) Ko.nd rfl (Or.inl rfl)) QC)))
    (Xb (Yh (Xt br hr (by decide) (Xa (pv 2) (Xa (pv 8) (Xa (pv 9) Xd)))))
    Xe))
   Xe)))
   Xe)
  (Xb (XG (Xl XY (Xk K (pv 1) Xc) Xu (Xq _))
   (Xb (YX PassesOwn.never rfl (XT (K:=K) rfl (XL (Xa (XI (Y6 K rfl) (pv 1) (XM Xc) (XM Xc)) (Xa (XI (Y6 K rfl) (pv 1) (XM Xc) (XM Xc)) (Xa (XI (Y6 K rfl) (pv 1) (XM Xc) (XM Xc)) Xd))))) (VX rfl (Yk (Xw (i:=8) Ko.nd rfl (Or.inl rfl)) (Yk (Xw (i:=9) Ko.nd rfl (Or.inl rfl)) QC)))
    (Xb (OM (i:=5) (j:=6) rfl Ko.nd rfl rfl (by decide) rfl rfl (Xa (XA K (XA K (pv 2) (pv 8)) (pv 9)) (Xa (XA K (XA K (pv 2) (pv 8)) (Xn XC (pv 9) Xc)) Xd)) rfl)
    (Xb (Zf (pv 6) (Qr (XA K (pv 2) (pv 8)) (pv 9) YH))
    (Xb (Zf (pv 5) (Qr (XA K (pv 2) (pv 8)) (Xn XC (pv 9) Xc) YH))
    Xe))))
   Xe)
   Xe)
  (Xb (Xp (XE (Xa (pv 2) (Xa (CY rfl rfl Z.b_sorted (pv 3) (Km (by decide) hu)) Xd))))
  Xe))))))))),λae ag aq au=>(ZI K (o:=(oL (oL (oF Xf)))) 0 (Y5 (λ_=>tg1 0) qw (λC5 a6 v7=>qN)) λa1 v2 C3=>(ZI K (o:=(oD Xf)) 1 (KC ql) λa10 dI C12=>(QO (λO (cG:Option V×V×List XZ)=>[cG.2.2,C12]) (λs cG=>[some ae,some ag,some cG.2.1,some dI,cG.1,none,none,none,none,none]) (λS (g28:(List (List Int))) cG=>(SC.addO S K (oL (oL (oF Xf))) cG.2.1 g28 cG.2.2)) (YW (qt K) (Yp K qS λa29 v30=>(VW K qN (λ_=>qb) λa62 C63=>(YU ((some v30),v2,C63) (a62) rfl rfl))) (YU ((none),v2,C3) (a1) rfl rfl)) λg65 cb=>(QO (λO (du:Option V×V×V×List XZ×List XZ)=>[du.2.2.2.2,du.2.2.2.1]) (λs du=>[some ae,some ag,some du.2.2.1,some du.2.1,cb.1,du.1,none,none,none,none]) (λS (g72:(List (Int×Int))×(List (List Int))) du=>(SC.addO (SC.addO S K (oD Xf) du.2.1 g72.1 du.2.2.2.1) K (oL (oL (oF Xf))) du.2.2.1 g72.2 du.2.2.2.2)) (YW (qt K) (Yp K qS λa73 v74=>(KK (K:=K) (q:=(oL (oL (oF Xf)))) 2 0 rfl rfl (λ_ s=>s.l.r) qs qs qS qS λb101 f8=>(Mj K qs qb λiE ir=>(YU ((some v74),dI,cb.2.1,ir,f8) (iE,b101) rfl rfl)))) (YU ((none),dI,cb.2.1,C12,cb.2.2) (a10,g65) rfl rfl)) λiF cM=>(QO (λO (bX:V×V×List XZ×List XZ)=>[bX.2.2.2,bX.2.2.1]) (λs bX=>[some ae,some ag,some bX.2.1,some bX.1,cb.1,cM.1,none,none,none,none]) (λS (iG:(List (Int×Int))×(List (List Int))) bX=>(SC.addO (SC.addO S K (oD Xf) bX.1 iG.1 bX.2.2.1) K (oL (oL (oF Xf))) bX.2.1 iG.2 bX.2.2.2)) (YW (qt K) (BC (K:=K) (r:=Xf) 3 1 rfl rfl (λ_ s=>s.l.r) qB λa130 C131=>(Cd (K:=K) (q:=(oL (oL (oF Xf)))) 2 0 rfl rfl (λ_ s=>s.l.r) qs qs λb138 C139=>(YU (cM.2.1,cM.2.2.1,C131,C139) (a130,b138) rfl rfl))) (YU (cM.2.1,cM.2.2.1,cM.2.2.2.1,cM.2.2.2.2) (iF.1,iF.2) rfl rfl)) λiH cN=>(QO (λO (bF:Option V×Option V×Option V×V×V×List XZ×List XZ)=>[bF.2.2.2.2.2.2,bF.2.2.2.2.2.1]) (λs bF=>[some ae,some ag,some bF.2.2.2.2.1,some bF.2.2.2.1,cb.1,bF.1,bF.2.1,bF.2.2.1,none,none]) (λS (iI:(List (Int×Int))×(List (List Int))) bF=>(SC.addO (SC.addO S K (oD Xf) bF.2.2.2.1 iI.1 bF.2.2.2.2.2.1) K (oL (oL (oF Xf))) bF.2.2.2.2.1 iI.2 bF.2.2.2.2.2.2)) (YW (qt K) (Sa (K:=K) 5 6 7 qs qs qs λa155 a156 a157 iz v159 v160=>(KK (K:=K) (q:=(oL (oL (oF Xf)))) 2 0 rfl rfl (λ_ s=>s.l.l.l.r) qs qs qS qS λb169 C170=>(Mj K qS qB λa173 C174=>(Mj K qS qB λa178 iJ=>(QO (λO (dM:V×V)=>[C170,iJ]) (λs dM=>[some ae,some ag,some cN.2.1,some cN.1,cb.1,some dM.1,some dM.2,some v160,none,none]) (λS (iK:Int×Int) dM=>(SC.add (SC.add S K Xf dM.1 iK.1) K Xf dM.2 iK.2)) (YW (qt K) (Ou (K:=K) 5 6 qS qS λa185 a186 v187 v188=>(YU (v187,v188) (a185,a186) rfl rfl)) (YU (iz,v159) (a155,a156) rfl rfl)) λg190 x189=>(KK (K:=K) (q:=(oL (oL (oF Xf)))) 2 0 rfl rfl (λ_ s=>s.l.l.l.l.r) qs qs qS qS λb201 C202=>(YU ((some x189.1),(some x189.2),(some v160),cN.1,cN.2.1,iJ,C202) (a178,b201) rfl rfl))))))) (YU ((cM.1),(none),(none),cN.1,cN.2.1,cN.2.2.1,cN.2.2.2) (iH.1,iH.2) rfl rfl)) λgb aR=>(QO (λO (bJ:Option V×Option V×V×V×List XZ×List XZ)=>[bJ.2.2.2.2.2,bJ.2.2.2.2.1]) (λs bJ=>[some ae,some ag,some bJ.2.2.2.1,some bJ.2.2.1,cb.1,aR.1,aR.2.1,aR.2.2.1,bJ.1,bJ.2.1]) (λS (iL:(List (Int×Int))×(List (List Int))) bJ=>(SC.addO (SC.addO S K (oD Xf) bJ.2.2.1 iL.1 bJ.2.2.2.2.1) K (oL (oL (oF Xf))) bJ.2.2.2.1 iL.2 bJ.2.2.2.2.2)) (YW (qt K) (BC (K:=K) (r:=Xf) 3 1 rfl rfl (λ_ s=>s.l.r) qB λa221 C222=>(BC (K:=K) (r:=Xf) 3 1 rfl rfl (λ_ s=>s.r) qB λa234 iM=>(CC K (λO (cO:Option V×Option V×V×List XZ)=>[cO.2.2.2,iM]) (λs cO=>[some ae,some ag,some cO.2.2.1,some aR.2.2.2.1,cb.1,aR.1,aR.2.1,aR.2.2.1,cO.1,cO.2.1]) (λS (g256:(List (List Int))) cO=>(SC.addO S K (oL (oL (oF Xf))) cO.2.2.1 g256 cO.2.2.2)) (λ_=>tg2 8 9) ((none),(none),aR.2.2.2.2.1,aR.2.2.2.2.2.2) (gb.2) (ZT (Ev.sh (Cn (Ev.ls (Dc (Ev.ls (UZ (XF (EvB.sh (GL qB)) (XF (EvB.sh (GL qB)) qa)))))) qB))) rfl rfl (λ_ s=>(SC.i s s.l.l.r)) (λg257 x258 a259 v260=>(Cd (K:=K) (q:=(oL (oL (oF Xf)))) 2 0 rfl rfl (λ_ s=>s.l.l.r) qS qS λb263 C264=>(YU ((some v260.1),(some v260.2),x258.2.2.1,C264) (b263) rfl rfl))) λg265 fh=>(YU ((fh.1),(fh.2.1),aR.2.2.2.1,fh.2.2.1,iM,fh.2.2.2) (a234,g265) rfl rfl)))) (YU ((none),(none),aR.2.2.2.1,aR.2.2.2.2.1,aR.2.2.2.2.2.1,aR.2.2.2.2.2.2) (gb.1,gb.2) rfl rfl)) λiN bK=>(QO (λO (ci:Option V×Option V×Option V×Option V×V×List XZ)=>[ci.2.2.2.2.2,bK.2.2.2.2.1]) (λs ci=>[some ae,some ag,some ci.2.2.2.2.1,some bK.2.2.1,cb.1,ci.2.2.1,ci.2.2.2.1,aR.2.2.1,ci.1,ci.2.1]) (λS (g276:(List (List Int))) ci=>(SC.addO S K (oL (oL (oF Xf))) ci.2.2.2.2.1 g276 ci.2.2.2.2.2)) (YW (qt K) (CC K (λO (cj:Option V×Option V×Option V×Option V×V×List XZ)=>[cj.2.2.2.2.2,bK.2.2.2.2.1]) (λs cj=>[some ae,some ag,some cj.2.2.2.2.1,some bK.2.2.1,cb.1,cj.2.2.1,cj.2.2.2.1,aR.2.2.1,cj.1,cj.2.1]) (λS (g300:(List (List Int))) cj=>(SC.addO S K (oL (oL (oF Xf))) cj.2.2.2.2.1 g300 cj.2.2.2.2.2)) (λ_=>tg2 8 9) ((bK.1),(bK.2.1),(aR.1),(aR.2.1),bK.2.2.2.1,bK.2.2.2.2.2) (iN.2) (ZT (Ev.sh (UZ (XF (EvB.sh (GL qB)) (XF (EvB.sh (GL qB)) (XF (EvB.sh (GL qB)) qa)))))) rfl rfl (λ_ s=>(SC.i s s.r)) (λg301 x302 a303 v304=>(Ou (K:=K) 5 6 qS qS λa315 a316 v317 v318=>(Uc (K:=K) (r:=Xf) 2 0 rfl rfl (λ_ s=>s.l.l.l.l.r) qS qB qB λa322 C323=>(Uc (K:=K) (r:=Xf) 2 0 rfl rfl (λ_ s=>s.r) qS qB qB λa331 C332=>(YU ((some v304.1),(some v304.2),(some v317),(some v318),x302.2.2.2.2.1,C332) (a331) rfl rfl))))) λg335 dN=>(YU ((dN.1),(dN.2.1),(dN.2.2.1),(dN.2.2.2.1),dN.2.2.2.2.1,dN.2.2.2.2.2) (g335) rfl rfl)) (YU ((bK.1),(bK.2.1),(aR.1),(aR.2.1),bK.2.2.2.1,bK.2.2.2.2.2) (iN.2) rfl rfl)) λg339 x338=>(Xs (Zo Um λ_=>(Lr qB)))))))))))⟩⟩
def GY:=OG.1
theorem Op:FnScope ["_law_signs","_law_name"] ["_law_signs","_law_name"] (Xg R1):=⟨rfl,rfl,rfl,by decide+kernel,rfl,by decide+kernel,by decide+kernel⟩
abbrev N4 (m:(List (Int×Int))->Int->Rs Int):Prop:=Fn P w K mg base 1 "_law_new" ["_law_signs","_law_name"] (sp2 (rD Xf) Xf (oF Xf) m K)
def Pf:{m // Pk λP w K mg base=>Def K mg "_law_new" R1 ["_law_signs","_law_name"]->Blt mg->N4 P w K mg base m}:=⟨_, @λP w K mg base D Z=>go2 D Op 0 0 rfl rfl λhr hu aA=>⟨_,(Xb (E3 PassesOwn.never (TU (IT aA (pv 1) (pv 0)))
   (Xb (Xm (i:=1) Op.nd rfl (Or.inl rfl) (Xn XC (pv 1) Xc))
   Xe))
  (Xb (Xp (pv 1))
  Xe)),λae ag aq au=>(OI (λO (x1:V)=>[]) (λs x1=>[some ae,some x1]) (λS (g2:Int) x1=>(SC.add S K Xf x1 g2)) (aq.length+2) (ag) (au) rfl rfl (λ_ s=>(SC.i s s.r)) (λg3 x4=>(Lg (K:=K) (B8 qB qB))) (λg3 x4=>(Yp K qS λa7 v8=>(YU (v8) (a7) rfl rfl))) λg11 fD=>(Xs qM))⟩⟩
def Ij:=Pf.1
theorem Vu:FnScope ["_law_drawing","_law_some","_law_walks","_law_signs","_law_at","_law_k","_law_far","_law_name"] ["_law_drawing","_law_some"] (Xg LD):=⟨rfl,rfl,rfl,by decide+kernel,rfl,by decide+kernel,by decide+kernel⟩
abbrev LS (m:((List (List Int))×(List (Int×Int)))->(List Int)->Rs (List Mx)):Prop:=Fn P w K mg base 2 "_law_curl" ["_law_drawing","_law_some"] (sp2 (rP2 (rV (rV Xf)) (rV (rP2 Xf Xf))) (rV Xf) (oF (rPL rMx)) m K)
def Ip:{m // Pk λP w K mg base=>Def K mg "_law_curl" LD ["_law_drawing","_law_some"]->N4 P w K mg base Ij->Blt mg->LS P w K mg base m}:=⟨_, @λP w K mg base D bY Z=>go2 D Vu 6 0 rfl rfl λhr hu aA=>⟨_,(Xb (Zf (pv 0) (VX rfl (Yk (Xw (i:=2) Vu.nd rfl (Or.inl rfl)) (Yk (Xw (i:=3) Vu.nd rfl (Or.inl rfl)) QC))))
  (Xb (Xm (i:=4) Vu.nd rfl (Or.inl rfl) (Xn Yo (XA K (pv 1) Xc) (Xo (Xj K rfl) rfl Z.b_len boot_len (Xa (pv 2) Xd))))
  (Xb (Xm (i:=5) Vu.nd rfl (Or.inl rfl) (Xn Yo (XA K (pv 1) Xc) (Xn XC (Xo (Xj K rfl) rfl Z.b_len boot_len (Xa (XA K (pv 2) (pv 4)) Xd)) Xc)))
  (Xb (Xm (i:=6) Vu.nd rfl (Or.inl rfl) (XA K (XL (Xa Xc (Xa Xc (Xa (Xn UX Xc Xc) (Xa (Xn UX Xc Xc) Xd))))) (Xn Yo (XA K (pv 1) Xc) Xc)))
  (Xb (Xm (i:=7) Vu.nd rfl (Or.inl rfl) (Xt bY hr (by decide) (Xa (XJ (Z3 K rfl rfl) rfl Z.b_dict PyProof.Rows.boot_dict (Xa (pv 3) Xd)) (Xa (Xn XC Xc (Xn X6 (XA K (pv 1) Xc) (pv 6))) Xd))))
  (Xb (Xp (XE (Xa Xu (Xa (pv 4) (Xa (pv 5) (Xa (pv 7) (Xa (XA K (XL (Xa Xu (Xa Xu Xd))) (XA K (pv 1) Xc)) (Xa (Xn ZX (Xn X6 Xc (XA K (pv 1) Xc)) Xc) Xd))))))))
  Xe)))))),λae ag aq au=>(EJ (K:=K) 2 3 qS λa1 v2 v3=>(Yp K qS λa4 v5=>(Yp K qS λa11 v12=>(Yp K qS λa22 v23=>(Yp K (r:=Xf) (EvB.sh (Ev.toB (KB (Ev.toB (KC ql)) qB))) λa43 v44=>(Xs (EvB.flat (Ev.toB (EvS.ev (YL (r:=rMx) qa))))))))))⟩⟩
def Ez:=Ip.1
theorem Qk:FnScope ["_law_drawing","_law_some","_law_walks","_law_signs","_law_names","_law_over","_law_k","_law_under","_law_free","_law_far","_law_one","_law_two","_law_to"] ["_law_drawing","_law_some"] (Xg Nx):=⟨rfl,rfl,rfl,by decide+kernel,rfl,by decide+kernel,by decide+kernel⟩
abbrev Sj (m:((List (List Int))×(List (Int×Int)))->(List Int)->Rs (List Mx)):Prop:=Fn P w K mg base 2 "_law_lay" ["_law_drawing","_law_some"] (sp2 (rP2 (rV (rV Xf)) (rV (rP2 Xf Xf))) (rV Xf) (oF (rPL rMx)) m K)
def SL:{m // Pk λP w K mg base=>Def K mg "_law_lay" Nx ["_law_drawing","_law_some"]->N4 P w K mg base Ij->Blt mg->Sj P w K mg base m}:=⟨_, @λP w K mg base D bY Z=>go2 D Qk 11 1 rfl rfl λhr hu aA=>⟨_,(Xb (Zf (pv 0) (VX rfl (Yk (Xw (i:=2) Qk.nd rfl (Or.inl rfl)) (Yk (Xw (i:=3) Qk.nd rfl (Or.inl rfl)) QC))))
  (Xb (Xm (i:=4) Qk.nd rfl (Or.inl rfl) (XJ (Z3 K rfl rfl) rfl Z.b_dict PyProof.Rows.boot_dict (Xa (pv 3) Xd)))
  (Xb (Xm (i:=5) Qk.nd rfl (Or.inl rfl) (Xn Yo (XA K (pv 1) Xc) (Xo (Xj K rfl) rfl Z.b_len boot_len (Xa (pv 2) Xd))))
  (Xb (Xm (i:=6) Qk.nd rfl (Or.inr rfl) (Xn Yo (XA K (pv 1) Xc) (Xn XC (Xo (Xj K rfl) rfl Z.b_len boot_len (Xa (XA K (pv 2) (pv 5)) Xd)) Xc)))
  (Xb (Xm (i:=7) Qk.nd rfl (Or.inl rfl) (Xn Yo (XA K (pv 1) Xc) (Xo (Xj K rfl) rfl Z.b_len boot_len (Xa (pv 2) Xd))))
  (Xb (Xm (i:=8) Qk.nd rfl (Or.inl rfl) (Cb rfl rfl rfl Z.b_list Z.b_range (Xa (Xn XC (Xo (Xj K rfl) rfl Z.b_len boot_len (Xa (XA K (pv 2) (pv 7)) Xd)) Xc) Xd)))
  (Xb (XG (Xl XY (pv 7) (pv 5) (Xq _))
   (Xb (Q6 8 (Xg Nx) ["_law_drawing","_law_some","_law_walks","_law_signs","_law_names","_law_over","_law_k","_law_under","_law_free","_law_far","_law_one","_law_two","_law_to"] ["_law_j"] [(6,"_law_k")] rfl Qk.nd rfl rfl (Yr rfl Z.b_range (Xa (Xn XC (Xo (Xj K rfl) rfl Z.b_len boot_len (Xa (XA K (pv 2) (pv 5)) Xd)) Xc) Xd)) (YB (by decide)) (λcl C s H ex E=>⟨Xw (i:=0) (show List.Nodup (["_law_j","_law_k"]:List Str) by decide+kernel) rfl (Or.inl rfl),(KW (Xl FW (pv 0) (Xn XC (pv 1) Xc) (Xq _))),(pv 0)⟩))
   Xe)
   Xe)
  (Xb (Xm (i:=9) Qk.nd rfl (Or.inl rfl) (XA K (XL (Xa Xc (Xa Xc (Xa (Xn UX Xc Xc) (Xa (Xn UX Xc Xc) Xd))))) (Xn Yo (XA K (pv 1) Xc) Xc)))
  (Xb (Xm (i:=10) Qk.nd rfl (Or.inl rfl) (Xt bY hr (by decide) (Xa (pv 4) (Xa (Xn XC Xc (Xn X6 (XA K (pv 1) Xc) (pv 9))) Xd))))
  (Xb (GF aA (pv 4) (pv 10) Xc rfl)
  (Xb (Xm (i:=11) Qk.nd rfl (Or.inl rfl) (Xt bY hr (by decide) (Xa (pv 4) (Xa (Xn XC Xc (XA K (pv 1) Xc)) Xd))))
  (Xb (Xm (i:=12) Qk.nd rfl (Or.inl rfl) (XA K (pv 8) (Xn Yo (XA K (pv 1) Xc) (Xo (Xj K rfl) rfl Z.b_len boot_len (Xa (pv 8) Xd)))))
  (Xb (Xp (XE (Xa Xu (Xa (pv 5) (Xa (pv 6) (Xa (pv 7) (Xa (pv 12) (Xa (pv 10) (Xa (pv 11) (Xa (X5 XY (XA K (pv 1) Xc) Xc (Xq _)) (Xa (Xn ZX (Xn X6 Xc (XA K (pv 1) Xc)) Xc) Xd)))))))))))
  Xe))))))))))))),λae ag aq au=>(EJ (K:=K) 2 3 qS λa1 v2 v3=>(ZI K (o:=(oD Xf)) 0 (KC ql) λa4 v5 C6=>(Yp K qS λa8 v9=>(Yp K qS λa15 v16=>(Yp K qS λa26 v27=>(Yp K (r:=(rV Xf)) (Ev.sh (Bn qB)) λa33 v34=>(QO (λO (dt:V)=>[C6]) (λs dt=>[some ae,some ag,some v2,some v3,some v5,some v9,some v16,some v27,some dt,none,none,none,none]) (λS (f7:(List Int)) dt=>(SC.add S K (rV Xf) dt f7)) (YW (qt K) (Yp K (r:=(rV Xf)) (Ev.sh (V1 (λ_=>tg1 0) qw (λC54 a55 v56=>(qt K)) (λC54 a55 v56=>qM))) λa46 v47=>(YU (v47) (a46) rfl rfl)) (YU (v34) (a33) rfl rfl)) λg63 cH=>(Yp K qS λa64 v65=>(Yp K qS λa85 v86=>(Mj K qS qB λa98 C99=>(Yp K qS λa100 v101=>(Yp K qS λiE v110=>(Xs (EvB.flat (Ev.toB (EvS.ev (YL (r:=rMx) qa)))))))))))))))))⟩⟩
def N2:=SL.1
theorem U5:FnScope ["_law_script","_law_place","_law_drawing","_law_word","_law_some","_law_steps","_law_found","_law_move","_law_k","_law_behind"] ["_law_script","_law_place","_law_drawing","_law_word"] (Xg RK):=⟨rfl,rfl,rfl,by decide+kernel,rfl,by decide+kernel,by decide+kernel⟩
abbrev P7 (m:(List Int)->Int->((List (List Int))×(List (Int×Int)))->Str->Rs (((List (List Int))×(List (Int×Int)))×(List Mx))):Prop:=Fn P w K mg base 3 "_law_set" ["_law_script","_law_place","_law_drawing","_law_word"] (Al (rL Xf) Xf (rP2 (rV (rV Xf)) (rV (rP2 Xf Xf))) VY (oF (rP2 (rP2 (rV (rV Xf)) (rV (rP2 Xf Xf))) (rPL rMx))) m K)
def LU:{m // Pk λP w K mg base=>Def K mg "_law_set" RK ["_law_script","_law_place","_law_drawing","_law_word"]->HR P w K mg base Be->LS P w K mg base Ez->DM P w K mg base Kq->Sj P w K mg base N2->SQ P w K mg base GY->Blt mg->P7 P w K mg base m}:=⟨_, @λP w K mg base D aQ db bZ dw bz Z=>by
  refine Kl D U5 (λvs H Q E h=>?_) (λf am A outer s H vs Q E hr h=>?_)
  . obtain⟨ae,ag,aS,dS,aq,au,b6,ff,b,rfl,_⟩:=h;rfl
  obtain⟨ae,ag,aS,dS,aq,au,b6,ff,b,rfl,Cf,hw,cU,cV,f9,h_3,hm,q⟩:=h
  have hu:=hu8 hr
  have aA:=UO hr
  apply Exists.intro
  apply And.intro
  case left=>
   refine' Xb ?zq1 ?zq2
   case zq1=>
    refine' Xm (i:=4) ?zq3 ?zq4 ?zq5 ?zq6
    case zq3=>
     exact U5.nd
    case zq4=>
     exact rfl
    case zq5=>
     exact(Or.inl rfl)
    case zq6=>
     refine' Xt aQ hr ?zq7 ?zq8
     case zq7=>
      exact(by decide)
     case zq8=>
      refine' Xa ?zq9 ?zq10
      case zq9=>
       exact(pv 0)
      case zq10=>
       refine' Xa ?zq11 ?zq12
       case zq11=>
        exact(pv 1)
       case zq12=>
        exact(Xa (XL (Xa Xc (Xa Xc (Xa Xc (Xa Xc (Xa Xc (Xa Xc (Xa Xc (Xa Xc (Xa Xc Xd)))))))))) Xd X9)
   case zq2=>
    refine' Xb ?zq13 ?zq14
    case zq13=>
     refine' XG ?zq15 ?zq16 ?zq17
     case zq15=>
      exact(Xl XY (pv 3) Xu (Xq _))
     case zq16=>
      refine' Xb ?zq18 ?zq19
      case zq18=>
       refine' Xm (i:=5) ?zq20 ?zq21 ?zq22 ?zq23
       case zq20=>
        exact U5.nd
       case zq21=>
        exact rfl
       case zq22=>
        exact(Or.inl rfl)
       case zq23=>
        exact(Xn X6 (Xn ZX (X8 (X1 K rfl) (pv 4) Xc (λ_ _=>rfl)) Xc) (X8 (X1 K rfl) (XL (Xa Xc (Xa Xc (Xa (Xn XC (Xn UX Xc Xc) Xc) Xd)))) (Xn Yo (X8 (X1 K rfl) (pv 4) Xc (λ_ _=>rfl)) Xc) (λ_ _=>rfl)))
      case zq19=>
       refine' Xb ?zq24 ?zq25
       case zq24=>
        refine' Xp ?zq26
        case zq26=>
         refine' XE ?zq27
         case zq27=>
          refine' Xa ?zq28 ?zq29
          case zq28=>
           exact(pv 2)
          case zq29=>
           refine' Xa ?zq30 ?zq31
           case zq30=>
            refine' XE ?zq32
            case zq32=>
             refine' Xa ?zq33 ?zq34
             case zq33=>
              exact Xu
             case zq34=>
              refine' Xa ?zq35 ?zq36
              case zq35=>
               exact(Xn Yo (X8 (X1 K rfl) (pv 4) Xc (λ_ _=>rfl)) (Xo (Xj K rfl) rfl Z.b_len boot_len (Xa (X8 (XX K rfl) (pv 2) Xc (λ_ _=>rfl)) Xd)))
              case zq36=>
               exact(Xa (pv 5) Xd)
           case zq31=>
            exact Xd
       case zq25=>
        exact Xe
     case zq17=>
      exact Xe
    case zq14=>
     refine' Xb ?zq37 ?zq38
     case zq37=>
      refine' XG ?zq39 ?zq40 ?zq41
      case zq39=>
       exact(Xl XY (pv 3) Xu (Xq _))
      case zq40=>
       refine' Xb ?zq42 ?zq43
       case zq42=>
        exact(Xm (i:=6) U5.nd rfl (Or.inl rfl) (Xt bZ hr (by decide) (Xa (pv 2) Xd)))
       case zq43=>
        refine' Xb ?zq44 ?zq45
        case zq44=>
         refine' XG ?zq46 ?zq47 ?zq48
         case zq46=>
          exact(Xl BR (Xo (Xj K rfl) rfl Z.b_len boot_len (Xa (pv 6) Xd)) Xc (Xq _))
         case zq47=>
          refine' Xb ?zq49 ?zq50
          case zq49=>
           refine' Xp ?zq51
           case zq51=>
            refine' XE ?zq52
            case zq52=>
             refine' Xa ?zq53 ?zq54
             case zq53=>
              exact(pv 2)
             case zq54=>
              refine' Xa ?zq55 ?zq56
              case zq55=>
               refine' X8 (X1 K rfl) ?zq57 ?zq58 (λ_ _=>rfl)
               case zq57=>
                exact(pv 6)
               case zq58=>
                exact(Xn Yo (X8 (X1 K rfl) (pv 4) Xc (λ_ _=>rfl)) (Xo (Xj K rfl) rfl Z.b_len boot_len (Xa (pv 6) Xd)))
              case zq56=>
               exact Xd
          case zq50=>
           exact Xe
         case zq48=>
          exact Xe
        case zq45=>
         exact Xe
      case zq41=>
       exact Xe
     case zq38=>
      refine' Xb ?zq59 ?zq60
      case zq59=>
       refine' XG ?zq61 ?zq62 ?zq63
       case zq61=>
        exact(Xl XY (pv 3) Xu (Xq _))
       case zq62=>
        exact(Xb (Xp (XE (Xa (pv 2) (Xa (Xt dw hr (by decide) (Xa (pv 2) (Xa (pv 4) Xd))) Xd))))
      Xe)
       case zq63=>
        exact Xe
      case zq60=>
       refine' Xb ?zq64 ?zq65
       case zq64=>
        refine' XG ?zq66 ?zq67 ?zq68
        case zq66=>
         exact(Xl XY (pv 3) Xu (Xq _))
        case zq67=>
         refine' Xb ?zq69 ?zq70
         case zq69=>
          exact(Xm (i:=7) U5.nd rfl (Or.inl rfl) (Xt dw hr (by decide) (Xa (pv 2) (Xa (pv 4) Xd))))
         case zq70=>
          refine' Xb ?zq71 ?zq72
          case zq71=>
           refine' Xm (i:=8) ?zq73 ?zq74 ?zq75 ?zq76
           case zq73=>
            exact U5.nd
           case zq74=>
            exact rfl
           case zq75=>
            exact(Or.inl rfl)
           case zq76=>
            exact(Xn XC (X8 (XX K rfl) (pv 7) Xc (λ_ _=>rfl)) (Xn X6 Xc (XJ JJ rfl Z.b_int PyProof.Rows.boot_int (Xa (Jp (X5 XY (X8 (XX K rfl) (pv 7) Xc (λ_ _=>rfl)) (X8 (XX K rfl) (pv 7) Xc (λ_ _=>rfl)) (Xq _)) (J4 (X5 HS (X8 (XX K rfl) (pv 7) Xc (λ_ _=>rfl)) (X8 (XX K rfl) (pv 7) Xc (λ_ _=>rfl)) (Xq _)))) Xd))))
          case zq72=>
           refine' Xb ?zq77 ?zq78
           case zq77=>
            exact(Xm (i:=9) U5.nd rfl (Or.inl rfl) (Xt bz hr (by decide) (Xa (pv 2) (Xa (pv 7) Xd))))
           case zq78=>
            refine' Xb ?zq79 ?zq80
            case zq79=>
             refine' Xp ?zq81
             case zq81=>
              refine' XE ?zq82
              case zq82=>
               refine' Xa ?zq83 ?zq84
               case zq83=>
                exact(pv 9)
               case zq84=>
                refine' Xa ?zq85 ?zq86
                case zq85=>
                 refine' XE ?zq87
                 case zq87=>
                  refine' Xa ?zq88 ?zq89
                  case zq88=>
                   exact Xu
                  case zq89=>
                   refine' Xa ?zq90 ?zq91
                   case zq90=>
                    exact(X8 (XX K rfl) (pv 7) Xc (λ_ _=>rfl))
                   case zq91=>
                    exact(Xa (pv 8) (Xa (X8 (XX K rfl) (pv 7) Xc (λ_ _=>rfl)) (Xa (X8 (XX K rfl) (pv 7) Xc (λ_ _=>rfl)) Xd)))
                case zq86=>
                 exact Xd
            case zq80=>
             exact Xe
        case zq68=>
         exact Xe
       case zq65=>
        refine' Xb ?zq92 ?zq93
        case zq92=>
         exact(Xm (i:=7) U5.nd rfl (Or.inl rfl) (Xt db hr (by decide) (Xa (pv 2) (Xa (pv 4) Xd))))
        case zq93=>
         refine' Xb ?zq94 ?zq95
         case zq94=>
          refine' XG ?zq96 ?zq97 ?zq98
          case zq96=>
           exact(Xl XY (pv 3) Xu (Xq _))
          case zq97=>
           refine' Xb ?zq99 ?zq100
           case zq99=>
            refine' Xp ?zq101
            case zq101=>
             refine' XE ?zq102
             case zq102=>
              refine' Xa ?zq103 ?zq104
              case zq103=>
               exact(Xt bz hr (by decide) (Xa (pv 2) (Xa (pv 7) Xd)))
              case zq104=>
               exact(Xa (XE (Xa Xu (Xa (X8 (XX K rfl) (pv 7) Xc (λ_ _=>rfl)) (Xa (X8 (XX K rfl) (pv 7) Xc (λ_ _=>rfl)) Xd)))) Xd)
           case zq100=>
            exact Xe
          case zq98=>
           exact Xe
         case zq95=>
          exact(Xb (Xp (XE (Xa (pv 2) (Xa (pv 7) Xd))))
    Xe)
  refine Om (S:=(SC.add (SC.add (SC.add (SC.add SC.nil K (rL Xf) ae aq) K Xf ag au) K (rP2 (rV (rV Xf)) (rV (rP2 Xf Xf))) aS b6) K VY dS ff)) (σ:=[some ae,some ag,some aS,some dS,none,none,none,none,none,none]) 1 ?_ hw (SC.i (SC.i (SC.i (SC.i SC.t cU) cV) f9) h_3) hm q rfl
  exact(Yp K qS λa1 v2=>(Kt (qt K) (Yp K qS λa29 v30=>(QN (K:=K) 1 rfl (EvS.ev (Zq qS (EvB.sh (Ev.toB (EvS.ev (YL (r:=rMx) qa)))))))) (RF K (λO (dH:Option V)=>[[],Cf]) (λs dH=>[some ae,some ag,some aS,some dS,some v2,none,dH,none,none,none]) (λS (im:Unit) dH=>S) (YW (qt K) (Yp K qS λa77 v78=>(LQ (qt K) (QN (K:=K) 1 rfl qM) (EU (YU ((some v78)) () rfl rfl)))) (EU (YU ((none)) () rfl rfl))) λg98 ip=>(Kt (qt K) (QN (K:=K) 1 rfl qM) (Kt (qt K) (Yp K qS λa110 v111=>(Yp K qS λa115 v116=>(ZI K 0 qN λa136 v137 C138=>(O2 (K:=K) (o:=(oT2 (oL (oL (oF Xf))) (oL (oF (rP2 Xf Xf))))) 0 rfl (λ_ s=>s.r) (QN (K:=K) 1 rfl (EvS.ev (Zq qS (EvB.sh (Ev.toB (EvS.ev (YL (r:=rMx) qa))))))))))) (Yp K qS λa166 v167=>(Kt (qt K) (QN (K:=K) 1 rfl (EvS.ev (Zq qS (EvB.sh (Ev.toB (EvS.ev (YL (r:=rMx) qa))))))) (QN (K:=K) 1 rfl qM))))))))⟩
def DT:=LU.1
theorem Vx:FnScope ["_law_script","_law_words","_law_some","_law_drawing","_law_ahead","_law_move"] ["_law_script","_law_words"] (Xg Lw):=⟨rfl,rfl,rfl,by decide+kernel,rfl,by decide+kernel,by decide+kernel⟩
abbrev IL (m:(List Int)->(List Str)->Rs (((List (List Int))×(List (Int×Int)))×(List Mx))):Prop:=Fn P w K mg base 4 "_law_both" ["_law_script","_law_words"] (W7 (rL Xf) (rV VY) (oF (rP2 (rP2 (rV (rV Xf)) (rV (rP2 Xf Xf))) (rPL rMx))) m K)
def Lp:{m // Pk λP w K mg base=>Def K mg "_law_both" Lw ["_law_script","_law_words"]->HR P w K mg base Be->BF P w K mg base DZ->P7 P w K mg base DT->SQ P w K mg base GY->Blt mg->IL P w K mg base m}:=⟨_, @λP w K mg base D aQ cA dy bz Z=>by
 refine Kl D Vx (λvs H Q E h=>?_) (λf am A outer s H vs Q E hr h=>?_)
 ·obtain⟨ae,ag,aq,au,b,rfl,_⟩:=h;rfl
 obtain⟨ae,ag,aq,au,b,rfl,Cf,hw,cU,cV,hm,q⟩:=h
 have hu:=hu8 hr
 have aA:=UO hr
 refine⟨_,(Xb (Xm (i:=2) Vx.nd rfl (Or.inl rfl) (Xt aQ hr (by decide) (Xa (pv 0) (Xa Xc (Xa (XL (Xa Xc (Xa Xc (Xa Xc Xd)))) Xd X9)))))
  (Xb (Xm (i:=3) Vx.nd rfl (Or.inl rfl) (Xt cA hr (by decide) (Xa (pv 0) (Xa Xc Xd))))
  (Xb (XG (Xl XY (X8 (X1 K rfl) (pv 2) Xc (λ_ _=>rfl)) Xc (Xq _))
   (Xb (Xm (i:=4) Vx.nd rfl (Or.inl rfl) (X8 (X1 K rfl) (XL (Xa Xu (Xa Xu (Xa Xu (Xa Xu Xd))))) (Xn Yo (X8 (X1 K rfl) (pv 2) Xc (λ_ _=>rfl)) Xc) (λ_ _=>rfl)))
   (Xb (Zf (Xt dy hr (by decide) (Xa (pv 0) (Xa Xc (Xa (pv 3) (Xa (pv 4) Xd))))) (VX rfl (Yk (Xw (i:=3) Vx.nd rfl (Or.inl rfl)) (Yk (Xw (i:=5) Vx.nd rfl (Or.inl rfl)) QC))))
   (Xb (Xm (i:=3) Vx.nd rfl (Or.inl rfl) (Xt bz hr (by decide) (Xa (pv 3) (Xa (pv 5) Xd))))
   Xe)))
   Xe)
  (Xb (Xp (Xt dy hr (by decide) (Xa (pv 0) (Xa Xc (Xa (pv 3) (Xa (X8 (X1 K rfl) (pv 1) (Xn Yo (X8 (X1 K rfl) (pv 2) Xc (λ_ _=>rfl)) (Xo (Xj K rfl) rfl Z.b_len boot_len (Xa (pv 1) Xd))) (λ_ _=>rfl)) Xd))))))
  Xe)))),?_⟩
 refine Om (S:=(SC.add (SC.add SC.nil K (rL Xf) ae aq) K (rV VY) ag au)) (σ:=[some ae,some ag,none,none,none,none]) 0 ?_ hw (SC.i (SC.i SC.t cU) cV) hm q rfl
 exact(Yp K qS λa1 v2=>(Yp K qS λa14 fY=>(QO (λO (bA:Option V×V×Option V)=>[Cf]) (λs bA=>[some ae,some ag,some v2,some bA.2.1,bA.1,bA.2.2]) (λS (gq:((List (List Int))×(List (Int×Int)))) bA=>(SC.add S K (rP2 (rV (rV Xf)) (rV (rP2 Xf Xf))) bA.2.1 gq)) (YW (qt K) (Yp K qS λa26 v27=>(EJ (K:=K) 3 5 (Ev.sh (CK qS qS qS qS)) λa48 gr v50=>(Yp K qS λa51 iC=>(YU ((some v27),iC,(some v50)) (a51) rfl rfl)))) (YU ((none),fY,(none)) (a14) rfl rfl)) λg57 gp=>(QN (K:=K) 0 rfl (CK qS qS qS qS)))))⟩
def Ct:=Lp.1
theorem Pc:FnScope ["_law_drawing"] ["_law_drawing"] (Xg Hc):=⟨rfl,rfl,rfl,by decide+kernel,rfl,by decide+kernel,by decide+kernel⟩
abbrev ML (m:((List (List Int))×(List (Int×Int)))->Rs ((List (List Int))×(List (Int×Int)))):Prop:=Fn P w K mg base 1 "_law_copy" ["_law_drawing"] (sp1 (rP2 (rV (rV Xf)) (rV (rP2 Xf Xf))) (oT2 (oL (oL (oF Xf))) (oL (oF (rP2 Xf Xf)))) m K)
def EG:{m // Pk λP w K mg base=>Def K mg "_law_copy" Hc ["_law_drawing"]->Blt mg->ML P w K mg base m}:=⟨_, @λP w K mg base D Z=>go1 D Pc 0 0 rfl rfl λhr hu aA=>⟨_,(Xb (Xp (XE (Xa (Zs (sc:=(Xg Hc)) (N0:=["_law_drawing"]) (tns:=["_law_walk"]) (caps:=[]) rfl (XT (K:=K) rfl (Xk K (pv 0) Xc)) (YB (by decide)) (λcl C s H ex E=>⟨Xw (i:=0) (show List.Nodup (["_law_walk"]:List Str) by decide+kernel) rfl (Or.inl rfl),Y3,(XJ (XQ K rfl) rfl Z.b_list PyProof.Rows.boot_list (Xa (pv 0) Xd))⟩)) (Xa (XJ (XQ K rfl) rfl Z.b_list PyProof.Rows.boot_list (Xa (Xk K (pv 0) Xc) Xd)) Xd))))
  Xe),λae aq=>(Xs (Zo (Y5 (λ_=>tg1 0) qw (λC2 a3 v4=>qN)) λ_=>qN))⟩⟩
def G9:=EG.1
theorem JL:FnScope ["_law_found","_law_due","_law_one","_law_other"] ["_law_found","_law_due"] (Xg VC):=⟨rfl,rfl,rfl,by decide+kernel,rfl,by decide+kernel,by decide+kernel⟩
abbrev QQ (m:(List Mx)->(List Mx)->Rs Bool):Prop:=Fn P w K mg base 1 "_law_same_move" ["_law_found","_law_due"] (sp2 (rPL rMx) (rPL rMx) (oF XB) m K)
def Vm:{m // Pk λP w K mg base=>Def K mg "_law_same_move" VC ["_law_found","_law_due"]->Blt mg->QQ P w K mg base m}:=⟨_, @λP w K mg base D Z=>go2 D JL 2 0 rfl rfl λhr hu aA=>⟨_,(Xb (XG (PW.pt (Ve (Q2 (Zg (Xo Zl rfl Z.b_isinstance PyProof.Rows.boot_isinstance (Xa (pv 0) (Xa (UV (v:=V.ty "tuple") rfl Z.b_tuple PyProof.Rows.boot_tuple rfl) Xd))))) (Q0 (Xl FW (Xo (Xj K rfl) rfl Z.b_len boot_len (Xa (pv 0) Xd)) (Xo (Xj K rfl) rfl Z.b_len boot_len (Xa (pv 1) Xd)) (Xq _)))))
   (Xb (Xp Zc)
   Xe)
   Xe)
  (Xb (YX PassesOwn.never rfl (Pm K rfl rfl Z.b_zip (Xa (pv 0) (Xa (pv 1) Xd))) (VX rfl (Yk (Xw (i:=2) JL.nd rfl (Or.inl rfl)) (Yk (Xw (i:=3) JL.nd rfl (Or.inl rfl)) QC)))
   (Xb (XG (PW.pt (Ve (Xl FW (Xo Zl rfl Z.b_isinstance PyProof.Rows.boot_isinstance (Xa (pv 2) (Xa (UV (v:=V.ty "bool") rfl Z.b_bool PyProof.Rows.boot_bool rfl) Xd))) (Xo Zl rfl Z.b_isinstance PyProof.Rows.boot_isinstance (Xa (pv 3) (Xa (UV (v:=V.ty "bool") rfl Z.b_bool PyProof.Rows.boot_bool rfl) Xd))) (Xq _)) (Q0 (Xl FW (pv 2) (pv 3) (Xq _)))))
    (Xb (Xp Zc)
    Xe)
    Xe)
   (Xb (XG (Xl FW (Xo Zl rfl Z.b_isinstance PyProof.Rows.boot_isinstance (Xa (pv 2) (Xa (UV (v:=V.ty "str") rfl Z.b_str PyProof.Rows.boot_str rfl) Xd))) (Xo Zl rfl Z.b_isinstance PyProof.Rows.boot_isinstance (Xa (pv 3) (Xa (UV (v:=V.ty "str") rfl Z.b_str PyProof.Rows.boot_str rfl) Xd))) (Xq _))
    (Xb (Xp Zc)
    Xe)
    Xe)
   Xe)))
  (Xb (Xp Zc)
  Xe))),λae ag aq au=>(XN (Z1 (F9 (Lg (K:=K) (Fm "tuple" true (JZ K "tuple") qB))) (qt K)) (Xs qM) (Tw K (λO (fB:Option V×Option V)=>[]) (λs fB=>[some ae,some ag,fB.1,fB.2]) (λS (g11:Unit) fB=>S) (λ_=>tg2 2 3) ((none),(none)) () (Me qS qS) rfl rfl (λ_ s=>s) (λg12 bi a14 fY=>(Ey (Z1 (XD (K:=K) (KU (KA "bool" false false true (U1 K) (U0 K) (JZ K "bool") qB) (KA "bool" false false true (U1 K) (U0 K) (JZ K "bool") qB))) (XD (K:=K) (Py qB qB))) (Xs qM) (Ey (XD (K:=K) (KU (KA "str" false true false (GT K) (JZ K "str") (Ka K) qB) (KA "str" false true false (GT K) (JZ K "str") (Ka K) qB))) (Xs qM) (O8 (YU ((some fY.1),(some fY.2)) () rfl rfl))))) λf6 ig=>(Xs qM)))⟩⟩
def ZR:=Vm.1
theorem Sf:FnScope ["_law_word"] ["_law_word"] (Xg L6):=⟨rfl,rfl,rfl,by decide+kernel,rfl,by decide+kernel,by decide+kernel⟩
abbrev L3 (m:Str->Rs (Str×Int)):Prop:=Fn P w K mg base 1 "_law_form" ["_law_word"] (sp1 VY (oF (rP2 VY Xf)) m K)
def On:{m // Pk λP w K mg base=>Def K mg "_law_form" L6 ["_law_word"]->Blt mg->L3 P w K mg base m}:=⟨_, @λP w K mg base D Z=>go1 D Sf 0 0 rfl rfl λhr hu aA=>⟨_,(Xb (XG (Xl XY (pv 0) Xu (Xq _))
   (Xb (Xp (XE (Xa Xu (Xa Xc Xd))))
   Xe)
   Xe)
  (Xb (XG (Xl XY (pv 0) Xu (Xq _))
   (Xb (Xp (XE (Xa Xu (Xa Xc Xd))))
   Xe)
   Xe)
  (Xb (XG (Xl XY (pv 0) Xu (Xq _))
   (Xb (Xp (XE (Xa Xu (Xa Xc Xd))))
   Xe)
   Xe)
  (Xb (XG (Xl XY (pv 0) Xu (Xq _))
   (Xb (Xp (XE (Xa Xu (Xa Xc Xd))))
   Xe)
   Xe)
  (Xb (XG (Xl XY (pv 0) Xu (Xq _))
   (Xb (Xp (XE (Xa Xu (Xa Xc Xd))))
   Xe)
   Xe)
  (Xb (Xp (XE (Xa Xu (Xa Xc Xd))))
  Xe)))))),λae aq=>(XN (qt K) (Xs qM) (XN (qt K) (Xs qM) (XN (qt K) (Xs qM) (XN (qt K) (Xs qM) (XN (qt K) (Xs qM) (Xs qM))))))⟩⟩
def La:=On.1
theorem JP:FnScope ["_law_move","_law_more","_law_counts","_law_parts","_law_k"] ["_law_move","_law_more"] (Xg KQ):=⟨rfl,rfl,rfl,by decide+kernel,rfl,by decide+kernel,by decide+kernel⟩
abbrev GQ (m:(List Mx)->Int->Rs (List Mx)):Prop:=Fn P w K mg base 1 "_law_shifted" ["_law_move","_law_more"] (sp2 (rPL rMx) Xf (oF (rPL rMx)) m K)
def Jc:{m // Pk λP w K mg base=>Def K mg "_law_shifted" KQ ["_law_move","_law_more"]->Blt mg->GQ P w K mg base m}:=⟨_, @λP w K mg base D Z=>go2 D JP 3 1 rfl rfl λhr hu aA=>⟨_,(Xb (Xm (i:=2) JP.nd rfl (Or.inl rfl) (PR (J1 Xu Xc (J1 Xu Xc (J1 Xu Xc (J1 Xu Xc (J1 Xu Xc (J1 Xu Xc PU)))))) rfl rfl (by decide) (by decide)))
  (Xb (Xm (i:=3) JP.nd rfl (Or.inl rfl) (XJ (XQ K rfl) rfl Z.b_list PyProof.Rows.boot_list (Xa (pv 0) Xd)))
  (Xb (YX PassesOwn.never rfl (Yr rfl Z.b_range (Xa (K0 aA (pv 2) (Xk K (pv 0) Xc) (λ_ _=>rfl)) Xd)) (Xw (i:=4) JP.nd rfl (Or.inl rfl))
   (Xb (Zf (Xn XC (XA K (pv 3) (Xn XC (Xn X6 Xc (pv 4)) Xc)) (pv 1)) (Qr (pv 3) (Xn XC (Xn X6 Xc (pv 4)) Xc) YH))
   Xe))
  (Xb (Xp (XJ (GZ K rfl) rfl Z.b_tuple PyProof.Rows.boot_tuple (Xa (pv 3) Xd)))
  Xe)))),λae ag aq au=>(Yp K (r:=rDs) (Ev.sh (NL [("turn",(1:Int)),("curl",(1:Int)),("uncurl",(1:Int)),("lay",(2:Int)),("unlay",(2:Int)),("pass",(3:Int))] (by decide) (by decide))) λa1 v2=>(ZI K (o:=(oL (oF rMx))) 0 (Ny qB) λa3 v4 C5=>(CC K (λO (fD:Option V×V×List XZ)=>[fD.2.2]) (λs fD=>[some ae,some ag,some v2,some fD.2.1,fD.1]) (λS (g13:(List Mx)) fD=>(SC.addO S K (oL (oF rMx)) fD.2.1 g13 fD.2.2)) (λ_=>tg1 4) ((none),v4,C5) (a3) (Gy (NR qB qb)) rfl rfl (λ_ s=>(SC.i s s.r)) (λfC x15 a16 v17=>(VW K qn (λ_=>qB) λa33 C34=>(YU ((some v17),x15.2.1,C34) (a33) rfl rfl))) λg35 x36=>(Xs (EvS.ev (EvB.sh (HC qB)))))))⟩⟩
def YN:=Jc.1
theorem B6:FnScope ["_law_drawing","_law_count"] ["_law_drawing","_law_count"] (Xg Qi):=⟨rfl,rfl,rfl,by decide+kernel,rfl,by decide+kernel,by decide+kernel⟩
abbrev Uv (m:((List (List Int))×(List (Int×Int)))->Int->Rs ((List (List Int))×(List (Int×Int)))):Prop:=Fn P w K mg base 1 "_law_ahead_of" ["_law_drawing","_law_count"] (sp2 (rP2 (rV (rV Xf)) (rV (rP2 Xf Xf))) Xf (oT2 (oL (oL (oF Xf))) (oL (oF (rP2 Xf Xf)))) m K)
def UC:{m // Pk λP w K mg base=>Def K mg "_law_ahead_of" Qi ["_law_drawing","_law_count"]->Blt mg->Uv P w K mg base m}:=⟨_, @λP w K mg base D Z=>go2 D B6 0 0 rfl rfl λhr hu aA=>⟨_,(Xb (Xp (XE (Xa (Xn Z2 (Zs (sc:=(Xg Qi)) (N0:=["_law_drawing","_law_count"]) (tns:=["_law_k"]) (caps:=[]) rfl (Yr rfl Z.b_range (Xa (pv 1) Xd)) (YB (by decide)) (λcl C s H ex E=>⟨Xw (i:=0) (show List.Nodup (["_law_k"]:List Str) by decide+kernel) rfl (Or.inl rfl),Y3,(XL Xd)⟩)) (Zs (sc:=(Xg Qi)) (N0:=["_law_drawing","_law_count"]) (tns:=["_law_walk"]) (caps:=[]) rfl (XT (K:=K) rfl (Xk K (pv 0) Xc)) (YB (by decide)) (λcl C s H ex E=>⟨Xw (i:=0) (show List.Nodup (["_law_walk"]:List Str) by decide+kernel) rfl (Or.inl rfl),Y3,(XJ (XQ K rfl) rfl Z.b_list PyProof.Rows.boot_list (Xa (pv 0) Xd))⟩))) (Xa (XJ (XQ K rfl) rfl Z.b_list PyProof.Rows.boot_list (Xa (Xk K (pv 0) Xc) Xd)) Xd))))
  Xe),λae ag aq au=>(Xs (Zo (Rf (Y5 (λ_=>tg1 0) qw (λC4 a5 v6=>(G3 (o:=(oF Xf))))) λ_=>(Y5 (λ_=>tg1 0) qw (λC9 a10 dI=>qN))) λ_=>qN))⟩⟩
def JW:=UC.1
theorem Je:FnScope ["_law_drawing","_law_move","_law_found","_law_count","_law_far","_law_further"] ["_law_drawing","_law_move","_law_found","_law_count"] (Xg Vp):=⟨rfl,rfl,rfl,by decide+kernel,rfl,by decide+kernel,by decide+kernel⟩
abbrev Vh (m:((List (List Int))×(List (Int×Int)))->(List Mx)->(List Mx)->Int->Rs Bool):Prop:=Fn P w K mg base 7 "_law_far_right" ["_law_drawing","_law_move","_law_found","_law_count"] (sp4 (rP2 (rV (rV Xf)) (rV (rP2 Xf Xf))) (rPL rMx) (rPL rMx) Xf (oF XB) m K)
def VF:{m // Pk λP w K mg base=>Def K mg "_law_far_right" Vp ["_law_drawing","_law_move","_law_found","_law_count"]->Uv P w K mg base JW->GQ P w K mg base YN->QQ P w K mg base ZR->KN P w K mg base YZ->M2 P w K mg base YD->Ku P w K mg base YR->SQ P w K mg base GY->Blt mg->Vh P w K mg base m}:=⟨_, @λP w K mg base D aE bt ax aC de aG bz Z=>go4 D Je 2 0 rfl rfl λhr hu aA=>⟨_,(Xb (Xm (i:=4) Je.nd rfl (Or.inl rfl) (Xt aE hr (by decide) (Xa (pv 0) (Xa (pv 3) Xd))))
  (Xb (Xm (i:=5) Je.nd rfl (Or.inl rfl) (Xt bt hr (by decide) (Xa (pv 1) (Xa (pv 3) Xd))))
  (Xb (XG (Xl Gw (Xt aC hr (by decide) (Xa (Xt aE hr (by decide) (Xa (pv 0) (Xa (pv 3) Xd))) (Xa (pv 5) Xd))) Zc (Xq _))
   (Xb (Xp Zc)
   Xe)
   Xe)
  (Xb (XG (Xl (J9 K rfl (Cv (Ib (Ib eq_int)) (Ib (Cv eq_int eq_int))) (Km (by decide) hu)) (Xt de hr (by decide) (Xa (Xt aE hr (by decide) (Xa (pv 0) (Xa (pv 3) Xd))) (Xa (pv 5) Xd))) (Xt aE hr (by decide) (Xa (Xt bz hr (by decide) (Xa (pv 0) (Xa (pv 1) Xd))) (Xa (pv 3) Xd))) (Xq _))
   (Xb (Xp Zc)
   Xe)
   Xe)
  (Xb (Xp (Xt ax hr (by decide) (Xa (Xt aG hr (by decide) (Xa (pv 4) (Xa (pv 5) Xd))) (Xa (Xt bt hr (by decide) (Xa (pv 2) (Xa (pv 3) Xd))) Xd))))
  Xe))))),λae ag aS dS aq au b6 ff=>(Yp K qS λa1 v2=>(Yp K qS λa6 v7=>(XN (XD (K:=K) (DP (b:=true) qB)) (Xs qM) (XN (qt K) (Xs qM) (Xs qN)))))⟩⟩
def QS:=VF.1
end
theorem Fp:FnScope ["_law_script","_law_drawing","_law_move","_law_behind","_law_handed","_law_found"] ["_law_script"] (Xg DL):=⟨rfl,rfl,rfl,by decide+kernel,rfl,by decide+kernel,by decide+kernel⟩
def Sw:{m:(List Int)->Rs Bool // ∀{P:Program}{w:World}{K:W.Frag}{mg:Str->Option Value}{base:Heap}{f:Addr}{fd:FuncData} (D:Fun K "law" "law" DL f fd) (cB:IL P w K mg base Ct) (bz:SQ P w K mg base GY) (bG:ML P w K mg base G9) (aG:Ku P w K mg base YR) (ax:QQ P w K mg base ZR) (cC:L3 P w K mg base La) (aK:Vh P w K mg base QS) (aC:KN P w K mg base YZ) (aQ:HR P w K mg base Be) (Z:Blt mg),FnOk P w K mg base CX0 8 f fd ["_law_script"] (sp1 (rL Xf) (oF XB) m K)}:=⟨_, @λP w K mg base f fd D cB bz bG aG ax cC aK aC aQ Z=>goL D Fp 5 0 rfl rfl λhr hu aA=>⟨_,(Xb (Zf (Xt cB hr (by decide) (Xa (pv 0) (Xa (XL (Xa Xu (Xa Xu (Xa Xu (Xa Xu (Xa Xu (Xa Xu (Xa Xu Xd)))))))) Xd X9))) (VX rfl (Yk (Xw (i:=1) Fp.nd rfl (Or.inl rfl)) (Yk (Xw (i:=2) Fp.nd rfl (Or.inl rfl)) QC))))
  (Xb (Xm (i:=3) Fp.nd rfl (Or.inl rfl) (Xt bz hr (by decide) (Xa (pv 1) (Xa (pv 2) Xd))))
  (Xb (Xm (i:=4) Fp.nd rfl (Or.inl rfl) (Xt bG hr (by decide) (Xa (pv 1) Xd)))
  (Xb (Xm (i:=5) Fp.nd rfl (Or.inl rfl) (Xt aG hr (by decide) (Xa (pv 4) (Xa (pv 2) Xd))))
  (Xb (XG (PW.pt (Ve (Q2 (Zg (Xo Zl rfl Z.b_isinstance PyProof.Rows.boot_isinstance (Xa (pv 5) (Xa (UV (v:=V.ty "tuple") rfl Z.b_tuple PyProof.Rows.boot_tuple rfl) Xd))))) (Q0 (Xl (J9 K rfl (Cv (Ib (Ib eq_int)) (Ib (Cv eq_int eq_int))) (Km (by decide) hu)) (pv 4) (pv 1) (Xq _)))))
   (Xb (Xp Zc)
   Xe)
   Xe)
  (Xb (XG (Xl (J9 K rfl (Cv qc eq_int) (Km (by decide) hu)) (XE (Xa (Xk K (pv 5) Xc) (Xa (Xo (Xj K rfl) rfl Z.b_len boot_len (Xa (pv 5) Xd)) Xd))) (Xt cC hr (by decide) (Xa (Xk K (pv 2) Xc) Xd)) (Xq _))
   (Xb (Xp Zc)
   Xe)
   Xe)
  (Xb (XG (PW.pt (ED (Xl XY (Xk K (pv 2) Xc) Xu (Xq _)) (Dw (Xl (Tv K rfl (Km (by decide) hu)) (pv 5) (XE (Xa Xu (Xa (Xk K (pv 2) Xc) (Xa (Yu X0 (Xk K (pv 2) Xc)) Xd)))) (Xq _)))))
   (Xb (Xp Zc)
   Xe)
   Xe)
  (Xb (XG (PW.pt (Ve (Xl Gw (Xt aC hr (by decide) (Xa (pv 4) (Xa (pv 2) Xd))) Zc (Xq _)) (Q0 (Xl Gw (Xt aC hr (by decide) (Xa (Xt bG hr (by decide) (Xa (pv 3) Xd)) (Xa (pv 5) Xd))) Zc (Xq _)))))
   (Xb (Xp Zc)
   Xe)
   Xe)
  (Xb (XG (Xl (J9 K rfl (Cv (Ib (Ib eq_int)) (Ib (Cv eq_int eq_int))) (Km (by decide) hu)) (Xt bz hr (by decide) (Xa (pv 3) (Xa (pv 5) Xd))) (pv 1) (Xq _))
   (Xb (Xp Zc)
   Xe)
   Xe)
  (Xb (XG (Q2 (Zg (Xt aK hr (by decide) (Xa (pv 1) (Xa (pv 2) (Xa (pv 5) (Xa (XA K (Xt aQ hr (by decide) (Xa (pv 0) (Xa Xc (Xa (XL (Xa Xc Xd)) Xd X9)))) Xc) Xd)))))))
   (Xb (Xp Zc)
   Xe)
   Xe)
  (Xb (Xp (Xt ax hr (by decide) (Xa (Xt aG hr (by decide) (Xa (Xt bG hr (by decide) (Xa (pv 3) Xd)) (Xa (pv 5) Xd))) (Xa (pv 2) Xd))))
  Xe))))))))))),λae aq=>(EJ (K:=K) 1 2 (Ev.sh (IW qS qS)) λa19 v20 v21=>(Yp K qS λa22 v23=>(Yp K qS λa27 v28=>(Yp K qS λa31 v32=>(XN (Z1 (F9 (Lg (K:=K) (Fm "tuple" true (JZ K "tuple") qB))) (qt K)) (Xs qM) (XN (XD (K:=K) (GJ (Ev.toB (EvS.ev (Zq (EvB.sh (Lf qB)) qS))) qB)) (Xs qM) (XN (M3 (qt K) (XD (K:=K) (Pn qB (Ev.toB (EvS.ev (YL (r:=rMx) qa)))))) (Xs qM) (XN (Z1 (XD (K:=K) (DP (b:=true) qB)) (XD (K:=K) (DP (b:=true) qB))) (Xs qM) (XN (qt K) (Xs qM) (XN (qt K) (Xs qM) (Xs qN)))))))))))⟩⟩
def HJ:=Sw.1
end My
namespace L2
open PySem
section
variable {α β γ ρ:Type}
theorem Rs.okb (a:α)(f:α->Rs β):(Rs.ok a).bind f=f a:=(Eq.refl (f a)).symm.symm
theorem LN {f:α->Rs β}{h:α->β}:∀{as:List α},(∀a∈as,f a= .ok (h a))->Ie as f= .ok (as.map h)
 | [],_=>rfl
 |a::as,hf=>by
  show(f a).bind _=_
  rw[hf a (by simp),Rs.ok_bind,LN λb hb=>hf b (by simp[hb])];rfl
theorem Jf {f:α->Rs β}{h:α->β}{as:List α}(hl:as.length<=sizeLine)(hf:∀a∈as,f a= .ok (h a)):Wq as f= .ok (as.map h):=by
 unfold Wq;rw[Xi hl];exact LN hf
theorem LH {c:α->Rs Bool}{f:α->Rs β}{p:α->Bool}{h:α->β}:∀{as:List α},(∀a∈as,c a= .ok (p a))->(∀a∈as,p a=true->f a= .ok (h a))->E2 as c f= .ok ((as.filter p).map h)
 | [],_,_=>rfl
 |a::as,hc,hf=>by
  show(c a).bind _=_
  rw[hc a (by simp),Rs.ok_bind]
  have ih:=LH (as:=as) (λb hb=>hc b (by simp[hb])) λb hb=>hf b (by simp[hb])
  cases hp:p a with
  |false=>rw[if_neg (by simp),ih,List.filter_cons,hp];rfl
  |true=>rw[if_pos rfl,hf a (by simp) hp,Rs.ok_bind,ih,List.filter_cons,hp];rfl
theorem FU {c:α->Rs Bool}{f:α->Rs β}{p:α->Bool}{h:α->β}{as:List α}(hl:as.length<=sizeLine)(hc:∀a∈as,c a= .ok (p a))(hf:∀a∈as,p a=true->f a= .ok (h a)):Wi as c f= .ok ((as.filter p).map h):=by
 unfold Wi;rw[Xi hl];exact LH hc hf
theorem C7 {f:γ->α->Rs γ}(P:Nat->γ->Prop):∀(as:List α) (k:Nat) (g:γ),P k g->(∀i a g,as[i]?=some a->P (k+i) g->∃g',f g a= .ok g'/\P (k+i+1) g')->∃g',forN as g f= .ok g'/\P (k+as.length) g'
 | [],k,g,h0,_=>⟨g,rfl,h0⟩
 |a::as,k,g,h0,hs=>by
  obtain⟨g1,e1,p1⟩:=hs 0 a g rfl h0
  obtain⟨g2,e2,p2⟩:=C7 P as (k+1) g1 p1 λi b g hb hp=>by
   obtain⟨g',e',p'⟩:=hs (i+1) b g (by simpa using hb) (by rw[show k+(i+1)=k+1+i by omega];exact hp)
   exact⟨g',e',by rw[show k+1+i+1=k+(i+1)+1 by omega];exact p'⟩
  refine⟨g2,?_,by rw[List.length_cons,show k+(as.length+1)=k+1+as.length by omega];exact p2⟩
  show(f g a).bind _=_
  rw[e1,Rs.ok_bind];exact e2
theorem EL {f:γ->α->Rs γ}(P:Nat->γ->Prop){as:List α}{g:γ}(h0:P 0 g)(hs:∀i a g,as[i]?=some a->P i g->∃g',f g a= .ok g'/\P (i+1) g'):∃g',forN as g f= .ok g'/\P as.length g':=by
 have:=C7 P as 0 g h0 (by simpa using hs)
 simpa using this
theorem EY {f:γ->α->Rs (Ctl ρ γ)}:∀{as:List α}{g:γ},(∀a∈as,f g a= .ok (.nx g))->M5 as g f= .ok (.nx g)
 | [],_,_=>rfl
 |a::as,g,hf=>by
  show(f g a).bind _=_
  rw[hf a (by simp),Rs.ok_bind]
  exact EY λb hb=>hf b (by simp[hb])
theorem Yn {a b:Int}(h:0<b):TD a b= .ok (a % b):=Xi h
theorem YT {a b:Int}(h1: -(2^64)<a)(h2:a<2^64):Oh a b= .ok (a*b):=Xi (.inl ⟨h1,h2⟩)
theorem Jd {a b:Int}(h1: -(2^64)<b)(h2:b<2^64):Oh a b= .ok (a*b):=Xi (.inr ⟨h1,h2⟩)
theorem IK {a b:Int}(h:0<b)(h2:b<2^250):WH a b= .ok (a/b):=Xi ⟨h,by
 have h3:b.natAbs<2^250:=by omega
 rcases Nat.eq_zero_or_pos b.natAbs with h0 |h0
 ·omega
 ·have:=(Nat.log2_lt (by omega)).mpr h3
  omega⟩
theorem U3 {a b:Int}(h0:0<=b)(h1:b<=1000000)(h2: -(2^64)<a)(h3:a<2^64):WI a b= .ok (a^b.toNat):=Xi ⟨h0,h1,by omega⟩
theorem ZE {as:List α}{i:Nat}{a:α}(h:as[i]?=some a):atR as (i:Int)= .ok a:=by
 have av:=(List.getElem?_eq_some_iff.mp h).1
 unfold atR atI ixN
 rw[if_pos (by omega),if_pos (by omega)]
 simp[h]
theorem JM {as:List α}{i:Int}{a:α}(h0:0<=i)(h:as[i.toNat]?=some a):atR as i= .ok a:=by
 have:i=(i.toNat:Int):=by omega
 rw[this];exact ZE h
theorem ZM {n:Nat}(h:n<2^62):Ov 0 (n:Int)= .ok ((List.range n).map λ(i:Nat)=>(i:Int)):=by
 unfold Ov
 rw[Xi (by omega)]
 unfold Ub
 congr 1
 rw[Int.sub_zero,Int.toNat_natCast]
 exact List.map_congr_left λi _=>by omega
theorem Y1 {n i:Nat}{a:Int}(h:((List.range n).map λ(i:Nat)=>(i:Int))[i]?=some a):a=(i:Int)/\i<n:=by
 have av:=(List.getElem?_eq_some_iff.mp h).1
 simp only[List.length_map,List.length_range] at av
 rw[List.getElem?_map,List.getElem?_range av] at h
 exact⟨(Option.some.inj h).symm,av⟩
theorem LJ {n:Nat}{a:Int}(h:a∈(List.range n).map λ(i:Nat)=>(i:Int)):∃i:Nat,i<n/\a=(i:Int):=by
 obtain⟨i,hi,rfl⟩:=List.mem_map.mp h
 exact⟨i,List.mem_range.mp hi,rfl⟩
theorem Zu {n:Nat}:((List.range n).map λ(i:Nat)=>(i:Int)).length=n:=by simp
theorem GN {a:Bool}{b:Rs Bool}{c:Bool}(h:a=true->b= .ok c):O5 (.ok a) b= .ok (a&&c):=by
 cases a with
 |false=>rfl
 |true=>
  show(if true=true then b else Rs.ok false)=_
  rw[if_pos rfl,h rfl];rfl
theorem sz {n:Nat}(h:n<=100000):n<=sizeLine:=Nat.le_trans h (by decide)
theorem Hz {n:Nat}(h:n<=100000):n<sizeLine:=Nat.lt_of_le_of_lt h (by decide)
def Ok (m:Rs β)(R:β->Prop):Prop:=∃ r,m= .ok r/\R r
theorem Ok.bind {m:Rs α}{f:α->Rs β}{R:α->Prop}{T:β->Prop}(h:Ok m R)(hf:∀a,R a->Ok (f a) T):Ok (m.bind f) T:=by
 obtain⟨a,e,ha⟩:=h
 rw[e];exact hf a ha
theorem Ok.noE {m:Rs α}{R:α->Prop}(h:Ok m R):Ok (noE m) R:=by
 obtain⟨a,e,ha⟩:=h
 rw[e];exact⟨a,rfl,ha⟩
theorem Ok.ite {b:Bool}{m n:Rs α}{R:α->Prop}(h1:b=true->Ok m R)(h2:b=false->Ok n R):Ok (if b=true then m else n) R:=by
 cases b with
 |true=>rw[if_pos rfl];exact h1 rfl
 |false=>rw[if_neg Bool.false_ne_true];exact h2 rfl
theorem Ok.forN {f:γ->α->Rs γ}(P:Nat->γ->Prop){as:List α}{g:γ}(h0:P 0 g)(hs:∀i a g,as[i]?=some a->P i g->Ok (f g a) (P (i+1))):Ok (forN as g f) (P as.length):=EL P h0 hs
theorem JS {f:γ->Rs ρ}(g:γ):G1 f (.nx g)=f g:=(Eq.refl (f g)).symm.symm
theorem IM {f:γ->Rs ρ}(r:ρ):G1 f (.ret r)= .ok r:=(Eq.refl (Rs.ok r)).symm.symm
theorem Xr (a:α):noE (Rs.ok a)= .ok a:=(Eq.refl (Rs.ok a)).symm.symm
end
end L2
namespace My
open PySem L2
theorem Mn (ns:List Int){p:Int}(hp:0<=p):∃c,E9 ns p= .ok c:=by
 unfold E9 L4;dsimp only
 simp only[Rs.okb]
 by_cases h:p<(ns.length:Int)
 ·rw[decide_eq_true h,if_pos rfl]
  have hl:p.toNat<ns.length:=by omega
  exact⟨ns[p.toNat],JM hp (by simp[hl])⟩
 ·rw[decide_eq_false h,if_neg Bool.false_ne_true]
  obtain⟨g,e,_⟩:=EL (as:=G8 ns none (some 63)) (g:=(5:Int)) (f:=λeT a17=>(Rs.bind (Rs.bind (Rs.bind (Rs.bind (Oh eT 48271) λic=>(Rs.bind (TD a17 1000003) λie=>(Rs.ok (ic+ie)))) λcG=>Rs.ok (cG+1)) λx29=>TD x29 2147483647) λa19=>(Rs.ok (a19)))) (λ_ _=>True) True.intro λi a g _ _=>by
   rw[Jd (by decide) (by decide),Rs.ok_bind,Yn (by decide),Rs.ok_bind,Rs.ok_bind,Rs.ok_bind,Yn (by decide),Rs.ok_bind]
   exact⟨_,rfl,True.intro⟩
  rw[e,Rs.ok_bind,YT (by decide) (by decide),Rs.ok_bind,Rs.ok_bind,Yn (by decide)]
  exact⟨_,rfl⟩
theorem Oi (c:Int){k:Int}(h0:0<=k)(h1:k<=100000):∃y,Ng c k= .ok y/\0<=y:=by
 unfold Ng Ph;dsimp only
 simp only[Rs.okb]
 have hm:0<=c % 2147483629/\c % 2147483629<2147483629:=⟨Int.emod_nonneg _ (by decide),Int.emod_lt_of_pos _ (by decide)⟩
 rw[Yn (by decide),Rs.ok_bind,YT (by decide) (by decide),Rs.ok_bind,Rs.ok_bind,Rs.ok_bind,U3 (by decide) (by decide) (by omega) (by omega),Rs.ok_bind,Yn (by decide),Rs.ok_bind]
 rw[Jd (by decide) (by decide),Rs.ok_bind,YT (by decide) (by decide),Rs.ok_bind,Jd (by omega) (by omega),Rs.ok_bind,Rs.ok_bind,Rs.ok_bind,Yn (by decide),Rs.ok_bind,IK (by decide) (by decide)]
 exact⟨_,rfl,Int.ediv_nonneg (Int.emod_nonneg _ (by decide)) (by decide)⟩
theorem ER (ns:List Int){p:Int}(hp:0<=p)(aL:List Int)(hl:aL.length<=100000)(hs:∀x∈aL,0<x/\x<2^250):
  Ok (Be ns p aL) λr=>r.length=aL.length/\∀(i:Nat) x s,r[i]?=some x->aL[i]?=some s->0<=x/\x<s:=by
 obtain⟨c,ec⟩:=Mn ns hp
 unfold Be R3;dsimp only
 simp only[Rs.okb]
 rw[ec,show noE (Rs.ok c)= .ok c from rfl,Rs.ok_bind,ZM (by omega),Rs.ok_bind,U3 (by decide) (by decide) (by decide) (by decide)]
 simp only[Rs.okb]
 have key:∀(i:Nat) (a:Int) (g:List Int×Int),((List.range aL.length).map λ(i:Nat)=>(i:Int))[i]?=some a->(g.1.length=i/\∀(j:Nat) x s,g.1[j]?=some x->aL[j]?=some s->0<=x/\x<s)->∀y z:Int,∀s,aL[i]?=some s->0<=y/\y<s->((g.1++[y],z).1.length=i+1/\∀(j:Nat) x s,(g.1++[y],z).1[j]?=some x->aL[j]?=some s->0<=x/\x<s):=by
  intro i a g ha ⟨hg,hq⟩ y z s hs1 hy
  refine⟨by simp[hg],λj x s' hx dz=>?_⟩
  have hx:(g.1++[y])[j]?=some x:=hx
  rcases Nat.lt_trichotomy j i with hj |hj |hj
  ·rw[List.getElem?_append_left (by omega)] at hx;exact hq j x s' hx dz
  ·subst hj
   rw[List.getElem?_append_right (by omega),hg,Nat.sub_self] at hx
   have:y=x:=by simpa using hx
   rw[hs1] at dz
   cases dz
   rw[←this];exact hy
  ·rw[List.getElem?_eq_none (by simp;omega)] at hx;cases hx
 refine Ok.bind (Ok.forN (λi (g:List Int×Int)=>g.1.length=i/\∀(j:Nat) x s,g.1[j]?=some x->aL[j]?=some s->0<=x/\x<s) ⟨rfl,λj x s h _=>by simp at h⟩ λi a g ha hg=>?_) (T:=λ(r:List Int)=>r.length=aL.length/\∀(i:Nat) x s,r[i]?=some x->aL[i]?=some s->0<=x/\x<s) λg ⟨hg,hq⟩=>?_
 ·obtain⟨rfl,hi⟩:=Y1 ha
  have hsz:aL[i]?=some aL[i]:=by simp[hi]
  have cK:=hs _ (List.getElem_mem hi)
  have hgl:g.1.length<sizeLine:=Hz (by have:=hg.1;omega)
  by_cases hc:c<10^(18:Int).toNat
  ·rw[decide_eq_true hc,if_pos rfl]
   obtain⟨y,ey,hy⟩:=Oi c (k:=(i:Int)) (by omega) (by omega)
   rw[ey,show noE (Rs.ok y)= .ok y from rfl,Rs.ok_bind,ZE hsz,Rs.ok_bind,Yn cK.1,Rs.ok_bind,Xi hgl]
   exact⟨_,rfl,key i _ g ha hg _ _ _ hsz ⟨Int.emod_nonneg _ (by omega),Int.emod_lt_of_pos _ cK.1⟩⟩
  ·rw[decide_eq_false hc,if_neg Bool.false_ne_true]
   by_cases hq:0<g.2
   ·rw[decide_eq_true hq,if_pos rfl,ZE hsz,Rs.ok_bind,Yn cK.1,Rs.ok_bind,Xi hgl]
    simp only[Rs.okb]
    rw[IK cK.1 cK.2]
    exact⟨_,rfl,key i _ g ha hg _ _ _ hsz ⟨Int.emod_nonneg _ (by omega),Int.emod_lt_of_pos _ cK.1⟩⟩
   ·rw[decide_eq_false hq,if_neg Bool.false_ne_true,Yn (by decide),Rs.ok_bind]
    obtain⟨c2,ec2⟩:=Mn ns (p:=(p+1+(i:Int)) % 63) (Int.emod_nonneg _ (by decide))
    obtain⟨y,ey,hy⟩:=Oi c2 (k:=(i:Int)) (by omega) (by omega)
    rw[ec2,show noE (Rs.ok c2)= .ok c2 from rfl,Rs.ok_bind,ey,show noE (Rs.ok y)= .ok y from rfl,Rs.ok_bind,ZE hsz,Rs.ok_bind,Yn cK.1,Rs.ok_bind,Xi hgl]
    exact⟨_,rfl,key i _ g ha hg _ _ _ hsz ⟨Int.emod_nonneg _ (by omega),Int.emod_lt_of_pos _ cK.1⟩⟩
 ·rw[Zu] at hg
  exact⟨g.1,rfl,hg,hq⟩
end My
namespace My
end My
namespace My
open PySem L2
theorem YF {α:Type}{as:List α}{i:Nat}{a:α}(h:i<as.length):Ui as (i:Int) a= .ok (as.set i a):=by
 unfold Ui ixN
 rw[if_pos (by omega),if_pos (by omega)]
 simp
theorem Tq {as:List Int}{i:Nat}(h:i<as.length)(hl:as.length<=100000):NF as (i:Int)= .ok (as[i],as.eraseIdx i):=by
 unfold NF
 rw[Xi (by omega)]
 have e:seqIndex? (i:Int) as.length=some i:=by
  unfold seqIndex?
  have h0:¬((i:Int)<0):=by omega
  simp[h0,h]
 rw[e]
 simp[h]
end My
namespace My
theorem Kd (names:List Int):(names.flatMap λx=>[x,-x]).length=2*names.length:=by
 induction names with
 |nil=>rfl
 |cons x r ih=>rw[List.flatMap_cons,List.length_append,ih];simp;omega
theorem BT (n:Nat):(List.replicate n ([]:List Int)).flatten=[]:=by
 induction n with
 |zero=>rfl
 |succ n ih=>rw[List.replicate_succ,List.flatten_cons,ih];rfl
theorem UG {α:Type}:∀{l:List α}{k:Nat}{y:α},l[k]?=some y->(y::l.eraseIdx k).Perm l
 | [],_,_,e=>by simp at e
 |a::r,0,y,e=>by
  have e':a=y:=by simpa using e
  subst e';exact List.Perm.refl _
 |a::r,k+1,y,e=>by
  have e':r[k]?=some y:=by simpa using e
  show(y::a::r.eraseIdx k).Perm (a::r)
  exact(List.Perm.swap a y _).trans (List.Perm.cons a (UG e'))
theorem Ci {α:Type}{l:List α}{k:Nat}{y:α}(e:l[k]?=some y):(l.eraseIdx k).length+1=l.length:=by
 have:=(UG e).length_eq
 simpa using this
theorem Hi {α:Type}:∀{ws:List (List α)}{j:Nat}{w:List α}{y:α},ws[j]?=some w->((ws.set j (w++[y])).flatten).Perm (y::ws.flatten)
 | [],_,_,_,e=>by simp at e
 |a::r,0,w,y,e=>by
  have e':a=w:=by simpa using e
  subst e'
  show((a++[y])++r.flatten).Perm (y::(a++r.flatten))
  rw[List.append_assoc]
  exact List.perm_middle
 |a::r,j+1,w,y,e=>by
  have e':r[j]?=some w:=by simpa using e
  show(a++(r.set j (w++[y])).flatten).Perm (y::(a++r.flatten))
  exact(List.Perm.append_left a (Hi e')).trans List.perm_middle
theorem LF {α:Type}{ws:List (List α)}{j k:Nat}{w l:List α}{y:α}(e:ws[j]?=some w)(e3:l[k]?=some y):((ws.set j (w++[y])).flatten++l.eraseIdx k).Perm (ws.flatten++l):=by
 refine((Hi (y:=y) e).append_right _).trans ?_
 rw[List.cons_append]
 refine List.perm_middle.symm.trans ?_
 exact List.Perm.append_left _ (UG e3)
theorem mem_set {α:Type}:∀{l:List α}{j:Nat}{v x:α},x∈l.set j v->x∈l∨x=v
 | [],_,_,_,h=>by simp at h
 |a::r,0,v,x,h=>by
  rw[List.set_cons_zero] at h
  rcases List.mem_cons.mp h with h |h
  ·exact .inr h
  ·exact .inl (List.mem_cons_of_mem _ h)
 |a::r,j+1,v,x,h=>by
  rw[List.set_cons_succ] at h
  rcases List.mem_cons.mp h with h |h
  ·exact .inl (by rw[h];exact List.mem_cons_self)
  ·rcases mem_set h with h |h
   ·exact .inl (List.mem_cons_of_mem _ h)
   ·exact .inr h
theorem Cz:∀{l:List Bool}{j:Nat},l[j]?=some false->(l.set j true).count false+1=l.count false
 | [],_,e=>by simp at e
 |a::r,0,e=>by
  have e':a=false:=by simpa using e
  subst e';simp
 |a::r,j+1,e=>by
  have e':r[j]?=some false:=by simpa using e
  have ih:=Cz e'
  rw[List.set_cons_succ,List.count_cons,List.count_cons]
  omega
end My
namespace My
def BY (r:Int×Int)(at':Int):List Int:=if at'=r.1 then[r.2] else if at'=r.1+1 then[-r.2] else[]
def Ft (r:Int×Int)(at':Int):Int:=if at'=r.1 then r.1+1 else if at'=r.1+1 then r.1 else at'
def Nc:List (Int×Int)->Int->Int
 | [],a=>a
 |r::rs,a=>Nc rs (Ft r a)
def Es:List (Int×Int)->Int->List Int
 | [],_=>[]
 |r::rs,a=>BY r a++Es rs (Ft r a)
theorem Ls (rs:List (Int×Int))(r:Int×Int):∀a,Nc (rs++[r]) a=Ft r (Nc rs a):=by
 induction rs with
 |nil=>intro a;rfl
 |cons q rs ih=>intro a;exact ih _
theorem Le (rs:List (Int×Int))(r:Int×Int):∀a,Es (rs++[r]) a=Es rs a++BY r (Nc rs a):=by
 induction rs with
 |nil=>intro a;simp[Es,Nc]
 |cons q rs ih=>intro a;simp[Es,Nc,ih]
theorem BE {S:Int}{r:Int×Int}{a:Int}(h0:0<=r.1)(h1:r.1+1<S)(a0:0<=a)(a1:a<S):0<=Ft r a/\Ft r a<S:=by
 unfold Ft
 split
 ·omega
 ·split<;> omega
def HX (S:Nat):List Int:=(List.range S).map λ(k:Nat)=>(k:Int)
theorem JV {S:Nat}{x:Int}:x∈HX S↔0<=x/\x<(S:Int):=by
 unfold HX
 rw[List.mem_map]
 constructor
 ·rintro⟨k,hk,rfl⟩
  have:=List.mem_range.mp hk
  omega
 ·rintro⟨h0,h1⟩
  exact⟨x.toNat,List.mem_range.mpr (by omega),by omega⟩
theorem ZG {α β:Type}{f:α->β}:∀{l:List α},(∀a b,a∈l->b∈l->f a=f b->a=b)->l.Nodup->(l.map f).Nodup
 | [],_,_=>List.nodup_nil
 |a::r,h,nd=>by
  rw[List.map_cons,List.nodup_cons]
  refine⟨λm=>?_,ZG (λx y hx hy=>h x y (List.mem_cons_of_mem _ hx) (List.mem_cons_of_mem _ hy)) (List.nodup_cons.mp nd).2⟩
  obtain⟨b,hb,e⟩:=List.mem_map.mp m
  have:=h b a (List.mem_cons_of_mem _ hb) List.mem_cons_self e
  exact(List.nodup_cons.mp nd).1 (by rw[←this];exact hb)
theorem JT (S:Nat):(HX S).Nodup:=ZG (λa b _ _ e=>by omega) List.nodup_range
theorem US {α:Type}[DecidableEq α]:∀{l m:List α},l.Nodup->m.Nodup->(∀x,x∈l↔x∈m)->l.Perm m
 | [],m,_,_,h=>by
  cases m with
  |nil=>exact List.Perm.refl _
  |cons a r=>exact absurd ((h a).mpr List.mem_cons_self) (by simp)
 |a::r,m,nl,nm,h=>by
  have ha:a∈m:=(h a).mp List.mem_cons_self
  have hp:m.Perm (a::m.erase a):=List.perm_cons_erase ha
  refine List.Perm.trans (List.Perm.cons a ?_) hp.symm
  have eP:(a::m.erase a).Nodup:=hp.nodup_iff.mp nm
  refine US (List.nodup_cons.mp nl).2 (List.nodup_cons.mp eP).2 λx=>?_
  constructor
  ·intro hx
   have iO:x≠a:=λe=>(List.nodup_cons.mp nl).1 (by rw[←e];exact hx)
   have:x∈a::m.erase a:=hp.mem_iff.mp ((h x).mp (List.mem_cons_of_mem _ hx))
   exact(List.mem_cons.mp this).resolve_left iO
  ·intro hx
   have iO:x≠a:=λe=>(List.nodup_cons.mp eP).1 (e▸hx)
   have:x∈a::r:=(h x).mpr (hp.mem_iff.mpr (List.mem_cons_of_mem _ hx))
   exact(List.mem_cons.mp this).resolve_left iO
theorem Lc {S:Nat}{r:Int×Int}(h0:0<=r.1)(h1:r.1+1<(S:Int)):((HX S).map (Ft r)).Perm (HX S):=by
 refine US (ZG (λa b _ _ e=>?_) (JT S)) (JT S) λx=>?_
 ·unfold Ft at e
  split at e<;> split at e<;> (try split at e)<;> (try split at e)<;> omega
 ·rw[List.mem_map,JV]
  constructor
  ·rintro⟨a,ha,rfl⟩
   have:=JV.mp ha
   exact BE h0 h1 this.1 this.2
  ·rintro⟨x0,x1⟩
   refine⟨Ft r x,JV.mpr (BE h0 h1 x0 x1),?_⟩
   unfold Ft
   split<;> (try split)<;> (try split)<;> omega
theorem Ja {α β:Type}(f:α->List β){l m:List α}(h:l.Perm m):(l.flatMap f).Perm (m.flatMap f):=by
 induction h with
 |nil=>exact List.Perm.refl _
 |cons x _ ih=>rw[List.flatMap_cons,List.flatMap_cons];exact List.Perm.append_left _ ih
 |swap x y l=>
  rw[List.flatMap_cons,List.flatMap_cons,List.flatMap_cons,List.flatMap_cons, ←List.append_assoc, ←List.append_assoc]
  exact List.Perm.append_right _ List.perm_append_comm
 |trans _ _ ih1 ih2=>exact ih1.trans ih2
theorem KZ {α β:Type}(f g:α->List β):∀l:List α,(l.flatMap λx=>f x++g x).Perm (l.flatMap f++l.flatMap g)
 | []=>List.Perm.refl _
 |a::r=>by
  rw[List.flatMap_cons,List.flatMap_cons,List.flatMap_cons]
  refine(List.Perm.append_left _ (KZ f g r)).trans ?_
  rw[List.append_assoc,List.append_assoc]
  refine List.Perm.append_left _ ?_
  rw[←List.append_assoc, ←List.append_assoc]
  exact List.Perm.append_right _ List.perm_append_comm
theorem Vr {α β:Type}(f:α->List β):∀{l:List α},(∀x∈l,f x=[])->l.flatMap f=[]
 | [],_=>rfl
 |a::r,h=>by rw[List.flatMap_cons,h a List.mem_cons_self,Vr f λx hx=>h x (List.mem_cons_of_mem _ hx)];rfl
theorem N8 {S:Nat}{r:Int×Int}(h0:0<=r.1)(h1:r.1+1<(S:Int)):((HX S).flatMap (BY r)).Perm [r.2,-r.2]:=by
 have ha:r.1∈HX S:=JV.mpr ⟨h0,by omega⟩
 have hp:=List.perm_cons_erase ha
 have nd:=hp.nodup_iff.mp (JT S)
 have hb:r.1+1∈(HX S).erase r.1:=by
  have:r.1+1∈r.1::(HX S).erase r.1:=hp.mem_iff.mp (JV.mpr ⟨by omega,h1⟩)
  exact(List.mem_cons.mp this).resolve_left (by omega)
 have hq:=List.perm_cons_erase hb
 have eP:=hq.nodup_iff.mp (List.nodup_cons.mp nd).2
 refine(Ja _ (hp.trans (List.Perm.cons _ hq))).trans ?_
 rw[List.flatMap_cons,List.flatMap_cons,Vr]
 ·unfold BY
  rw[if_pos rfl,if_neg (by omega),if_pos rfl]
  exact List.Perm.refl _
 ·intro x hx
  have x2:x≠r.1+1:=λe=>(List.nodup_cons.mp eP).1 (e▸hx)
  have x1:x≠r.1:=λe=>(List.nodup_cons.mp nd).1 (e▸hq.mem_iff.mpr (List.mem_cons_of_mem _ hx))
  unfold BY
  rw[if_neg x1,if_neg x2]
theorem VB {α β γ:Type}(f:α->β)(g:β->List γ)(l:List α):(l.map f).flatMap g=l.flatMap λx=>g (f x):=by
 induction l with
 |nil=>rfl
 |cons a r ih=>rw[List.map_cons,List.flatMap_cons,List.flatMap_cons,ih]
theorem E1 {S:Nat}:∀{rs:List (Int×Int)},(∀r∈rs,0<=r.1/\r.1+1<(S:Int))->((HX S).flatMap (Es rs)).Perm (rs.flatMap λr=>[r.2,-r.2])
 | [],_=>by rw[Vr (Es []) (λx _=>rfl)];exact List.Perm.refl _
 |r::rs,h=>by
  obtain⟨h0,h1⟩:=h r List.mem_cons_self
  rw[List.flatMap_cons]
  refine(KZ (BY r) (λa=>Es rs (Ft r a)) (HX S)).trans ?_
  refine List.Perm.append (N8 h0 h1) ?_
  rw[←VB (Ft r) (Es rs)]
  exact(Ja _ (Lc h0 h1)).trans (E1 λq hq=>h q (List.mem_cons_of_mem _ hq))
theorem PP {x s:Int}(h:s=1∨s= -1): [x*s,-(x*s)].Perm [x,-x]:=by
 rcases h with h |h
 ·subst h;simp
 ·subst h
  have e1:x* -1= -x:=by omega
  have e2: -(-x)=x:=by omega
  rw[e1,e2]
  exact List.Perm.swap _ _ _
theorem Ua {α β:Type}{f g:α->List β}:∀{l:List α},(∀x∈l,(f x).Perm (g x))->(l.flatMap f).Perm (l.flatMap g)
 | [],_=>List.Perm.refl _
 |a::r,h=>by
  rw[List.flatMap_cons,List.flatMap_cons]
  exact List.Perm.append (h a List.mem_cons_self) (Ua λx hx=>h x (List.mem_cons_of_mem _ hx))
end My
namespace My
theorem Pj {r:Int×Int}{a:Int}(h:a=r.1):BY r a=[r.2]:=by unfold BY;rw[if_pos h]
theorem Pg {r:Int×Int}{a:Int}(h:a=r.1+1):BY r a=[-r.2]:=by unfold BY;rw[if_neg (by omega),if_pos h]
theorem PV {r:Int×Int}{a:Int}(h:¬a=r.1)(h2:¬a=r.1+1):BY r a=[]:=by unfold BY;rw[if_neg h,if_neg h2]
theorem Rz {r:Int×Int}{a:Int}(h:a=r.1):Ft r a=r.1+1:=by unfold Ft;rw[if_pos h]
theorem Pu {r:Int×Int}{a:Int}(h:a=r.1+1):Ft r a=r.1:=by unfold Ft;rw[if_neg (by omega),if_pos h]
theorem RV {r:Int×Int}{a:Int}(h:¬a=r.1)(h2:¬a=r.1+1):Ft r a=a:=by unfold Ft;rw[if_neg h,if_neg h2]
structure Done (S:Int)(seen:List Bool)(ps:List Int):Prop where
 nd:ps.Nodup
 at':∀p∈ps,0<=p/\p<S/\seen[p.toNat]?=some true
 of:∀q:Nat,seen[q]?=some true->(q:Int)∈ps
theorem Done.none (S:Int)(n:Nat):Done S (List.replicate n false) []:=
 ⟨List.nodup_nil,λp h=>by simp at h,λq h=>by
  rw[List.getElem?_replicate] at h
  split at h<;> cases h⟩
theorem Dt {l:List Bool}{j q:Nat}(h:l[q]?=some true):(l.set j true)[q]?=some true:=by
 by_cases e:j=q
 ·subst e
  rw[List.getElem?_set_self (List.getElem?_eq_some_iff.mp h).1]
 ·rw[List.getElem?_set_ne e];exact h
theorem Done.snoc {S:Int}{seen:List Bool}{ps:List Int}{a:Int}(h:Done S seen ps)(a0:0<=a)(a1:a<S)(e:seen[a.toNat]?=some false):Done S (seen.set a.toNat true) (ps++[a]):=by
 have hl:a.toNat<seen.length:=(List.getElem?_eq_some_iff.mp e).1
 have hn:a∉ps:=λm=>by
  have:=(h.at' a m).2.2
  rw[e] at this;cases this
 refine⟨?_,λp hp=>?_,λq hq=>?_⟩
 ·rw[List.nodup_append]
  refine⟨h.nd,by simp,λx hx y hy=>?_⟩
  rw[List.mem_singleton.mp hy]
  exact λe=>hn (e▸hx)
 ·rcases List.mem_append.mp hp with hp |hp
  ·obtain⟨h1,h2,h3⟩:=h.at' p hp
   exact⟨h1,h2,Dt h3⟩
  ·rw[List.mem_singleton.mp hp]
   exact⟨a0,a1,by rw[List.getElem?_set_self hl]⟩
 ·by_cases hqa:a.toNat=q
  ·exact List.mem_append_right _ (List.mem_singleton.mpr (by omega))
  ·rw[List.getElem?_set_ne hqa] at hq
   exact List.mem_append_left _ (h.of q hq)
theorem Done.all {S:Int}{seen:List Bool}{ps:List Int}(h:Done S seen ps)(hl:seen.length=S.toNat)(h0:0<=S)(ha:∀q:Nat,q<S.toNat->seen[q]?=some true):ps.Perm (HX S.toNat):=by
 refine US h.nd (JT _) λx=>?_
 rw[JV]
 constructor
 ·intro hx
  obtain⟨h1,h2,_⟩:=h.at' x hx
  omega
 ·rintro⟨x0,x1⟩
  have:=h.of x.toNat (ha x.toNat (by omega))
  rw[show((x.toNat:Nat):Int)=x by omega] at this
  exact this
theorem EV {seen:List Bool}{i:Nat}(h:∀q:Nat,q<i->seen[q]?=some true)(hi:seen[i]?=some true):∀q:Nat,q<i+1->seen[q]?=some true:=λq hq=>by
 by_cases e:q=i
 ·subst e;exact hi
 ·exact h q (by omega)
end My
namespace My
open PySem L2
theorem Yw {α:Type}{r:List α}{k:Int}{n:Nat}(e:k=(n:Int))(h:n<r.length):atR r k= .ok r[n]:=by
 subst e;exact ZE (by simp[h])
theorem DU {γ:Type}{c:γ->Rs Bool}{f:γ->Rs γ}(P:γ->Prop)(μ:γ->Nat)(hs:∀g,P g->∃b,c g= .ok b/\(b=true->Ok (f g) λg'=>P g'/\μ g'<μ g)):∀(n:Nat) (g:γ),P g->μ g<n->Ok (KR n g c f) λg'=>P g'/\c g'= .ok false
 |0,_,_,h=>by omega
 |n+1,g,hp,hm=>by
  obtain⟨b,hb,h⟩:=hs g hp
  show Ok ((c g).bind _) _
  rw[hb,Rs.okb]
  cases b with
  |false=>rw[if_neg Bool.false_ne_true];exact⟨g,rfl,hp,hb⟩
  |true=>
   rw[if_pos rfl]
   exact Ok.bind (h rfl) λg' h'=>DU P μ hs n g' h'.1 (by omega)
def Sg (l:List (Int×Int)):Prop:=l.Pairwise (λx y=>x.1<y.1)/\∀e∈l,1<=e.1
def kys (l:List (Int×Int)):List Int:=l.map (·.1)
theorem Sg.kn {l:List (Int×Int)}(h:Sg l):(kys l).Nodup:=by
 unfold kys
 exact List.Pairwise.map _ (λa b z e=>by omega) h.1
theorem Ec {l:List (Int×Int)}(h:(kys l).Nodup):l.Nodup:=List.Pairwise.of_map _ (λa b z e=>z (congrArg _ e)) h
theorem Sg.rise {l:List (Int×Int)}(h:Sg l):l.Pairwise λx y=>ltP x y=true:=
 h.1.imp fun {a b} z=>by unfold ltP;rw[if_neg (by omega)];simpa using z
theorem Sg.sort {l:List (Int×Int)}(h:Sg l):Zv ltP l=l:=(V7 Gh (Ec h.kn) (List.Perm.refl _) h.rise).symm
theorem RG {l:List (Int×Int)}(h:(kys l).Nodup)(h1:∀e∈l,1<=e.1):Sg (Zv ltP l):=by
 have hp:=YJ ltP l
 have hk:(kys (Zv ltP l)).Nodup:=((List.Perm.map (λe:Int×Int=>e.1) hp).nodup_iff).mpr h
 refine⟨?_,λe he=>h1 e (hp.mem_iff.mp he)⟩
 have r:=UT Gh (Ec h)
 have dr:(Zv ltP l).Pairwise λx y=>x.1≠y.1:=List.Pairwise.of_map (·.1) (λa b z=>z) hk
 refine(r.and dr).imp fun {a b} z=>?_
 have z1:=z.1
 unfold ltP at z1
 rw[if_neg z.2] at z1
 simpa using z1
theorem Sg.sub {l m:List (Int×Int)}(h:Sg l)(s:m.Sublist l):Sg m:=⟨h.1.sublist s,λe he=>h.2 e (s.mem he)⟩
theorem Sg.del {l:List (Int×Int)}(h:Sg l)(k:Int):Sg (YS l k):=h.sub List.filter_sublist
theorem VZ {l:List (Int×Int)}{k v:Int}(h:k∉kys l):G2 l k v=l++[(k,v)]:=by
 unfold G2
 rw[if_neg λz=>h ?_]
 obtain⟨e,he,z⟩:=List.any_eq_true.mp z
 exact List.mem_map.mpr ⟨e,he,by simpa using z⟩
theorem Bb:∀{ps acc:List (Int×Int)},(kys (acc++ps)).Nodup->HF acc ps=acc++ps
 | [],acc,_=>by simp[HF]
 |p::ps,acc,h=>by
  have hn:p.1∉kys acc:=λz=>by
   unfold kys at h z
   rw[List.map_append,List.nodup_append] at h
   exact h.2.2 _ z p.1 (by simp) rfl
  have e:acc++p::ps=(acc++[p])++ps:=by simp
  show HF (G2 acc p.1 p.2) ps=_
  rw[VZ hn,e]
  exact Bb (by rw[←e];exact h)
theorem Sg.dict {l:List (Int×Int)}(h:Sg l):HF [] l=l:=Bb (acc:=[]) (by simpa using h.kn)
theorem Qm {l:List (Int×Int)}{k:Int}:(Q5 l k).isSome=true↔k∈kys l:=by
 unfold Q5 kys
 rw[Option.isSome_map,List.find?_isSome]
 simp only[List.mem_map,decide_eq_true_eq]
theorem IN {l:List (Int×Int)}{k:Int}(h:(Q5 l k).isSome=false):k∉kys l:=λz=>by rw[Qm.mpr z] at h;cases h
theorem Sy {l:List (Int×Int)}{e:Int×Int}(h:(kys l).Nodup)(he:e∈l):Q5 l e.1=some e.2:=by
 induction l with
 |nil=>cases he
 |cons a l ih=>
  unfold Q5
  unfold kys at h
  rw[List.map_cons,List.nodup_cons] at h
  rcases List.mem_cons.mp he with rfl |he
  ·simp
  ·have hne:a.1≠e.1:=λz=>h.1 (z▸List.mem_map.mpr ⟨e,he,rfl⟩)
   rw[List.find?_cons_of_neg (by simpa using hne)]
   exact ih h.2 he
theorem EB {l:List (Int×Int)}{k v:Int}(h:Sg l)(hk:k∉kys l)(h1:1<=k):(kys (l++[(k,v)])).Nodup/\(∀e∈l++[(k,v)],1<=e.1)/\Sg (Zv ltP (l++[(k,v)])):=by
 have a:(kys (l++[(k,v)])).Nodup:=by
  unfold kys at hk⊢
  rw[List.map_append,List.nodup_append]
  refine⟨h.kn,by simp,λx hx y hy e=>hk ?_⟩
  have z:y=k:=by simpa using hy
  rw[←z, ←e]
  exact hx
 have b:∀e∈l++[(k,v)],1<=e.1:=λe he=>by
  rcases List.mem_append.mp he with he |he
  ·exact h.2 e he
  ·rw[List.mem_singleton.mp he];exact h1
 exact⟨a,b,RG a b⟩
theorem KF {l:List (Int×Int)}{e:Int×Int}:e∈Zv ltP l↔e∈l:=(YJ ltP l).mem_iff
theorem EQ {l:List (Int×Int)}:(Zv ltP l).length=l.length:=(YJ ltP l).length_eq
theorem ET {l:List (Int×Int)}{k:Int}:k∈kys (Zv ltP l)↔k∈kys l:=((YJ ltP l).map (·.1)).mem_iff
theorem Mz {d:List (Int×Int)}{n:Int}:Ok (Ij d n) λk=>n<=k/\k∉kys d:=by
 unfold Ij Pf;dsimp only
 simp only[Rs.okb]
 refine Ok.bind (DU (λg=>n<=g) (λg=>(d.filter λe=>decide (g<=e.1)).length) (λg hg=>⟨_,rfl,λhb=>⟨_,rfl,by omega,?_⟩⟩) (d.length+2) n (Int.le_refl _) ?_) λg hg=>⟨_,rfl,hg.1,?_⟩
 ·obtain⟨e,he,ek⟩:=List.mem_map.mp (Qm.mp hb)
  have s:(d.filter λe=>decide (g+1<=e.1)).Sublist ((d.filter λe=>decide (g<=e.1)).filter λe=>decide (g+1<=e.1)):=by
   rw[List.filter_filter]
   have:(λa:Int×Int=>decide (g+1<=a.1)&&decide (g<=a.1))=λe=>decide (g+1<=e.1):=by
    funext a;rw[Bool.eq_iff_iff];simp;omega
   rw[this];exact List.Sublist.refl _
  refine Nat.lt_of_le_of_lt s.length_le ?_
  refine Nat.lt_of_le_of_ne List.filter_sublist.length_le λz=>?_
  have:=List.length_filter_eq_length_iff.mp z e (List.mem_filter.mpr ⟨he,by simp;omega⟩)
  simp at this;omega
 ·exact Nat.lt_of_le_of_lt List.filter_sublist.length_le (by omega)
 ·have:=hg.2
  exact IN (Rs.ok.inj this)
theorem ar0 {α:Type}{x0:α}{l:List α}:atR (x0::l) 0= .ok x0:=JM (by decide) rfl
theorem ar1 {α:Type}{x0 x1:α}{l:List α}:atR (x0::x1::l) 1= .ok x1:=JM (by decide) rfl
theorem ar2 {α:Type}{x0 x1 x2:α}{l:List α}:atR (x0::x1::x2::l) 2= .ok x2:=JM (by decide) rfl
theorem ar3 {α:Type}{x0 x1 x2 x3:α}{l:List α}:atR (x0::x1::x2::x3::l) 3= .ok x3:=JM (by decide) rfl
theorem ar4 {α:Type}{x0 x1 x2 x3 x4:α}{l:List α}:atR (x0::x1::x2::x3::x4::l) 4= .ok x4:=JM (by decide) rfl
theorem ar5 {α:Type}{x0 x1 x2 x3 x4 x5:α}{l:List α}:atR (x0::x1::x2::x3::x4::x5::l) 5= .ok x5:=JM (by decide) rfl
theorem ar6 {α:Type}{x0 x1 x2 x3 x4 x5 x6:α}{l:List α}:atR (x0::x1::x2::x3::x4::x5::x6::l) 6= .ok x6:=JM (by decide) rfl
theorem ar7 {α:Type}{x0 x1 x2 x3 x4 x5 x6 x7:α}{l:List α}:atR (x0::x1::x2::x3::x4::x5::x6::x7::l) 7= .ok x7:=JM (by decide) rfl
theorem ar8 {α:Type}{x0 x1 x2 x3 x4 x5 x6 x7 x8:α}{l:List α}:atR (x0::x1::x2::x3::x4::x5::x6::x7::x8::l) 8= .ok x8:=JM (by decide) rfl
theorem GK:decide (("turn":Str)= "curl")=false:=rfl
theorem V6:decide (("turn":Str)= "uncurl")=false:=rfl
theorem Fv:decide (("turn":Str)= "lay")=false:=rfl
theorem Kc:decide (("turn":Str)= "unlay")=false:=rfl
theorem KS:decide (("turn":Str)= "pass")=false:=rfl
theorem EK:decide (("turn":Str)= "turn")=true:=rfl
theorem ZV:decide (("curl":Str)= "turn")=false:=rfl
theorem QB:decide (("curl":Str)= "uncurl")=false:=rfl
theorem Uu:decide (("curl":Str)= "lay")=false:=rfl
theorem JB:decide (("curl":Str)= "unlay")=false:=rfl
theorem Vk:decide (("curl":Str)= "pass")=false:=rfl
theorem LX:decide (("curl":Str)= "curl")=true:=rfl
theorem Za:decide (("uncurl":Str)= "turn")=false:=rfl
theorem QI:decide (("uncurl":Str)= "curl")=false:=rfl
theorem Jk:decide (("uncurl":Str)= "lay")=false:=rfl
theorem Qf:decide (("uncurl":Str)= "unlay")=false:=rfl
theorem Qs:decide (("uncurl":Str)= "pass")=false:=rfl
theorem Du:decide (("uncurl":Str)= "uncurl")=true:=rfl
theorem Qp:decide (("lay":Str)= "turn")=false:=rfl
theorem UJ:decide (("lay":Str)= "curl")=false:=rfl
theorem Jg:decide (("lay":Str)= "uncurl")=false:=rfl
theorem Go:decide (("lay":Str)= "unlay")=false:=rfl
theorem Ur:decide (("lay":Str)= "pass")=false:=rfl
theorem Pe:decide (("lay":Str)= "lay")=true:=rfl
theorem Zw:decide (("unlay":Str)= "turn")=false:=rfl
theorem Jt:decide (("unlay":Str)= "curl")=false:=rfl
theorem Z9:decide (("unlay":Str)= "uncurl")=false:=rfl
theorem QT:decide (("unlay":Str)= "lay")=false:=rfl
theorem JA:decide (("unlay":Str)= "pass")=false:=rfl
theorem Ew:decide (("unlay":Str)= "unlay")=true:=rfl
theorem Zm:decide (("pass":Str)= "turn")=false:=rfl
theorem QV:decide (("pass":Str)= "curl")=false:=rfl
theorem Zb:decide (("pass":Str)= "uncurl")=false:=rfl
theorem Qo:decide (("pass":Str)= "lay")=false:=rfl
theorem Zt:decide (("pass":Str)= "unlay")=false:=rfl
theorem MN:decide (("pass":Str)= "pass")=true:=rfl
theorem okf {α:Type}{m n:Rs α}:(if false=true then m else n)=n:=if_neg Bool.false_ne_true
theorem okt {α:Type}{m n:Rs α}:(if true=true then m else n)=m:=if_pos rfl
theorem HH {m:Rs Bool}:O5 (.ok false) m= .ok false:=rfl
theorem Bq {m:Rs Bool}:O5 (.ok true) m=m:=rfl
theorem orF {m:Rs Bool}:orR (.ok false) m=m:=rfl
theorem orT {m:Rs Bool}:orR (.ok true) m= .ok true:=rfl
def ins (w:List Int)(k:Nat)(p:List Int):List Int:=w.take k++p++w.drop k
def Ea (w:List Int)(k:Nat):List Int:=w.take k++w.drop (k+2)
def gw (ws:List (List Int))(i:Nat):List Int:=ws.getD i []
def Qn (ws:List (List Int))(i k:Nat)(p:List Int):List (List Int):=ws.set i (ins (gw ws i) k p)
def VG (ws:List (List Int))(i k:Nat):List (List Int):=ws.set i (Ea (gw ws i) k)
theorem IH {ws:List (List Int)}{i:Nat}(h:i<ws.length):ws[i]?=some (gw ws i):=by simp[gw,h]
theorem J2 {ws:List (List Int)}{i:Nat}(h:i<ws.length):atR ws (i:Int)= .ok (gw ws i):=ZE (IH h)
theorem ZK {ws:List (List Int)}{i:Nat}(h:i<ws.length):gw ws i∈ws:=List.mem_of_getElem? (IH h)
theorem Fs {α:Type}(as:List α){k:Nat}(h:k<=as.length):G8 as none (some (k:Int))=as.take k:=by
 unfold G8
 rw[HT.sIx_nat,HT.sIx_none,Nat.min_eq_left h,List.drop_zero,Nat.sub_zero]
theorem Ql {α:Type}(as:List α){k:Nat}:G8 as (some (k:Int)) none=as.drop k:=by
 unfold G8
 rw[HT.sIx_nat,HT.sIx_none]
 by_cases h:k<=as.length
 ·rw[Nat.min_eq_left h];exact List.take_of_length_le (by simp)
 ·rw[Nat.min_eq_right (by omega),Nat.sub_self,List.take_zero,List.drop_of_length_le (by omega)]
theorem Zk {α:Type}{l:List α}(h:l.length<=100):Wq l (λa=>Rs.ok a)= .ok l:=by
 rw[Jf (h:=λa=>a) (sz (by omega)) λ_ _=>rfl,List.map_id']
section
variable {ws:List (List Int)}{i k:Nat}{p:List Int}
theorem Jw (hw:ws.length<=20)(hi:i<ws.length)(hk:k<=(gw ws i).length)(hl:(gw ws i).length<=100)(hp:p.length<=10):ZO ws (i:Int) (k:Int) p= .ok (Qn ws i k p):=by
 unfold ZO Vj;dsimp only
 simp only[Rs.okb]
 rw[Zk (by omega)]
 simp only[Rs.okb,J2 hi,Fs _ hk,Ql]
 rw[show CG ((gw ws i).take k) p= .ok ((gw ws i).take k++p) from Xi (sz (by simp;omega))]
 simp only[Rs.okb]
 rw[show CG ((gw ws i).take k++p) ((gw ws i).drop k)= .ok ((gw ws i).take k++p++(gw ws i).drop k) from Xi (sz (by simp;omega))]
 simp only[Rs.okb]
 rw[YF hi]
 rfl
theorem KO {a b:Int}(hi:i<ws.length)(hk:k<=(gw ws i).length)(hl:(gw ws i).length<=100):KG ws (i:Int) (k:Int) a b= .ok (Qn ws i k [a,b]):=by
 unfold KG DA;dsimp only
 simp only[Rs.okb,J2 hi,Fs _ hk,Ql]
 rw[Xi (show[a,b].length<=sizeLine from sz (by simp))]
 simp only[Rs.okb]
 rw[show CG ((gw ws i).take k) [a,b]= .ok ((gw ws i).take k++[a,b]) from Xi (sz (by simp;omega))]
 simp only[Rs.okb]
 rw[show CG ((gw ws i).take k++[a,b]) ((gw ws i).drop k)= .ok ((gw ws i).take k++[a,b]++(gw ws i).drop k) from Xi (sz (by simp;omega))]
 simp only[Rs.okb]
 rw[YF hi]
 rfl
theorem Us (hw:ws.length<=20)(hi:i<ws.length)(hk:k<=(gw ws i).length)(hl:(gw ws i).length<=100):YO ws (i:Int) (k:Int)= .ok (VG ws i k):=by
 unfold YO Qe;dsimp only
 simp only[Rs.okb]
 rw[Zk (by omega)]
 simp only[Rs.okb,J2 hi,Fs _ hk]
 rw[show(k:Int)+2=((k+2:Nat):Int) by omega,Ql,show CG ((gw ws i).take k) ((gw ws i).drop (k+2))= .ok ((gw ws i).take k++(gw ws i).drop (k+2)) from Xi (sz (by simp;omega))]
 simp only[Rs.okb]
 rw[YF hi]
 rfl
theorem UL (hi:i<ws.length)(hk:k<=(gw ws i).length)(hl:(gw ws i).length<=100):ZU ws (i:Int) (k:Int)= .ok (VG ws i k):=by
 unfold ZU GO;dsimp only
 simp only[Rs.okb,J2 hi,Fs _ hk]
 rw[show(k:Int)+2=((k+2:Nat):Int) by omega,Ql,show CG ((gw ws i).take k) ((gw ws i).drop (k+2))= .ok ((gw ws i).take k++(gw ws i).drop (k+2)) from Xi (sz (by simp;omega))]
 simp only[Rs.okb]
 rw[YF hi]
 rfl
theorem Yl:(Qn ws i k p).length=ws.length:=by simp[Qn]
theorem Qg (hi:i<ws.length):gw (Qn ws i k p) i=ins (gw ws i) k p:=by simp[Qn,gw,hi]
theorem BP {j:Nat}(h:j≠i):gw (Qn ws i k p) j=gw ws j:=by
 unfold Qn gw
 simp only[List.getD_eq_getElem?_getD]
 rw[List.getElem?_set_ne (Ne.symm h)]
theorem DF:(VG ws i k).length=ws.length:=by simp[VG]
theorem Vg (hi:i<ws.length):gw (VG ws i k) i=Ea (gw ws i) k:=by simp[VG,gw,hi]
theorem Vd {j:Nat}(h:j≠i):gw (VG ws i k) j=gw ws j:=by
 unfold VG gw
 simp only[List.getD_eq_getElem?_getD]
 rw[List.getElem?_set_ne (Ne.symm h)]
theorem GD {w:List Int}(h:k<=w.length):(ins w k p).length=w.length+p.length:=by simp[ins];omega
theorem Hd {w:List Int}{a b:Int}(h:k<=w.length):(ins w k [a,b])[k]?=some a/\(ins w k [a,b])[k+1]?=some b:=by
 unfold ins
 rw[List.append_assoc]
 constructor
 ·rw[List.getElem?_append_right (by simp;omega),List.length_take,Nat.min_eq_left h,Nat.sub_self];rfl
 ·rw[List.getElem?_append_right (by simp;omega),List.length_take,Nat.min_eq_left h,show k+1-k=1 by omega];rfl
theorem Bs {w:List Int}{a b:Int}(h:k<=w.length):Ea (ins w k [a,b]) k=w:=by
 unfold Ea ins
 rw[List.append_assoc,List.take_append_of_le_length (by simp;omega),List.take_take,Nat.min_self,List.drop_append,List.drop_of_length_le (by simp;omega),List.length_take,Nat.min_eq_left h,show k+2-k=2 by omega]
 simp
end
structure Dr (n:Nat)(ws:List (List Int))(sg:List (Int×Int)):Prop where
 n3:n<=3
 ne:1<=ws.length
 lw:ws.length<=4+8*(n/3)
 ll:∀w∈ws,w.length<=30+4*n
 gs:Sg sg
 ls:sg.length<=6+2*n
 ky:∀w∈ws,∀p∈w,(p.natAbs:Int)∈kys sg
 nd:ws.flatten.Nodup
section
variable {n:Nat}{ws:List (List Int)}{sg:List (Int×Int)}
theorem Dr.l {i:Nat}(d:Dr n ws sg)(h:i<ws.length):(gw ws i).length<=42:=by
 have:=d.ll _ (ZK h);have:=d.n3;omega
theorem Dr.lw' (d:Dr n ws sg):ws.length<=20:=by have:=d.lw;have:=d.n3;omega
theorem Dr.fin (d:Dr n ws sg):chk (sg.length<64/\sg.Nodup) (Rs.ok (Zv ltP sg))= .ok sg:=by
 rw[Xi ⟨by have:=d.ls;have:=d.n3;omega,Ec d.gs.kn⟩,d.gs.sort]
def rot (w:List Int)(s:Int):List Int:=if w.length=0 then w else w.drop (s % (w.length:Int)).toNat++w.take (s % (w.length:Int)).toNat
theorem NC {w:List Int}{s:Int}(h:w.length≠0):∃c:Nat,s % (w.length:Int)=(c:Int)/\c<w.length/\rot w s=w.drop c++w.take c:=by
 have h1:=Int.emod_nonneg s (show(w.length:Int)≠0 by omega)
 have h2:=Int.emod_lt_of_pos s (show(0:Int)<(w.length:Int) by omega)
 refine⟨(s % (w.length:Int)).toNat,by omega,by omega,?_⟩
 unfold rot
 rw[if_neg h]
def Vy (ws:List (List Int))(i:Nat)(s:Int):List (List Int):=ws.set i (rot (gw ws i) s)
theorem Fi {i:Nat}(h:i<ws.length):ws.set i (gw ws i)=ws:=by
 apply List.ext_getElem?
 intro j
 by_cases e:i=j
 ·subst e;rw[List.getElem?_set_self h,IH h]
 ·rw[List.getElem?_set_ne e]
theorem ZH {p v:List Int}:∀{ws:List (List Int)}{i:Nat},i<ws.length->v.Perm (p++gw ws i)->((ws.set i v).flatten).Perm (p++ws.flatten)
 |w::ws,0,_,h=>by
  show(v++ws.flatten).Perm (p++(w++ws.flatten))
  rw[←List.append_assoc]
  exact h.append_right _
 |w::ws,i+1,hi,h=>by
  show(w++(ws.set i v).flatten).Perm (p++(w++ws.flatten))
  refine((ZH (Nat.lt_of_succ_lt_succ hi) h).append_left w).trans ?_
  rw[←List.append_assoc, ←List.append_assoc]
  exact List.perm_append_comm.append_right _
theorem IY (d:Dr n ws sg){i:Nat}(hi:i<ws.length){s:Int}:GY (ws,sg) [.s "turn", .i i, .i s]= .ok (Vy ws i s,sg):=by
 have hl:=d.l hi
 unfold GY OG;dsimp only
 simp only[Rs.okb,decide_true,if_true,Bool.not_true,ar0,ar1,ar2,ar3,ar4,ar5,ar6,ar7,ar8,mxS,mxI,mxB,okf,okt,HH,Bq,orF,orT,Xr,GK,V6,Fv,Kc,KS,EK]
 rw[Zk (by have:=d.lw';omega)]
 simp only[Rs.okb,J2 hi,d.gs.dict]
 by_cases h:(gw ws i).length=0
 ·rw[show decide ((0:Int)<((gw ws i).length:Int))=false by rw[h];rfl]
  simp only[okf,Rs.okb]
  rw[d.fin]
  simp only[Rs.okb]
  unfold Vy rot
  rw[if_pos h,Fi hi]
 ·obtain⟨c,ec,hc,er⟩:=NC (s:=s) h
  rw[show decide ((0:Int)<((gw ws i).length:Int))=true by simpa using Nat.pos_of_ne_zero h]
  simp only[okt,Rs.okb]
  rw[Yn (by omega)]
  simp only[Rs.okb]
  rw[ec,Ql,Fs _ (Nat.le_of_lt hc),show CG ((gw ws i).drop c) ((gw ws i).take c)= .ok (rot (gw ws i) s) from(Xi (sz (by simp;omega))).trans (by rw[er])]
  simp only[Rs.okb]
  rw[YF hi]
  simp only[Rs.okb]
  rw[d.fin]
  rfl
theorem Ux {i:Nat}(hi:i<ws.length):Qj (ws,sg) (i:Int)= .ok true:=by
 unfold Qj K8;dsimp only
 simp only[Rs.okb]
 rw[if_pos (by simp)]
 simpa using hi
theorem MO (d:Dr n ws sg){i:Nat}(hi:i<ws.length){s:Int}:YD (ws,sg) [.s "turn", .i i, .i s]= .ok (Vy ws i s,sg):=by
 have hl:=d.l hi
 unfold YD V9;dsimp only
 unfold Xy XO;dsimp only
 unfold YZ Jx;dsimp only
 unfold Df FN;dsimp only
 unfold Qu Qx;dsimp only
 simp only[Rs.okb,decide_true,if_true,Bool.not_true,ar0,ar1,ar2,ar3,ar4,ar5,ar6,ar7,ar8,mxS,mxI,mxB,okf,okt,HH,Bq,orF,orT,Xr,GK,V6,Fv,Kc,KS,EK,Ux hi]
 rw[Zk (by have:=d.lw';omega)]
 simp only[Rs.okb,J2 hi]
 by_cases h:(gw ws i).length=0
 ·rw[show decide (((gw ws i).length:Int)=0)=true by rw[h];rfl]
  simp only[okt,if_true,Rs.okb,Xr]
  rw[YF hi]
  simp only[Rs.okb,Xr]
  unfold Vy rot
  rw[if_pos h,List.length_eq_zero_iff.mp h]
 ·obtain⟨c,ec,hc,er⟩:=NC (s:=s) h
  rw[show decide (((gw ws i).length:Int)=0)=false by simpa using h]
  simp only[okf,Rs.okb]
  rw[Yn (by omega)]
  simp only[Rs.okb]
  rw[ec,Ql,Fs _ (Nat.le_of_lt hc),show CG ((gw ws i).drop c) ((gw ws i).take c)= .ok (rot (gw ws i) s) from(Xi (sz (by simp;omega))).trans (by rw[er])]
  simp only[Rs.okb,Xr]
  rw[YF hi]
  rfl
end
section
variable {n:Nat}{ws:List (List Int)}{sg:List (Int×Int)}
theorem CQ {e:Int×Int}:∀{l:List (Int×Int)},(kys l).Nodup->e∈l->M5 l () (λ(_:Unit) (a6:Int×Int)=>(if decide (a6.1=e.1)=true then Rs.ok (Ctl.ret a6.2) else Rs.ok (Ctl.nx ())))= .ok (.ret e.2)
 | [],_,h=>by cases h
 |a::l,hn,h=>by
  unfold kys at hn
  rw[List.map_cons,List.nodup_cons] at hn
  unfold M5
  rcases List.mem_cons.mp h with rfl |h
  ·simp[Rs.bind]
  ·have hne:a.1≠e.1:=λz=>hn.1 (z▸List.mem_map.mpr ⟨e,h,rfl⟩)
   have ih:=CQ (l:=l) hn.2 h
   simp only[hne,decide_false,if_neg Bool.false_ne_true,Rs.okb]
   exact ih
theorem K2 {e:Int×Int}(h:(kys sg).Nodup)(he:e∈sg):Yv (ws,sg) e.1= .ok e.2:=by
 unfold Yv KP;dsimp only
 simp only[Rs.okb]
 rw[CQ h he]
 rfl
theorem QW {i k:Nat}{x y:Int}(hi:i<ws.length)(hx:(gw ws i)[k]?=some x)(hy:(gw ws i)[k+1]?=some y):Yq (ws,sg) (i:Int) (k:Int)= .ok (some (x,y)):=by
 have h1:=(List.getElem?_eq_some_iff.mp hy).1
 unfold Yq GX;dsimp only
 simp only[Rs.okb,Ux hi,Xr,Bool.not_true,orF,J2 hi]
 rw[if_pos (by simp),Rs.okb,Rs.okb,show decide ((k:Int)<((gw ws i).length:Int)-1)=true by simp;omega]
 simp only[Rs.okb,Bool.not_true,okf]
 rw[ZE hx,show(k:Int)+1=((k+1:Nat):Int) by omega,ZE hy]
 rfl
theorem UM {i k m:Nat}(hi:i<ws.length)(hk:k<=(gw ws i).length+m):Zx (ws,sg) (i:Int) (k:Int) (m:Int)= .ok true:=by
 unfold Zx GW;dsimp only
 simp only[Rs.okb,Ux hi,Xr,Bq,J2 hi]
 rw[if_pos (by simp)]
 simp
 omega
theorem Fq {ns:List Int}(hl:sg.length<=30)(hn:ns.length<=2)(hd:(dd ns).length=ns.length)(h:∀x∈ns,1<=x/\x∉kys sg):ZS (ws,sg) ns= .ok true:=by
 unfold ZS GB;dsimp only
 unfold Va Vc;dsimp only
 simp only[Rs.okb]
 rw[Jf (h:=λe:Int×Int=>e.1) (sz (by omega)) λ_ _=>rfl]
 simp only[Rs.okb,Xr,List.length_map]
 rw[Xi (by omega),hd,show decide ((40:Int)<(sg.length:Int)+(ns.length:Int))=false by simp;omega]
 simp only[Rs.okb,orF]
 rw[if_neg (by simp),Jf (h:=λ_=>true) (sz (by omega)) λa ha=>?_]
 ·simp only[Rs.okb]
  simp
 ·obtain⟨h1,h2⟩:=h a ha
  rw[show decide ((1:Int)<=a)=true by simpa using h1]
  simp only[Bq]
  have h3:a∉sg.map λe=>e.1:=h2
  simp[h3]
def ovw (o:Bool):Str:=if o=true then "over" else "under"
def prc (c:Int)(o:Bool):List Int:=if o=true then[c,-c] else[-c,c]
def UK (i k:Nat)(c:Int)(o:Bool)(s:Int):List Mx:=[.s "curl", .i i, .i k, .i c, .s (ovw o), .i s]
def sgC (sg:List (Int×Int))(c s:Int):List (Int×Int):=Zv ltP (sg++[(c,s)])
theorem IF {c:Int}{o:Bool}:(prc c o).length=2:=by cases o<;> rfl
theorem Dr.fin' (d:Dr n ws sg){l:List (Int×Int)}(h:(kys l).Nodup)(hl:l.length<=40):chk (l.length<64/\l.Nodup) (Rs.ok (Zv ltP l))= .ok (Zv ltP l):=Xi ⟨by omega,Ec h⟩
theorem Eg (d:Dr n ws sg){i k:Nat}{c s:Int}{o:Bool}(hi:i<ws.length)(hk:k<=(gw ws i).length)(hc:c∉kys sg)(h1:1<=c):GY (ws,sg) (UK i k c o s)= .ok (Qn ws i k (prc c o),sgC sg c s):=by
 have hl:=d.l hi
 have h3:=d.n3
 have h4:=d.ls
 have hp:prc c o=[c*(if o=true then 1 else-1),-(c*(if o=true then 1 else-1))]:=by cases o<;> simp[prc]
 unfold UK
 unfold GY OG;dsimp only
 simp only[Rs.okb,decide_true,if_true,Bool.not_true,ar0,ar1,ar2,ar3,ar4,ar5,ar6,ar7,ar8,mxS,mxI,mxB,okf,okt,HH,Bq,orF,orT,Xr,ZV,QB,Uu,JB,Vk,LX]
 rw[Zk (by have:=d.lw';omega),Xi (show[(-1:Int),1].length<=sizeLine from sz (by simp))]
 simp only[Rs.okb,d.gs.dict,VZ hc]
 rw[show atR [(-1:Int),1] (if decide (ovw o=("over":Str))=true then 1 else 0)= .ok (if o=true then 1 else-1) by cases o<;> exact JM (by decide) rfl]
 simp only[Rs.okb]
 rw[Jd (by split<;> decide) (by split<;> decide)]
 simp only[Rs.okb]
 rw[KO hi hk (by omega)]
 simp only[Rs.okb,Xr]
 rw[Xi (Hz (by omega))]
 simp only[Rs.okb]
 rw[d.fin' (EB d.gs hc h1).1 (by simp;omega),hp]
 rfl
theorem LC (d:Dr n ws sg){i k:Nat}{c s:Int}{o:Bool}(hi:i<ws.length)(hk:k<=(gw ws i).length)(hc:c∉kys sg)(h1:1<=c)(hs:s=1∨s= -1):YD (ws,sg) (UK i k c o s)= .ok (Qn ws i k (prc c o),sgC sg c s):=by
 have hl:=d.l hi
 have h3:=d.n3
 have h4:=d.ls
 have e1:Zx (ws,sg) (i:Int) (k:Int) 0= .ok true:=UM (m:=0) hi hk
 have e2:ZS (ws,sg) [c]= .ok true:=Fq (by omega) (by simp) rfl λx hx=>by rw[List.mem_singleton.mp hx];exact⟨h1,hc⟩
 have e3:decide (ovw o∈[("over":Str),"under"])=true:=by cases o<;> rfl
 have e4:decide (s∈[(1:Int),-1])=true:=by rcases hs with rfl |rfl<;> rfl
 unfold UK
 unfold YD V9;dsimp only
 unfold Xy XO;dsimp only
 unfold YZ Jx;dsimp only
 unfold JH Jz;dsimp only
 unfold DK Do;dsimp only
 simp only[Rs.okb,decide_true,if_true,Bool.not_true,ar0,ar1,ar2,ar3,ar4,ar5,ar6,ar7,ar8,mxS,mxI,mxB,okf,okt,HH,Bq,orF,orT,Xr,ZV,QB,Uu,JB,Vk,LX,Xi (show[c].length<=sizeLine from sz (by simp)),e1,e2,e3,e4]
 rw[show(if decide (ovw o=("over":Str))=true then chk ([c,-c].length<=sizeLine) (Rs.ok [c,-c]) else chk ([-c,c].length<=sizeLine) (Rs.ok [-c,c]))= .ok (prc c o) by cases o<;> exact Xi (sz (show 2<=100000 by decide))]
 simp only[Rs.okb]
 rw[Jw d.lw' hi hk (by omega) (by rw[IF];omega),Xi (show[(c,s)].length<=sizeLine from sz (by simp))]
 simp only[Rs.okb,Xr]
 rw[show CG sg [(c,s)]= .ok (sg++[(c,s)]) from Xi (sz (by simp;omega))]
 simp only[Rs.okb]
 rw[d.fin' (EB d.gs hc h1).1 (by simp;omega)]
 rfl
theorem JQ {i k:Nat}{p w:List Int}(hi:i<ws.length)(h:w∈Qn ws i k p):w∈ws∨w=ins (gw ws i) k p:=by
 unfold Qn at h
 exact(List.mem_or_eq_of_mem_set h)
theorem BG {k:Nat}{p w:List Int}{x:Int}(h:x∈ins w k p):x∈w∨x∈p:=by
 unfold ins at h
 rcases List.mem_append.mp h with h |h
 ·rcases List.mem_append.mp h with h |h
  ·exact .inl (List.mem_of_mem_take h)
  ·exact .inr h
 ·exact .inl (List.mem_of_mem_drop h)
theorem Lz {c x:Int}{o:Bool}(h1:1<=c)(h:x∈prc c o):(x.natAbs:Int)=c:=by
 unfold prc at h
 split at h<;> simp at h<;> omega
theorem R7 {c s k:Int}:k∈kys (sgC sg c s)↔k∈kys sg∨k=c:=by
 unfold sgC
 rw[ET]
 unfold kys
 simp
theorem Db {w p:List Int}{k:Nat}:(ins w k p).Perm (p++w):=by
 unfold ins
 refine(List.perm_append_comm.append_right _).trans ?_
 rw[List.append_assoc,List.take_append_drop]
theorem Lu {p l:List Int}(h:l.Nodup)(hp:p.Nodup)(hd:∀x∈p,∀y∈l,x≠y):(p++l).Nodup:=List.nodup_append.mpr ⟨hp,h,hd⟩
theorem Dr.curl (d:Dr n ws sg)(hn:n<=2){i k:Nat}{c s:Int}{o:Bool}(hi:i<ws.length)(hk:k<=(gw ws i).length)(hc:c∉kys sg)(h1:1<=c):Dr (n+1) (Qn ws i k (prc c o)) (sgC sg c s) where
 n3:=by omega
 ne:=by rw[Yl];exact d.ne
 lw:=by rw[Yl];have:=d.lw;omega
 ll:=λw hw=>by
  rcases JQ hi hw with h |rfl
  ·have:=d.ll w h;omega
  ·have:=d.ll _ (ZK hi);rw[GD hk,IF];omega
 gs:=(EB d.gs hc h1).2.2
 ls:=by unfold sgC;rw[EQ];have:=d.ls;simp;omega
 ky:=λw hw p hp=>by
  rw[R7]
  rcases JQ hi hw with h |rfl
  ·exact .inl (d.ky w h p hp)
  ·rcases BG hp with h |h
   ·exact .inl (d.ky _ (ZK hi) p h)
   ·exact .inr (Lz h1 h)
 nd:=(ZH hi Db).nodup_iff.mpr (Lu d.nd (by cases o<;> simp[prc]<;> omega) λx hx y hy e=>hc (by
  obtain⟨w,hw,hy⟩:=List.mem_flatten.mp hy
  have:=d.ky w hw y hy
  rwa [←e,Lz h1 hx] at this))
theorem IX (d:Dr n ws sg){i k:Nat}{x:Int}(hi:i<ws.length)(hx:(gw ws i)[k]?=some x)(hy:(gw ws i)[k+1]?=some (-x)):GY (ws,sg) [.s "uncurl", .i i, .i k]= .ok (VG ws i k,YS sg (x.natAbs:Int)):=by
 have hl:=d.l hi
 have h3:=d.n3
 have h4:=d.ls
 have hk:=(List.getElem?_eq_some_iff.mp hy).1
 have hm:(x.natAbs:Int)∈kys sg:=d.ky _ (ZK hi) x (List.mem_of_getElem? hx)
 unfold GY OG;dsimp only
 simp only[Rs.okb,decide_true,if_true,Bool.not_true,ar0,ar1,ar2,ar3,ar4,ar5,ar6,ar7,ar8,mxS,mxI,mxB,okf,okt,HH,Bq,orF,orT,Xr,Za,QI,Jk,Qf,Qs,Du]
 rw[Zk (by have:=d.lw';omega)]
 simp only[Rs.okb,d.gs.dict,J2 hi]
 rw[ZE hx]
 simp only[Rs.okb]
 rw[Xi (Qm.mpr hm),UL hi (by omega) (by omega)]
 simp only[Rs.okb,Xr]
 have hs:=d.gs.del (x.natAbs:Int)
 have hle:(YS sg (x.natAbs:Int)).length<=sg.length:=List.filter_sublist.length_le
 rw[d.fin' hs.kn (by omega),hs.sort]
 rfl
theorem Em (d:Dr n ws sg){i k:Nat}{x:Int}(hi:i<ws.length)(hx:(gw ws i)[k]?=some x)(hy:(gw ws i)[k+1]?=some (-x)):YD (ws,sg) [.s "uncurl", .i i, .i k]= .ok (VG ws i k,YS sg (x.natAbs:Int)):=by
 have hl:=d.l hi
 have h3:=d.n3
 have h4:=d.ls
 have hk:=(List.getElem?_eq_some_iff.mp hy).1
 unfold YD V9;dsimp only
 unfold Xy XO;dsimp only
 unfold YZ Jx;dsimp only
 unfold Qb Qc;dsimp only
 unfold GS Gq;dsimp only
 unfold YG Y7;dsimp only
 simp only[Rs.okb,decide_true,if_true,Bool.not_true,ar0,ar1,ar2,ar3,ar4,ar5,ar6,ar7,ar8,mxS,mxI,mxB,okf,okt,HH,Bq,orF,orT,Xr,Za,QI,Jk,Qf,Qs,Du,QW hi hx hy,Option.isSome,Gz,Us d.lw' hi (show k<=(gw ws i).length by omega) (show(gw ws i).length<=100 by omega)]
 rw[show decide (x= - -x)=true by simp]
 simp only[Rs.okb,Xr,Bool.not_true,okf]
 rw[FU (p:=λe=>decide (e.1≠(x.natAbs:Int))) (h:=λe=>e) (sz (by omega)) (λe he=>?_) λ_ _ _=>rfl,List.map_id']
 ·rfl
 ·have:=d.gs.2 e he
  congr 1
  rw[Bool.eq_iff_iff]
  simp
  omega
end
section
variable {n:Nat}{ws:List (List Int)}{sg:List (Int×Int)}
def und (a b:Int)(c:Bool):List Int:=if c=true then[-b,-a] else[-a,-b]
def Hn (i k j l:Nat)(a b:Int)(c:Bool)(s:Int):List Mx:=[.s "lay", .i i, .i k, .i j, .i l, .i a, .i b, .b c, .i s]
def Kb (ws:List (List Int))(i k j l:Nat)(a b:Int)(c:Bool):List (List Int):=Qn (Qn ws i k [a,b]) j l (und a b c)
def sgL (sg:List (Int×Int))(a b s:Int):List (Int×Int):=Zv ltP (sg++[(a,s),(b,-s)])
structure LayOk (n:Nat)(ws:List (List Int))(sg:List (Int×Int))(i k j l:Nat)(a b s:Int):Prop where
 d:Dr n ws sg
 hi:i<ws.length
 hk:k<=(gw ws i).length
 hj:j<ws.length
 hl:l<=(gw ws j).length+if j=i then 2 else 0
 hne:j=i->l≠k+1
 ha:1<=a/\a∉kys sg
 hb:1<=b/\b∉kys sg
 ab:a≠b
 hs:s=1∨s= -1
variable {i k j l:Nat}{a b s:Int}{c:Bool}
theorem LayOk.hl' (h:LayOk n ws sg i k j l a b s):l<=(gw (Qn ws i k [a,b]) j).length:=by
 have:=h.hl
 by_cases e:j=i
 ·rw[if_pos e] at this
  subst e
  rw[Qg h.hi,GD h.hk]
  simp;omega
 ·rw[if_neg e] at this
  rw[BP e];omega
theorem LayOk.ll (h:LayOk n ws sg i k j l a b s):(gw (Qn ws i k [a,b]) j).length<=44:=by
 by_cases e:j=i
 ·subst e
  rw[Qg h.hi,GD h.hk]
  have:=h.d.l h.hi
  simp;omega
 ·rw[BP e];have:=h.d.l h.hj;omega
theorem LayOk.kn (h:LayOk n ws sg i k j l a b s):(kys (sg++[(a,s),(b,-s)])).Nodup/\(∀e∈sg++[(a,s),(b,-s)],1<=e.1)/\b∉kys (sg++[(a,s)]):=by
 have hn:=h.d.gs.kn
 have h1:=h.ha.2
 have h2:=h.hb.2
 have h3:=h.ab
 unfold kys at hn h1 h2⊢
 refine⟨?_,λe he=>?_,?_⟩
 ·rw[List.map_append,List.nodup_append]
  refine⟨hn,by simp[h3],λx hx y hy e=>?_⟩
  subst e
  have:x=a∨x=b:=by simpa using hy
  rcases this with rfl |rfl
  ·exact h1 hx
  ·exact h2 hx
 ·rcases List.mem_append.mp he with he |he
  ·exact h.d.gs.2 e he
  ·have:e=(a,s)∨e=(b,-s):=by simpa using he
   rcases this with rfl |rfl
   ·exact h.ha.1
   ·exact h.hb.1
 ·simp only[List.map_append,List.mem_append,not_or]
  exact⟨h2,by simpa using Ne.symm h3⟩
theorem LO:(und a b c).length=2:=by cases c<;> rfl
theorem IJ (h:LayOk n ws sg i k j l a b s):GY (ws,sg) (Hn i k j l a b c s)= .ok (Kb ws i k j l a b c,sgL sg a b s):=by
 have hl:=h.d.l h.hi
 have h3:=h.d.n3
 have h4:=h.d.ls
 have hk:=h.kn
 unfold Hn
 unfold GY OG;dsimp only
 simp only[Rs.okb,decide_true,if_true,Bool.not_true,ar0,ar1,ar2,ar3,ar4,ar5,ar6,ar7,ar8,mxS,mxI,mxB,okf,okt,HH,Bq,orF,orT,Xr,Qp,UJ,Jg,Go,Ur,Pe]
 rw[Zk (by have:=h.d.lw';omega)]
 simp only[Rs.okb,h.d.gs.dict]
 rw[KO h.hi h.hk (by omega)]
 simp only[Rs.okb,Xr]
 rw[VZ h.ha.2,VZ hk.2.2,Xi (Hz (by omega)),Xi (Hz (by simp;omega))]
 have e:(if c=true then Rs.ok (b,a) else Rs.ok (a,b))=Rs.ok (if c=true then(b,a) else(a,b)):=by cases c<;> rfl
 rw[e]
 simp only[Rs.okb]
 rw[KO (by rw[Yl];exact h.hj) h.hl' (by have:=h.ll;omega)]
 simp only[Rs.okb,Xr]
 rw[List.append_assoc]
 rw[h.d.fin' (l:=sg++([(a,s)]++[(b,-s)])) hk.1 (by simp;omega)]
 cases c<;> rfl
theorem Dr.lay (h:LayOk n ws sg i k j l a b s)(hn:n<=2):Dr (n+1) (Kb ws i k j l a b c) (sgL sg a b s) where
 n3:=by omega
 ne:=by unfold Kb;rw[Yl,Yl];exact h.d.ne
 lw:=by unfold Kb;rw[Yl,Yl];have:=h.d.lw;omega
 ll:=λw hw=>by
  have k1:∀w∈Qn ws i k [a,b],w.length<=30+4*n+2:=λw hw=>by
   rcases JQ h.hi hw with z |rfl
   ·have:=h.d.ll w z;omega
   ·have:=h.d.ll _ (ZK h.hi);rw[GD h.hk];simp;omega
  have cT:j<(Qn ws i k [a,b]).length:=by rw[Yl];exact h.hj
  rcases JQ cT hw with z |rfl
  ·have:=k1 w z;omega
  ·have:=k1 _ (ZK cT);rw[GD h.hl',LO];omega
 gs:=RG h.kn.1 h.kn.2.1
 ls:=by unfold sgL;rw[EQ];have:=h.d.ls;simp;omega
 ky:=λw hw p hp=>by
  have kk:∀q:Int,q∈kys (sgL sg a b s)↔q∈kys sg∨q=a∨q=b:=λq=>by
   unfold sgL
   rw[ET]
   unfold kys
   simp
  rw[kk]
  have h1:=h.ha.1
  have h2:=h.hb.1
  have k1:∀w∈Qn ws i k [a,b],∀p∈w,(p.natAbs:Int)∈kys sg∨(p.natAbs:Int)=a∨(p.natAbs:Int)=b:=λw hw p hp=>by
   rcases JQ h.hi hw with z |rfl
   ·exact .inl (h.d.ky w z p hp)
   ·rcases BG hp with z |z
    ·exact .inl (h.d.ky _ (ZK h.hi) p z)
    ·have:p=a∨p=b:=by simpa using z
     rcases this with rfl |rfl
     ·exact .inr (.inl (by omega))
     ·exact .inr (.inr (by omega))
  have cT:j<(Qn ws i k [a,b]).length:=by rw[Yl];exact h.hj
  rcases JQ cT hw with z |rfl
  ·exact k1 w z p hp
  ·rcases BG hp with z |z
   ·exact k1 _ (ZK cT) p z
   ·have:p= -a∨p= -b:=by unfold und at z;split at z<;> simp at z<;> omega
    rcases this with rfl |rfl
    ·exact .inr (.inl (by omega))
    ·exact .inr (.inr (by omega))
 nd:=by
  have h1:=h.ha
  have h2:=h.hb
  have hf:∀y∈ws.flatten,(y.natAbs:Int)≠a/\(y.natAbs:Int)≠b:=λy hy=>by
   obtain⟨w,hw,hy⟩:=List.mem_flatten.mp hy
   have:=h.d.ky w hw y hy
   exact⟨λe=>h1.2 (e▸this),λe=>h2.2 (e▸this)⟩
  have p1:=ZH (p:=[a,b]) h.hi (Db (w:=gw ws i) (k:=k))
  have ab:=h.ab
  refine(ZH (by rw[Yl];exact h.hj) Db).nodup_iff.mpr (Lu (p1.nodup_iff.mpr (Lu h.d.nd (by simpa using ab) λx hx y hy e=>?_)) (by cases c<;> simp[und]<;> omega) λx hx y hy e=>?_)
  ·have:=hf y hy
   have:x=a∨x=b:=by simpa using hx
   omega
  ·have hx:x= -a∨x= -b:=by unfold und at hx;split at hx<;> simp at hx<;> omega
   rcases List.mem_append.mp (p1.mem_iff.mp hy) with z |z
   ·have:y=a∨y=b:=by simpa using z
    omega
   ·have:=hf y z
    omega
end
section
variable {n:Nat}{ws:List (List Int)}{sg:List (Int×Int)}
def swp (w:List Int)(k:Nat):List Int:=(w.set k (w.getD (k+1) 0)).set (k+1) (w.getD k 0)
def swW (ws:List (List Int))(i k:Nat):List (List Int):=ws.set i (swp (gw ws i) k)
def At2 (ws:List (List Int))(i k:Nat):Prop:=i<ws.length/\k+1<(gw ws i).length
theorem Up {i k:Nat}:(swW ws i k).length=ws.length:=by simp[swW]
theorem K5 {w:List Int}{k:Nat}:(swp w k).length=w.length:=by simp[swp]
theorem T4 {i k j:Nat}:(gw (swW ws i k) j).length=(gw ws j).length:=by
 unfold swW gw
 simp only[List.getD_eq_getElem?_getD]
 by_cases e:i=j
 ·subst e
  by_cases h:i<ws.length
  ·rw[List.getElem?_set_self h];simp[K5,h]
  ·rw[List.getElem?_eq_none (by simp;omega),List.getElem?_eq_none (by omega)]
 ·rw[List.getElem?_set_ne e]
theorem At2.sw {i k j l:Nat}(h:At2 ws j l):At2 (swW ws i k) j l:=⟨by rw[Up];exact h.1,by rw[T4];exact h.2⟩
theorem ON {i k:Nat}(h:At2 ws i k):((atR ws (i:Int)).bind λx=>atR x (k:Int))= .ok ((gw ws i).getD k 0)/\((atR ws (i:Int)).bind λx=>atR x ((k:Int)+1))= .ok ((gw ws i).getD (k+1) 0):=by
 obtain⟨hi,hk⟩:=h
 rw[J2 hi,Rs.okb,Rs.okb,show(k:Int)+1=((k+1:Nat):Int) by omega]
 exact⟨ZE (by simp[Nat.lt_of_succ_lt hk]),ZE (by simp[hk])⟩
theorem OP {i k:Nat}{x y:Int}(h:At2 ws i k):((atR ws (i:Int)).bind λr=>(Ui r (k:Int) x).bind λr'=>(Ui ws (i:Int) r').bind λw=>(atR w (i:Int)).bind λr2=>(Ui r2 ((k:Int)+1) y).bind λr3=>(Ui w (i:Int) r3).bind λz=>Rs.ok z)= .ok (ws.set i (((gw ws i).set k x).set (k+1) y)):=by
 obtain⟨hi,hk⟩:=h
 rw[J2 hi]
 simp only[Rs.okb]
 rw[YF (by omega)]
 simp only[Rs.okb]
 rw[YF hi]
 simp only[Rs.okb]
 rw[ZE (as:=ws.set i ((gw ws i).set k x)) (List.getElem?_set_self hi)]
 simp only[Rs.okb]
 rw[show(k:Int)+1=((k+1:Nat):Int) by omega,YF (by simp;omega)]
 simp only[Rs.okb]
 rw[YF (by simp;exact hi)]
 simp only[Rs.okb,List.set_set]
def Ut (i k j l u v:Nat):List Mx:=[.s "pass", .i i, .i k, .i j, .i l, .i u, .i v]
def QX (ws:List (List Int))(i k j l u v:Nat):List (List Int):=swW (swW (swW ws i k) j l) u v
variable {i k j l u v:Nat}
theorem Tu {f:List (List Int)->Int×Int->Rs (List (List Int))}(hf:∀{ws:List (List Int)}{i k:Nat},At2 ws i k->f ws ((i:Int),(k:Int))= .ok (swW ws i k))(h1:At2 ws i k)(h2:At2 ws j l)(h3:At2 ws u v):
  forN [((i:Int),(k:Int)),((j:Int),(l:Int)),((u:Int),(v:Int))] ws f= .ok (QX ws i k j l u v):=by
 unfold forN
 rw[hf h1,Rs.okb]
 unfold forN
 rw[hf h2.sw,Rs.okb]
 unfold forN
 rw[hf h3.sw.sw,Rs.okb]
 rfl
theorem ST {l:List Mx}{lo hi a b:Int}(h:¬(HT.sIx l.length 0 (some lo)=0/\HT.sIx l.length l.length (some hi)=l.length))(e:G8 l (some lo) (some hi)=[.i a, .i b]):(chk (¬(HT.sIx l.length 0 (some lo)=0/\HT.sIx l.length l.length (some hi)=l.length)) (Rs.ok (G8 l (some lo) (some hi)))).bind mx2= .ok (a,b):=by
 rw[Xi h,e];rfl
theorem DV (d:Dr n ws sg)(h1:At2 ws i k)(h2:At2 ws j l)(h3:At2 ws u v):GY (ws,sg) (Ut i k j l u v)= .ok (QX ws i k j l u v,sg):=by
 unfold Ut
 unfold GY OG;dsimp only
 simp only[Rs.okb,decide_true,if_true,Bool.not_true,ar0,ar1,ar2,ar3,ar4,ar5,ar6,ar7,ar8,mxS,mxI,mxB,okf,okt,HH,Bq,orF,orT,Xr,Zm,QV,Zb,Qo,Zt,MN]
 rw[Zk (by have:=d.lw';omega)]
 simp only[Rs.okb,d.gs.dict]
 rw[ST (l:=[Mx.s "pass", .i i, .i k, .i j, .i l, .i u, .i v]) (lo:=1) (hi:=3) (a:=i) (b:=k) (show ¬(HT.sIx 7 0 (some 1)=0/\HT.sIx 7 7 (some 3)=7) by decide) rfl,ST (l:=[Mx.s "pass", .i i, .i k, .i j, .i l, .i u, .i v]) (lo:=3) (hi:=5) (a:=j) (b:=l) (show ¬(HT.sIx 7 0 (some 3)=0/\HT.sIx 7 7 (some 5)=7) by decide) rfl,ST (l:=[Mx.s "pass", .i i, .i k, .i j, .i l, .i u, .i v]) (lo:=5) (hi:=7) (a:=u) (b:=v) (show ¬(HT.sIx 7 0 (some 5)=0/\HT.sIx 7 7 (some 7)=7) by decide) rfl]
 simp only[Rs.okb]
 rw[Xi (show[((i:Int),(k:Int)),((j:Int),(l:Int)),((u:Int),(v:Int))].length<=sizeLine from sz (by simp))]
 simp only[Rs.okb]
 rw[Tu (fun {ws i k} h=>?_) h1 h2 h3]
 ·simp only[Rs.okb]
  rw[d.fin]
  rfl
 ·obtain⟨e1,e2⟩:=ON h
  simp only
  rw[e1,e2]
  simp only[Rs.okb]
  exact OP h
theorem Li (hl:ws.length<=20)(h1:At2 ws i k)(h2:At2 ws j l)(h3:At2 ws u v):Ks (ws,sg) (Ut i k j l u v)= .ok (QX ws i k j l u v,sg):=by
 unfold Ut
 unfold Ks DR;dsimp only
 simp only[Rs.okb,decide_true,if_true,Bool.not_true,ar0,ar1,ar2,ar3,ar4,ar5,ar6,ar7,ar8,mxS,mxI,mxB,okf,okt,HH,Bq,orF,orT,Xr,Zm,QV,Zb,Qo,Zt,MN]
 rw[Zk (by omega),Xi (show[((i:Int),(k:Int)),((j:Int),(l:Int)),((u:Int),(v:Int))].length<=sizeLine from sz (by simp))]
 simp only[Rs.okb]
 rw[Tu (fun {ws i k} h=>?_) h1 h2 h3]
 ·rfl
 ·obtain⟨e1,e2⟩:=ON h
  simp only
  rw[e1,e2]
  simp only[Rs.okb]
  exact OP h
theorem SK {w:List Int}{k:Nat}{x:Int}(hk:k+1<w.length)(h:x∈swp w k):x∈w:=by
 unfold swp at h
 rcases List.mem_or_eq_of_mem_set h with h |h
 ·rcases List.mem_or_eq_of_mem_set h with h |h
  ·exact h
  ·rw[h];exact List.mem_of_getElem? (i:=k+1) (by simp[hk])
 ·rw[h];exact List.mem_of_getElem? (i:=k) (by simp[Nat.lt_of_succ_lt hk])
theorem Hg:∀{w:List Int}{k:Nat},k+1<w.length->(swp w k).Perm w
 |x::y::r,0,_=>List.Perm.swap ..
 |x::w,k+1,h=>(Hg (w:=w) (k:=k) (Nat.lt_of_succ_lt_succ h)).cons x
theorem Dr.sw (d:Dr n ws sg)(h:At2 ws i k):Dr n (swW ws i k) sg where
 n3:=d.n3
 ne:=by rw[Up];exact d.ne
 lw:=by rw[Up];exact d.lw
 ll:=λw hw=>by
  rcases List.mem_or_eq_of_mem_set hw with z |rfl
  ·exact d.ll w z
  ·rw[K5];exact d.ll _ (ZK h.1)
 gs:=d.gs
 ls:=d.ls
 ky:=λw hw p hp=>by
  rcases List.mem_or_eq_of_mem_set hw with z |rfl
  ·exact d.ky w z p hp
  ·exact d.ky _ (ZK h.1) p (SK h.2 hp)
 nd:=(ZH (p:=[]) h.1 (Hg h.2)).nodup_iff.mpr d.nd
theorem Dr.pass (d:Dr n ws sg)(h1:At2 ws i k)(h2:At2 ws j l)(h3:At2 ws u v):Dr n (QX ws i k j l u v) sg:=((d.sw h1).sw h2.sw).sw h3.sw.sw
theorem Dr.turn (d:Dr n ws sg)(hi:i<ws.length){s:Int}:Dr n (Vy ws i s) sg:=by
 have hr:∀x,x∈rot (gw ws i) s->x∈gw ws i:=λx hx=>by
  unfold rot at hx
  split at hx
  ·exact hx
  ·rcases List.mem_append.mp hx with z |z
   ·exact List.mem_of_mem_drop z
   ·exact List.mem_of_mem_take z
 have hl:(rot (gw ws i) s).length=(gw ws i).length:=by
  by_cases h:(gw ws i).length=0
  ·unfold rot;rw[if_pos h]
  ·obtain⟨c,_,hc,e⟩:=NC (s:=s) h
   rw[e];simp;omega
 exact⟨d.n3,by unfold Vy;simpa using d.ne,by unfold Vy;simpa using d.lw,λw hw=>by
  rcases List.mem_or_eq_of_mem_set hw with z |rfl
  ·exact d.ll w z
  ·rw[hl];exact d.ll _ (ZK hi),d.gs,d.ls,λw hw p hp=>by
  rcases List.mem_or_eq_of_mem_set hw with z |rfl
  ·exact d.ky w z p hp
  ·exact d.ky _ (ZK hi) p (hr p hp),(ZH (p:=[]) hi (by
   unfold rot
   split
   ·exact List.Perm.refl _
   ·exact List.perm_append_comm.trans (by rw[List.take_append_drop];exact List.Perm.refl _))).nodup_iff.mpr d.nd⟩
end
abbrev Q4:=Int×Int×Int×Int
section
variable {n:Nat}{ws:List (List Int)}{sg:List (Int×Int)}
structure PQ (ws:List (List Int))(q:Q4):Prop where
 ex:∃i k:Nat,q.1=(i:Int)/\q.2.1=(k:Int)/\i<ws.length/\(gw ws i)[k]?=some q.2.2.1/\(gw ws i)[k+1]?=some q.2.2.2
theorem c4 {x y z w:Int}:chk (¬(HT.sIx [x,y,z,w].length 0 (some 2)=0/\HT.sIx [x,y,z,w].length [x,y,z,w].length none=[x,y,z,w].length)) (Rs.ok (G8 [x,y,z,w] (some 2) none))= .ok [z,w]:=Xi (show ¬(HT.sIx 4 0 (some 2)=0/\HT.sIx 4 4 none=4) by decide)
theorem d4 {x y z w:Int}:chk (¬(HT.sIx [x,y,z,w].length 0 none=0/\HT.sIx [x,y,z,w].length [x,y,z,w].length (some 2)=[x,y,z,w].length)) (Rs.ok (G8 [x,y,z,w] none (some 2)))= .ok [x,y]:=Xi (show ¬(HT.sIx 4 0 none=0/\HT.sIx 4 4 (some 2)=4) by decide)
theorem WD {x y:Int}:Ag [x,y]= .ok (min x y):=Xi (by simp)
theorem W2 {x y:Int}:WB [x,y]= .ok (max x y):=Xi (by simp)
theorem NP (w:List Int):Ov 0 ((w.length:Int)-1)= .ok ((List.range (w.length-1)).map λ(i:Nat)=>(i:Int))∨1000<w.length:=by
 by_cases h:1000<w.length
 ·exact .inr h
 ·left
  by_cases h0:w.length=0
  ·rw[h0];rfl
  ·rw[show(w.length:Int)-1=((w.length-1:Nat):Int) by omega]
   exact ZM (by omega)
theorem N7 (d:Dr n ws sg)(hn:n<=2):Ok (FV ws) λl=>l.length<=168/\∀q∈l,PQ ws q:=by
 unfold FV Bz;dsimp only
 simp only[Rs.okb]
 rw[ZM (by have:=d.lw;omega)]
 simp only[Rs.okb]
 refine Ok.bind (Ok.forN (λi (g:List Q4)=>g.length<=42*i/\∀q∈g,PQ ws q) ⟨Nat.le_refl _,λq hq=>by cases hq⟩ λi a g ha hg=>?_) λg hg=>?_
 ·obtain⟨rfl,hi⟩:=Y1 ha
  have hl:=d.l hi
  have h4:=d.lw
  simp only[J2 hi,Rs.okb]
  rcases NP (gw ws i) with e |e
  ·rw[e]
   simp only[Rs.okb]
   refine Ok.bind (Ok.forN (λk (q:List Q4)=>q.length<=42*i+k/\∀x∈q,PQ ws x) ⟨by have:=hg.1;omega,hg.2⟩ λk b q hb hq=>?_) λq hq=>?_
   ·obtain⟨rfl,hk⟩:=Y1 hb
    have z1:(gw ws i)[k]?=some ((gw ws i).getD k 0):=by simp[show k<(gw ws i).length by omega]
    have z2:(gw ws i)[k+1]?=some ((gw ws i).getD (k+1) 0):=by simp[show k+1<(gw ws i).length by omega]
    rw[ZE z1,show(k:Int)+1=((k+1:Nat):Int) by omega,ZE z2]
    simp only[Rs.okb]
    rw[Xi (Hz (by have:=hq.1;omega))]
    refine⟨_,rfl,by have:=hq.1;simp;omega,λx hx=>?_⟩
    rcases List.mem_append.mp hx with hx |hx
    ·exact hq.2 x hx
    ·rw[List.mem_singleton.mp hx]
     exact⟨i,k,rfl,rfl,hi,z1,z2⟩
   ·rw[Zu] at hq
    exact⟨_,rfl,by have:=hq.1;omega,hq.2⟩
  ·omega
 ·rw[Zu] at hg
  have:=d.lw
  exact⟨_,rfl,by have:=hg.1;omega,hg.2⟩
def sv (sg:List (Int×Int))(k:Int):Int:=(Q5 sg k).getD 0
theorem ME {k:Int}(h:k∈kys sg):I9 sg k= .ok (sv sg k):=by
 have:=Qm.mpr h
 unfold I9 sv
 cases e:Q5 sg k with
 |none=>rw[e] at this;cases this
 |some v=>rfl
def pa (q:Q4):Int:=-(min q.2.2.1 q.2.2.2)
def pc (q:Q4):Int:=max q.2.2.1 q.2.2.2
def pb (p q:Q4):Int:=p.2.2.1+p.2.2.2-pa q
def ord (x y:Int):Int:=if x=y then 1 else-1
theorem Lb {x y:Int}:((Oh 2 (if decide (x=y)=true then 1 else 0)).bind λz=>Rs.ok (z-1))= .ok (ord x y):=by
 unfold ord
 by_cases h:x=y
 ·rw[if_pos h,show decide (x=y)=true by simpa using h];rfl
 ·rw[if_neg h,show decide (x=y)=false by simpa using h];rfl
structure StC (sg:List (Int×Int))(p q r:Q4):Prop where
 a1:pa q∈[p.2.2.1,p.2.2.2]
 c1:pc q∉ [p.2.2.1,p.2.2.2]
 so:Y2 [-r.2.2.1,-r.2.2.2]=Y2 [pb p q,pc q]
 e1:ord p.2.2.1 (pa q)*sv sg (pb p q)=ord q.2.2.1 (-(pa q))*sv sg (pc q)
 e2:ord q.2.2.1 (-(pa q))*sv sg (pa q)=ord r.2.2.1 (-(pb p q))*sv sg (pb p q)
theorem MQ {x y z:Int}:Oh (ord x y) z= .ok (ord x y*z):=YT (by unfold ord;split<;> decide) (by unfold ord;split<;> decide)
theorem BK {p q r:Q4}(ka:pa q∈kys sg)(kc:pc q∈kys sg)(kb:pa q∈[p.2.2.1,p.2.2.2]->pb p q∈kys sg):Ok (J0 sg p q r) λb=>b=true->StC sg p q r:=by
 unfold J0 UN;dsimp only
 simp only[Rs.okb,c4]
 rw[show-(min q.2.2.1 q.2.2.2)=pa q from rfl,show max q.2.2.1 q.2.2.2=pc q from rfl,show p.2.2.1+p.2.2.2-pa q=pb p q from rfl]
 by_cases h1:pa q∈[p.2.2.1,p.2.2.2]
 ·rw[show decide (pa q∈[p.2.2.1,p.2.2.2])=true by simpa using h1]
  simp only[Bool.not_true,orF,Rs.okb]
  by_cases h2:pc q∈[p.2.2.1,p.2.2.2]
  ·rw[show decide (pc q∈[p.2.2.1,p.2.2.2])=true by simpa using h2]
   exact⟨false,rfl,λz=>by cases z⟩
  ·rw[show decide (pc q∈[p.2.2.1,p.2.2.2])=false by simpa using h2,okf,Xi (show[-r.2.2.1,-r.2.2.2].length<=sizeLine from sz (by simp)),Xi (show[pb p q,pc q].length<=sizeLine from sz (by simp))]
   simp only[Rs.okb]
   rw[Xi (show[-r.2.2.1,-r.2.2.2].length<64 by simp),Xi (show[pb p q,pc q].length<64 by simp)]
   simp only[Rs.okb]
   by_cases h3:Y2 [-r.2.2.1,-r.2.2.2]=Y2 [pb p q,pc q]
   ·rw[show decide (Y2 [-r.2.2.1,-r.2.2.2]=Y2 [pb p q,pc q])=true by simpa using h3]
    simp only[Bool.not_true,okf]
    rw[Lb,Rs.okb,Lb,Rs.okb,Lb,Rs.okb,ME ka,ME kc,ME (kb h1)]
    simp only[Rs.okb,MQ]
    rw[GN (c:=decide (ord q.2.2.1 (-(pa q))*sv sg (pa q)=ord r.2.2.1 (-(pb p q))*sv sg (pb p q))) λ_=>rfl]
    refine⟨_,rfl,λz=>?_⟩
    simp only[Bool.and_eq_true,decide_eq_true_eq] at z
    exact⟨h1,h2,h3,z.1,z.2⟩
   ·rw[show decide (Y2 [-r.2.2.1,-r.2.2.2]=Y2 [pb p q,pc q])=false by simpa using h3]
    exact⟨false,rfl,λz=>by cases z⟩
 ·rw[show decide (pa q∈[p.2.2.1,p.2.2.2])=false by simpa using h1]
  exact⟨false,rfl,λz=>by cases z⟩
structure PassC (ws:List (List Int))(sg:List (Int×Int))(p q r:Q4):Prop where
 hp:PQ ws p
 hq:PQ ws q
 hr:PQ ws r
 p0:0<min p.2.2.1 p.2.2.2
 q0:min q.2.2.1 q.2.2.2<0/\0<max q.2.2.1 q.2.2.2
 st:StC sg p q r
def U8 (p q r:Q4):List Mx:=[.s "pass", .i p.1, .i p.2.1, .i q.1, .i q.2.1, .i r.1, .i r.2.1]
theorem O1 (d:Dr n ws sg){q:Q4}(h:PQ ws q):(q.2.2.1.natAbs:Int)∈kys sg/\(q.2.2.2.natAbs:Int)∈kys sg:=by
 obtain⟨i,k,_,_,hi,z1,z2⟩:=h.ex
 exact⟨d.ky _ (ZK hi) _ (List.mem_of_getElem? z1),d.ky _ (ZK hi) _ (List.mem_of_getElem? z2)⟩
theorem Ee (d:Dr n ws sg){p q:Q4}(hp:PQ ws p)(hq:PQ ws q)(p0:0<min p.2.2.1 p.2.2.2)(q0:min q.2.2.1 q.2.2.2<0/\0<max q.2.2.1 q.2.2.2):pa q∈kys sg/\pc q∈kys sg/\(pa q∈[p.2.2.1,p.2.2.2]->pb p q∈kys sg):=by
 obtain⟨k1,k2⟩:=O1 d hp
 obtain⟨k3,k4⟩:=O1 d hq
 have a:∀{x y:Int},(x.natAbs:Int)∈kys sg->y=(x.natAbs:Int)->y∈kys sg:=λh e=>e▸h
 unfold pa pc pb pa
 refine⟨?_,?_,λh=>?_⟩
 ·rcases Int.le_total q.2.2.1 q.2.2.2 with z |z
  ·exact a k3 (by omega)
  ·exact a k4 (by omega)
 ·rcases Int.le_total q.2.2.1 q.2.2.2 with z |z
  ·exact a k4 (by omega)
  ·exact a k3 (by omega)
 ·have: -(min q.2.2.1 q.2.2.2)=p.2.2.1∨ -(min q.2.2.1 q.2.2.2)=p.2.2.2:=by simpa using h
  rcases this with z |z
  ·exact a k2 (by omega)
  ·exact a k1 (by omega)
def PG (ws:List (List Int))(sg:List (Int×Int))(n:Nat)(l:List (List Mx)):Prop:=l.length<=n/\∀m∈l,∃p q r,m=U8 p q r/\PassC ws sg p q r
theorem PG.mono {n m:Nat}{l:List (List Mx)}(h:PG ws sg n l)(z:n<=m):PG ws sg m l:=⟨Nat.le_trans h.1 z,h.2⟩
theorem MS {l:List Q4}{c:Q4->Rs Bool}{f:Q4->Rs Q4}(p:Q4->Bool)(hl:l.length<=168)(hc:∀a,c a= .ok (p a))(hf:∀a,f a= .ok a):∃m:List Q4,Wi l c f= .ok m/\m.length<=168/\∀a∈m,a∈l/\p a=true:=
 ⟨l.filter p,by rw[FU (p:=p) (h:=λe=>e) (sz (by omega)) (λa _=>hc a) λa _ _=>hf a,List.map_id'],Nat.le_trans (List.length_filter_le ..) hl,λ_ ha=>List.mem_filter.mp ha⟩
theorem IA (d:Dr n ws sg)(hn:n<=2):Ok (Kq (ws,sg)) (PG ws sg 5000000):=by
 obtain⟨l,el,hl,hq⟩:=N7 d hn
 unfold Kq Dp;dsimp only
 simp only[Rs.okb,d.gs.dict,el,Xr,c4,d4,WD,W2]
 obtain⟨l1,e1,n1,h1⟩:=MS (c:=λa14=>Rs.ok (decide ((0:Int)<min a14.2.2.1 a14.2.2.2))) (f:=λa14=>Rs.ok a14) (λa14=>decide ((0:Int)<min a14.2.2.1 a14.2.2.2)) hl (λ_=>rfl) λ_=>rfl
 obtain⟨l2,e2,n2,h2⟩:=MS (c:=λa31=>if decide (min a31.2.2.1 a31.2.2.2<0)=true then Rs.ok (decide (0<max a31.2.2.1 a31.2.2.2)) else Rs.ok false) (f:=Rs.ok) (λa31=>decide (min a31.2.2.1 a31.2.2.2<0)&&decide (0<max a31.2.2.1 a31.2.2.2)) hl (λa=>by cases decide (min a.2.2.1 a.2.2.2<0)<;> rfl) λ_=>rfl
 obtain⟨l3,e3,n3,h3⟩:=MS (c:=λa54=>Rs.ok (decide (max a54.2.2.1 a54.2.2.2<0))) (f:=Rs.ok) (λa54=>decide (max a54.2.2.1 a54.2.2.2<0)) hl (λ_=>rfl) λ_=>rfl
 rw[e1,Rs.okb,e2,e3]
 refine Ok.bind (Ok.forN (λi g=>PG ws sg (28224*i) g) ⟨Nat.le_refl _,λm hm=>by cases hm⟩ λi p g hp hg=>?_) λg hg=>⟨g,rfl,hg.mono (by omega)⟩
 have hp:=h1 p (List.mem_of_getElem? hp)
 have i1:i<l1.length:=(List.getElem?_eq_some_iff.mp ‹_›).1
 rw[Rs.okb]
 refine Ok.bind (Ok.forN (λj g=>PG ws sg (28224*i+168*j) g) (hg.mono (Nat.le_refl _)) λj q g fu hg=>?_) λg hg=>⟨g,rfl,hg.mono (by omega)⟩
 have j1:j<l2.length:=(List.getElem?_eq_some_iff.mp fu).1
 have fu:=h2 q (List.mem_of_getElem? fu)
 rw[Rs.okb]
 refine Ok.bind (Ok.forN (λk g=>PG ws sg (28224*i+168*j+k) g) (hg.mono (Nat.le_refl _)) λk r g hr hg=>?_) λg hg=>⟨g,rfl,hg.mono (by omega)⟩
 have k1:k<l3.length:=(List.getElem?_eq_some_iff.mp hr).1
 have hr:=h3 r (List.mem_of_getElem? hr)
 have p0:0<min p.2.2.1 p.2.2.2:=by simpa using hp.2
 have q0:min q.2.2.1 q.2.2.2<0/\0<max q.2.2.1 q.2.2.2:=by simpa using fu.2
 obtain⟨ka,kc,kb⟩:=Ee d (hq p hp.1) (hq q fu.1) p0 q0
 obtain⟨b,eb,hb⟩:=BK (r:=r) ka kc kb
 rw[eb,Xr,Rs.okb]
 cases b with
 |false=>exact⟨g,rfl,hg.mono (by omega)⟩
 |true=>
  have zz:∀{n:Nat},n<=5000000->n<sizeLine:=λh=>Nat.lt_of_le_of_lt h (by decide)
  simp only[if_true,List.length_cons,List.length_nil,List.map_cons,List.map_nil,List.length_append]
  rw[Xi (sz (by omega)),Rs.okb,Xi ⟨by omega,sz (by simp)⟩,Rs.okb,Xi ⟨by omega,sz (by simp)⟩,Rs.okb,Xi ⟨by omega,sz (by simp)⟩,Rs.okb,Xi (zz (by have:=hg.1;omega))]
  refine⟨_,rfl,by have:=hg.1;simp;omega,λm hm=>?_⟩
  rcases List.mem_append.mp hm with hm |hm
  ·exact hg.2 m hm
  ·rw[List.mem_singleton.mp hm]
   exact⟨p,q,r,rfl,hq p hp.1,hq q fu.1,hq r hr.1,p0,q0,hb rfl⟩
end
def nm (m:Nat):List Int:=(List.range m).map λ(k:Nat)=>(k:Int)+1
def pm (xs:List Int):List Int:=xs.flatMap λx=>[x,-x]
structure WkP (m:Nat)(ws:List (List Int)):Prop where
 ne:1<=ws.length
 lw:ws.length<=4
 perm:ws.flatten.Perm (pm (nm m))
theorem O6 (m:Nat):(nm m).length=m:=by simp[nm]
theorem WkP.tot {m:Nat}{ws:List (List Int)}(h:WkP m ws):ws.flatten.length=2*m:=by
 have:=h.perm.length_eq
 unfold pm at this
 rw[Kd,O6] at this
 exact this
theorem WkP.short {m:Nat}{ws:List (List Int)}(h:WkP m ws){w:List Int}(hw:w∈ws):w.length<=2*m:=by
 have:=h.tot
 have:=(List.sublist_flatten_of_mem hw).length_le
 omega
def Ei (bq cp:List Int):List (Int×Int):=(List.range bq.length).map λ(k:Nat)=>(bq.getD k 0,((k:Int)+1)*cp.getD k 0)
theorem BN:∀(rs:List (Int×Int)) (a:Int),(Es rs a).length<=rs.length
 | [],_=>Nat.le_refl _
 |r::rs,a=>by
  show(BY r a++Es rs (Ft r a)).length<=_
  have h1:(BY r a).length<=1:=by
   unfold BY
   split
   ·simp
   ·split<;> simp
  have:=BN rs (Ft r a)
  simp only[List.length_append,List.length_cons]
  omega
theorem Iy {S:Int}:∀{rs:List (Int×Int)}{x:Int},(∀r∈rs,0<=r.1/\r.1+1<S)->0<=x->x<S->0<=Nc rs x/\Nc rs x<S
 | [],_,_,h0,h1=>⟨h0,h1⟩
 |r::rs,x,h,h0,h1=>by
  have:=BE (h r List.mem_cons_self).1 (h r List.mem_cons_self).2 h0 h1
  exact Iy (rs:=rs) (λq hq=>h q (.tail _ hq)) this.1 this.2
theorem Iw {bq cp:List Int}{m S:Nat}(h1:bq.length=m)(h2:cp.length=m)(hm:m<=6)(hS:2<=S)(hS4:S<=4)(hl:∀x∈bq,0<=x/\x+1<(S:Int))(hs:∀x∈cp,x=1∨x= -1):Ok (Kv bq cp (S:Int)) (WkP m):=by
 have hrs:∀q∈Ei bq cp,0<=q.1/\q.1+1<(S:Int):=λq hq=>by
  obtain⟨k,hk,rfl⟩:=List.mem_map.mp hq
  have hk:=List.mem_range.mp hk
  have:bq.getD k 0∈bq:=by simp[hk]
  exact hl _ this
 have eK:∀k (hk:k<bq.length) (dr:k<cp.length),(Ei bq cp)[k]?=some (bq[k],((k:Int)+1)*cp[k]):=λk hk dr=>by
  unfold Ei
  rw[List.getElem?_map,List.getElem?_range hk]
  simp[hk,dr]
 have hrl:(Ei bq cp).length=m:=by simp[Ei,h1]
 unfold Kv Dz;dsimp only
 simp only[Rs.okb]
 rw[Xi (show[false].length<=sizeLine from sz (by simp)),Rs.okb,show Og [false] (S:Int)= .ok (List.replicate S false) from ?_]
 rotate_left
 ·unfold Og
  rw[Xi ⟨by omega,by omega,sz (by simp;omega)⟩,Int.toNat_natCast]
  congr 1
  clear hS hS4 hl hrs
  induction S with
  |zero=>rfl
  |succ n ih=>rw[List.replicate_succ,List.flatten_cons,ih,List.replicate_succ];rfl
 rw[Rs.okb,ZM (by omega),Rs.okb]
 generalize hR:Ei bq cp=rs at hrs hrl eK
 refine Ok.bind (Ok.forN (λi (g:List Bool×List (List Int))=>g.1.length=S/\g.2.length<=i/\(∀q:Nat,q<i->g.1[q]?=some true)/\∃ps,Done (S:Int) g.1 ps/\g.2.flatten=ps.flatMap (Es rs)/\(g.2=[]->ps=[])) ⟨by simp,Nat.le_refl _,λq hq=>by omega,[],Done.none _ _,rfl,λ_=>rfl⟩ λi a g ha hg=>?_) λg hg=>?_
 ·obtain⟨rfl,hi⟩:=Y1 ha
  obtain⟨g1,g2,g3,ps,g4,g5,g6⟩:=hg
  have hi1:i<g.1.length:=by omega
  rw[Yw (n:=i) rfl hi1]
  simp only[Rs.okb]
  cases hb:g.1[i] with
  |true=>
   rw[show(!true)=false from rfl,if_neg Bool.false_ne_true]
   simp only[Rs.okb]
   exact⟨_,rfl,g1,by show g.2.length<=_;omega,EV g3 (by simp[hi1,hb]),ps,g4,g5,g6⟩
  |false=>
   rw[show(!false)=true from rfl,if_pos rfl]
   refine Ok.bind (R:=λg':List Bool×List (List Int)=>g'.1.length=S/\g'.2.length<=i+1/\(∀q:Nat,q<i+1->g'.1[q]?=some true)/\∃ps,Done (S:Int) g'.1 ps/\g'.2.flatten=ps.flatMap (Es rs)/\(g'.2=[]->ps=[])) (Ok.bind (DU (λg':List Bool×Int×List Int=>g'.1.length=S/\0<=g'.2.1/\g'.2.1<(S:Int)/\(∀q:Nat,g.1[q]?=some true->g'.1[q]?=some true)/\((g'.2.1=(i:Int)/\g'.1[i]?=some false)∨g'.1[i]?=some true)/\g'.2.2.length+100*g'.1.count false<=100*S/\∃qs,Done (S:Int) g'.1 (ps++qs)/\g'.2.2=qs.flatMap (Es rs)) (λg'=>g'.1.count false) (λg' gc=>?_) _ (g.1,(i:Int),[]) ⟨g1,by show(0:Int)<=(i:Int);omega,by show(i:Int)<(S:Int);omega,λq h=>h, .inl ⟨rfl,by simp[hi1,hb]⟩,by
    have:g.1.count false<=g.1.length:=List.count_le_length
    show 0+100*g.1.count false<=100*S
    omega,[],by rw[List.append_nil];exact g4,rfl⟩ ?_) λg' gc=>?_) λg' gc=>?_
   ·obtain⟨w1,w2,w3,w4,w5,w8,qs,w6,w7⟩:=gc
    obtain⟨p,hp⟩:∃p:Nat,g'.2.1=(p:Int):=⟨g'.2.1.toNat,by omega⟩
    have bO:p<g'.1.length:=by omega
    rw[Yw hp bO]
    refine⟨_,rfl,λhf=>?_⟩
    have hf':g'.1[p]=false:=by simpa using hf
    have hfs:g'.1[p]?=some false:=by simp[bO,hf']
    rw[hp,YF bO]
    simp only[Rs.okb]
    rw[ZM (by omega)]
    simp only[Rs.okb]
    refine Ok.bind (Ok.forN (λk (h:Int×List Int)=>h.1=Nc (rs.take k) (p:Int)/\h.2=g'.2.2++Es (rs.take k) (p:Int)) ⟨rfl,by rw[List.take_zero];exact(List.append_nil _).symm⟩ λk b h dA hh=>?_) λh hh=>?_
    ·obtain⟨rfl,hk⟩:=Y1 dA
     obtain⟨e1,e2⟩:=hh
     have dr:k<cp.length:=by omega
     have hq:=eK k hk dr
     have hts:rs.take (k+1)=rs.take k++[(bq[k],((k:Int)+1)*cp[k])]:=by rw[List.take_add_one,hq];rfl
     rw[hts,Ls,Le, ←e1]
     have hsg:=hs _ (List.getElem_mem dr)
     rw[Yw (r:=bq) (n:=k) rfl hk]
     simp only[Rs.okb]
     rw[Yw (r:=cp) (n:=k) rfl dr]
     simp only[Rs.okb]
     rw[Jd (a:=(k:Int)+1) (by omega) (by omega),Jd (a:=-((k:Int)+1)) (by omega) (by omega)]
     simp only[Rs.okb]
     have aj:h.2.length<sizeLine:=Hz (by
      have:=BN (rs.take k) (p:Int)
      rw[List.length_take] at this
      rw[e2,List.length_append];omega)
     rw[Xi aj,Xi aj]
     generalize bq[k]=low
     by_cases c1:h.1=low
     ·rw[if_pos (decide_eq_true c1)]
      simp only[Rs.okb]
      refine⟨_,rfl,?_,?_⟩
      ·rw[Rz c1,c1]
      ·rw[Pj c1,e2,List.append_assoc]
     ·rw[if_neg (by rw[decide_eq_false c1];exact Bool.false_ne_true)]
      by_cases c2:h.1=low+1
      ·rw[if_pos (decide_eq_true c2)]
       simp only[Rs.okb]
       refine⟨_,rfl,?_,?_⟩
       ·rw[Pu c2,c2];show low+1-1=low;omega
       ·rw[Pg c2,e2,List.append_assoc,Int.neg_mul]
      ·rw[if_neg (by rw[decide_eq_false c2];exact Bool.false_ne_true)]
       simp only[Rs.okb]
       refine⟨_,rfl,?_,?_⟩
       ·rw[RV c1 c2]
       ·rw[PV c1 c2,List.append_nil,e2]
    ·rw[Zu,h1, ←hrl,List.take_length] at hh
     obtain⟨e1,e2⟩:=hh
     have fV:=Iy hrs (show(0:Int)<=(p:Int) by omega) (show(p:Int)<(S:Int) by omega)
     have hct:=Cz hfs
     have hcl':=BN rs (p:Int)
     refine⟨_,rfl,⟨?_,?_,?_,?_,?_,?_,qs++[(p:Int)],?_,?_⟩,?_⟩
     ·show(g'.1.set p true).length=S
      rw[List.length_set];exact w1
     ·show 0<=h.1
      rw[e1];exact fV.1
     ·show h.1<_
      rw[e1];exact fV.2
     ·exact λq hq=>Dt (w4 q hq)
     ·refine .inr ?_
      show(g'.1.set p true)[i]?=some true
      rcases w5 with⟨h1,_⟩ |h1
      ·have:p=i:=by omega
       subst this
       rw[List.getElem?_set_self bO]
      ·exact Dt h1
     ·show h.2.length+100*(g'.1.set p true).count false<=100*S
      rw[e2,List.length_append];omega
     ·rw[←List.append_assoc]
      have:=w6.snoc (a:=(p:Int)) (by omega) (by omega) (by rw[Int.toNat_natCast];exact hfs)
      rwa [Int.toNat_natCast] at this
     ·show h.2=_
      rw[e2,w7,List.flatMap_append]
      simp
     ·show(g'.1.set p true).count false<g'.1.count false
      omega
   ·have:g.1.count false<=g.1.length:=List.count_le_length
    show g.1.count false<(S:Int).natAbs+2
    omega
   ·obtain⟨⟨w1,w2,w3,w4,w5,w8,qs,w6,w7⟩,hc⟩:=gc
    obtain⟨p,hp⟩:∃p:Nat,g'.2.1=(p:Int):=⟨g'.2.1.toNat,by omega⟩
    have bO:p<g'.1.length:=by omega
    rw[Yw hp bO,Rs.okb] at hc
    have dU:g'.1[p]=true:=by
     have:=Rs.ok.inj hc
     simpa using this
    have h5:g'.1[i]?=some true:=by
     rcases w5 with⟨h1,h6⟩ |h1
     ·have:p=i:=by omega
      subst this
      rw[List.getElem?_eq_getElem bO,dU] at h6
      cases h6
     ·exact h1
    rw[Xi (Hz (by omega))]
    refine⟨_,rfl,w1,?_,?_,ps++qs,w6,?_,λz=>by simp at z⟩
    ·show(g.2++[g'.2.2]).length<=_
     simp;omega
    ·exact EV (λq hq=>w4 q (g3 q hq)) h5
    ·show(g.2++[g'.2.2]).flatten=_
     rw[List.flatten_append,g5,List.flatMap_append,w7]
     simp
   ·exact⟨_,rfl,gc⟩
 ·obtain⟨g1,g2,g3,ps,g4,g5,g6⟩:=hg
  rw[Zu] at g2 g3
  have pp:=g4.all (by rw[g1];rfl) (by omega) λq hq=>g3 q (by omega)
  refine⟨_,rfl,?_,by omega,?_⟩
  ·refine Nat.pos_of_ne_zero λz=>?_
   rw[g6 (List.length_eq_zero_iff.mp z)] at pp
   have:=pp.length_eq
   simp[HX] at this
   omega
  rw[g5]
  refine(Ja _ pp).trans ?_
  rw[Int.toNat_natCast]
  refine(E1 hrs).trans ?_
  rw[←hR]
  unfold Ei pm nm
  rw[VB,VB,h1]
  refine Ua λk hk=>PP ?_
  have bI:=List.mem_range.mp hk
  exact hs _ (by simp;rw[List.getElem?_eq_getElem (by omega)];exact List.getElem_mem _)
theorem EN:∀{ws:List (List Int)}{i:Nat} (h:i<ws.length),((ws.set i ws[i].reverse).flatten).Perm ws.flatten
 | [],i,h=>by simp at h
 |w::ws,0,h=>by
  show(w.reverse++ws.flatten).Perm (w++ws.flatten)
  exact(List.reverse_perm w).append_right _
 |w::ws,i+1,h=>by
  have h':i<ws.length:=by simpa using h
  show(w++(ws.set i ws[i].reverse).flatten).Perm (w++ws.flatten)
  exact(EN h').append_left _
theorem Sr {α:Type}{l:List (Int×α)}{k:Int}{v:α}:(G2 l k v).length<=l.length+1:=by
 unfold G2
 split
 ·simp
 ·simp
theorem Ss {x f:Int}(h:0<f):((x*f).natAbs:Int)=(x.natAbs:Int)*f:=by
 rw[Int.natAbs_mul,Int.natCast_mul]
 congr 1
 omega
theorem WJ {m:Nat}(h:m<7):(pm (nm m)).Nodup:=(show ∀m:Fin 7,(pm (nm m)).Nodup by decide) ⟨m,h⟩
theorem We {m:Nat}{x:Int}(h:x∈pm (nm m)):∃k:Nat,k<m/\(x.natAbs:Int)=(k:Int)+1:=by
 obtain⟨y,hy,hx⟩:=List.mem_flatMap.mp h
 obtain⟨k,hk,rfl⟩:=List.mem_map.mp hy
 have:x=(k:Int)+1∨x= -((k:Int)+1):=by simpa using hx
 exact⟨k,List.mem_range.mp hk,by omega⟩
theorem Tt {α:Type}{as:List α}{i:Int}(h0:0<=i)(h:i<(as.length:Int)):∃x,atR as i= .ok x/\x∈as:=
 ⟨as[i.toNat]'(by omega),Yw (by omega) (by omega),List.getElem_mem _⟩
theorem C0 {ws:List (List Int)}{cp r:List Int}{m:Nat}(w:WkP m ws)(h2:cp.length=m)(hs:∀x∈cp,x=1∨x= -1)(hm:m<=6)(hr:20<=r.length)(hf:∃j:Int,0<=j/\j<3/\atR r (-1)= .ok j):Ok (QM ws cp r) λd=>Dr 0 d.1 d.2:=by
 unfold QM Vw;dsimp only
 simp only[Rs.okb]
 have hw4:=w.lw
 rw[ZM (by omega),Rs.okb]
 refine Ok.bind (Ok.forN (λi (g:List (List Int)×List (Int×Bool))=>WkP m g.1/\g.1.length=ws.length/\g.2.length<=30*i) ⟨w,rfl,Nat.le_refl _⟩ λi a g ha hg=>?_) λg hg=>?_
 ·obtain⟨rfl,hi⟩:=Y1 ha
  obtain⟨g1,g2,g3⟩:=hg
  rw[Yw (r:=r) (n:=4+i) (by omega) (by omega)]
  simp only[Rs.okb]
  refine Ok.bind (R:=λg':List (List Int)×List (Int×Bool)=>WkP m g'.1/\g'.1.length=ws.length/\g'.2.length<=30*(i+1)) (Ok.ite (λ_=>?_) λ_=>⟨_,rfl,g1,g2,by show g.2.length<=_;omega⟩) λg' gc=>⟨_,rfl,gc⟩
  have fv:i<g.1.length:=by omega
  have hl:=g1.short (List.getElem_mem fv)
  rw[Yw (r:=g.1) (n:=i) rfl fv]
  simp only[Rs.okb]
  rw[Xi trivial,Rs.okb,YF fv]
  simp only[Rs.okb]
  rw[Yw (r:=g.1.set i _) (n:=i) rfl (by simpa using fv),List.getElem_set_self]
  simp only[Rs.okb]
  refine Ok.bind (Ok.forN (λk (h:List (Int×Bool))=>h.length<=30*i+k) g3 λk b h hb hh=>?_) λh hh=>?_
  ·rw[Xi (Hz (by
    have:=(List.getElem?_eq_some_iff.mp hb).1
    rw[List.length_reverse] at this
    omega))]
   exact⟨_,rfl,Nat.le_trans Sr (by omega)⟩
  ·rw[List.length_reverse] at hh
   refine⟨_,rfl,⟨by rw[List.length_set];exact g1.ne,by rw[List.length_set];exact g1.lw,(EN fv).trans g1.perm⟩,by rw[List.length_set];exact g2,by show h.length<=_;omega⟩
 obtain⟨g1,g2,-⟩:=hg
 generalize g.1=vs at g1 g2
 rw[ZM (by omega),Rs.okb]
 refine Ok.bind (Ok.forN (λi (l:List (Int×Int))=>l.map Prod.fst=nm i/\∀e∈l,e.2=1∨e.2= -1) ⟨rfl,λe he=>nomatch he⟩ λi a l ha hl=>?_) λl hl=>?_
 ·obtain⟨rfl,hi⟩:=Y1 ha
  obtain⟨hl,ft⟩:=hl
  have hsi:=hs _ (List.getElem_mem hi)
  rw[Yw (r:=cp) (n:=i) rfl hi]
  simp only[Rs.okb]
  have e:∀s:Int,(l++[((i:Int)+1,s)]).map Prod.fst=nm (i+1):=λs=>by
   unfold nm at hl⊢
   rw[List.map_append,hl,List.range_succ,List.map_append]
   rfl
  have hll:l.length=i:=by
   have:=congrArg List.length hl
   simpa[nm] using this
  refine Ok.bind (R:=λs:Int=>s=1∨s= -1) (Ok.ite (λ_=>⟨_,rfl,by omega⟩) λ_=>⟨_,rfl,hsi⟩) λs dz=>?_
  rw[Xi (Hz (by omega))]
  refine⟨_,rfl,e s,λx hx=>?_⟩
  rcases List.mem_append.mp hx with z |z
  ·exact ft x z
  ·rw[List.mem_singleton.mp z];exact dz
 rw[Zu] at hl
 obtain⟨hl,ft⟩:=hl
 obtain⟨j,j0,j1,ej⟩:=hf
 rw[U3 (by decide) (by decide) (by decide) (by decide)]
 simp only[Rs.okb]
 rw[Xi (sz (by simp)),Rs.okb,ej,Rs.okb]
 obtain⟨f,ef,hfm⟩:=Tt (as:=[(1:Int),7,10^(9:Int).toNat]) j0 j1
 have hff:0<f/\f<2^64:=by
  simp only[List.mem_cons,List.not_mem_nil,or_false] at hfm
  rcases hfm with rfl |rfl |rfl<;> decide
 obtain⟨f0,f1⟩:=hff
 rw[ef,Rs.okb]
 rw[Jf (h:=λw=>w.map λx=>x*f) (sz (by omega)) λw' hw'=>Jf (h:=λx=>x*f) (sz (by have:=g1.short hw';omega)) λx _=>Jd (by omega) f1,Rs.okb]
 have hll:l.length=m:=by
  have:=congrArg List.length hl
  simp[nm] at this
  omega
 rw[Jf (h:=λe:Int×Int=>(e.1*f,e.2)) (sz (by omega)) λe _=>by rw[Jd (by omega) f1,Rs.okb],Rs.okb]
 have hk:(l.map λe:Int×Int=>(e.1*f,e.2)).map Prod.fst=(nm cp.length).map λx=>x*f:=by
  rw[List.map_map,show(Prod.fst∘λe:Int×Int=>(e.1*f,e.2))=(λx=>x*f)∘Prod.fst from rfl, ←List.map_map,hl]
 have bI:kys (l.map λe:Int×Int=>(e.1*f,e.2))=(List.range m).map λ(k:Nat)=>((k:Int)+1)*f:=by
  show(l.map λe:Int×Int=>(e.1*f,e.2)).map Prod.fst=_
  rw[hk,h2,nm,List.map_map]
  rfl
 refine⟨_,rfl,by omega,by show 1<=(vs.map _).length;rw[List.length_map];exact g1.ne,by show(vs.map _).length<=4;rw[List.length_map];exact g1.lw,λw' hw'=>?_,⟨?_,λe he=>?_⟩,by show(l.map _).length<=_;rw[List.length_map];omega,λw' hw' x hx=>?_,?_⟩
 ·obtain⟨v,hv,rfl⟩:=List.mem_map.mp hw'
  rw[List.length_map]
  have:=g1.short hv
  omega
 ·have:((l.map λe:Int×Int=>(e.1*f,e.2)).map λx:Int×Int=>x.1).Pairwise (· < ·):=by
   rw[show(l.map λe:Int×Int=>(e.1*f,e.2)).map (λx:Int×Int=>x.1)=_ from bI,List.pairwise_map]
   exact List.pairwise_lt_range.imp fun {a b} h=>Int.mul_lt_mul_of_pos_right (by omega) f0
  exact List.pairwise_map.mp this
 ·have:e.1∈kys (l.map λe:Int×Int=>(e.1*f,e.2)):=List.mem_map_of_mem he
  rw[bI] at this
  obtain⟨k,_,e1⟩:=List.mem_map.mp this
  rw[←e1]
  have:=Int.mul_le_mul_of_nonneg_right (show(1:Int)<=(k:Int)+1 by omega) (Int.le_of_lt f0)
  omega
 ·obtain⟨v,hv,rfl⟩:=List.mem_map.mp hw'
  obtain⟨y,hy,rfl⟩:=List.mem_map.mp hx
  obtain⟨k,hk1,e⟩:=We (g1.perm.mem_iff.mp (List.mem_flatten.mpr ⟨v,hv,hy⟩))
  show _∈kys (l.map _)
  rw[bI,Ss f0,e]
  exact List.mem_map.mpr ⟨k,List.mem_range.mpr hk1,rfl⟩
 ·show(vs.map λw=>w.map λx=>x*f).flatten.Nodup
  rw[show(vs.map λw=>w.map λx=>x*f).flatten=vs.flatten.map λx=>x*f by rw[List.map_flatten]]
  exact ZG (λa b _ _ e=>Int.eq_of_mul_eq_mul_right (by omega) e) (g1.perm.nodup_iff.mpr (WJ (by omega)))
theorem Ro {r:List Int}{n:Nat}(h:r.length=n+1):atR r (-1)= .ok (r[n]'(by omega)):=by
 unfold atR atI ixN
 rw[if_neg (by omega),if_pos (by omega)]
 simp only[h,Option.bind_some,show(-1+((n+1:Nat):Int)).toNat=n by omega]
 rw[List.getElem?_eq_getElem (by omega)]
theorem Wy {l:List Int}(h:l.length<=6):(spl l none (some 3) (G8 [0,1,0] none (some (l.length:Int)))).length=l.length/\(G8 [(0:Int),1,0] none (some (l.length:Int))).length<=3/\∀x∈spl l none (some 3) (G8 [0,1,0] none (some (l.length:Int))),x∈l∨x=0∨x=1:=by
 unfold spl G8
 rw[HT.sIx_none,HT.sIx_none,HT.sIx_nat,show HT.sIx l.length l.length (some 3)=min 3 l.length from HT.sIx_nat _ _ 3]
 refine⟨?_,?_,λx hx=>?_⟩
 ·simp;omega
 ·simp;omega
 ·rcases List.mem_append.mp hx with hx |hx
  ·rcases List.mem_append.mp hx with hx |hx
   ·exact .inl (List.mem_of_mem_take hx)
   ·have:=List.mem_of_mem_take hx
    simp at this
    omega
  ·exact .inl (List.mem_of_mem_drop hx)
theorem OD {l:List Int}{n:Nat}(h:l.length*n<=1000)(hn:n<=1000):Og l (n:Int)= .ok (List.replicate n l).flatten:=by
 unfold Og
 rw[Xi ⟨by omega,by omega,by rw[Int.toNat_natCast];exact sz (by omega)⟩,Int.toNat_natCast]
theorem Mu {α:Type}{l m:List α}(h:l.length+m.length<=1000):CG l m= .ok (l++m):=Xi (sz (by omega))
def zs:List Int:=[7,3,3,3,2,2,2,2,4,2,60,60,4,4,4,2,60,60,4,4,4,2,60,60,4,4,4,2,60,60,4,4,4,2,60,60,4,4,4,2,60,60,4,4,3]
theorem zs9:∀k:Nat,k<6->zs[6*k+9]?=some 2:=by decide
theorem emd {y:Int}{n:Nat}(h:0<n):∃j:Nat,y % (n:Int)=(j:Int)/\j<n:=by
 have h1:=Int.emod_nonneg y (show(n:Int)≠0 by omega)
 have h2:=Int.emod_lt_of_pos y (show(0:Int)<n by omega)
 exact⟨(y % (n:Int)).toNat,by omega,by omega⟩
theorem Pi (i:Nat):pm (nm (i+1))=pm (nm i)++[(i:Int)+1,-(i:Int)-1]:=by
 unfold pm nm
 rw[List.range_succ,List.map_append,List.flatMap_append]
 congr 1
 show[(i:Int)+1,-((i:Int)+1)]=_
 congr 2
 omega
theorem Oq (i:Nat):(pm (nm i)).length=2*i:=by
 unfold pm
 rw[Kd,O6]
theorem ND (ns:List Int){p:Int}(hp:0<=p):Ok (DZ ns p) λd=>Dr 0 d.1 d.2:=by
 unfold DZ Ed;dsimp only
 simp only[Rs.okb]
 rw[Xi (sz (by simp)),Rs.okb,Xi (sz (by simp)),Rs.okb,show Og [(2:Int)] 4= .ok [2,2,2,2] from OD (n:=4) (by simp) (by omega),Rs.okb,Mu (by simp),Rs.okb,Xi (sz (by simp)),Rs.okb,show Og [(4:Int),2,60,60,4,4] 6=_ from OD (n:=6) (by simp) (by omega),Rs.okb,Mu (by simp),Rs.okb,Xi (sz (by simp)),Rs.okb,Mu (by simp),Rs.okb]
 obtain⟨r,er,rl,hr⟩:=ER ns hp zs (by decide) (by decide)
 rw[show([(7:Int),3,3,3]++[2,2,2,2]++(List.replicate 6 [(4:Int),2,60,60,4,4]).flatten++[3])=zs from rfl,er,Xr,Rs.okb]
 have rl:r.length=45:=rl
 have hb:∀(i:Nat) (h:i<45) (s:Int),zs[i]?=some s->0<=r[i]/\r[i]<s:=λi h s e=>hr i r[i] s (by simp[rl,h]) e
 obtain⟨b0,c0⟩:=hb 0 (by omega) 7 rfl
 obtain⟨b3,c3⟩:=hb 3 (by omega) 3 rfl
 rw[Yw (r:=r) (k:=3) (n:=3) rfl (by omega),Yw (r:=r) (k:=0) (n:=0) rfl (by omega),Yw (r:=r) (k:=1) (n:=1) rfl (by omega),Yw (r:=r) (k:=2) (n:=2) rfl (by omega)]
 simp only[Rs.okb]
 obtain⟨m,em⟩:∃m:Nat,r[0]=(m:Int):=⟨r[0].toNat,by omega⟩
 obtain⟨S,eS⟩:∃S:Nat,(2:Int)+r[3]=(S:Int):=⟨(2+r[3]).toNat,by omega⟩
 rw[em,eS,ZM (by omega),Rs.okb]
 refine Ok.bind (Ok.forN (λi (g:List Int×List Int×List Int)=>g.1.length=i/\g.2.1.length=i/\g.2.2=pm (nm i)/\(∀x∈g.1,0<=x/\x+1<(S:Int))/\(∀x∈g.2.1,x=1∨x= -1)) ⟨rfl,rfl,rfl,λx hx=>(by cases hx),λx hx=>(by cases hx)⟩ λi a g ha hg=>?_) λg hg=>?_
 ·obtain⟨rfl,hi⟩:=Y1 ha
  obtain⟨g1,g2,g3,g4,g5⟩:=hg
  have g3l:=Oq i
  rw[YT (by decide) (by decide)]
  simp only[Rs.okb]
  rw[Yw (r:=r) (n:=6*i+8) (by omega) (by omega)]
  simp only[Rs.okb]
  rw[Yw (r:=r) (n:=6*i+9) (by omega) (by omega)]
  simp only[Rs.okb]
  obtain⟨d0,d1⟩:=hb (6*i+9) (by omega) 2 (zs9 i (by omega))
  obtain⟨j,ej,hj⟩:=emd (y:=r[6*i+8]) (n:=S-1) (by omega)
  rw[show((S-1:Nat):Int)=(S:Int)-1 by omega] at ej
  rw[Yn (by omega),Rs.okb,ej,YT (by decide) (by decide)]
  simp only[Rs.okb]
  rw[Xi (Hz (by omega)),Xi (Hz (by omega)),Xi (sz (by simp)),Rs.okb,Xi (sz (by rw[g3];simp;omega))]
  refine⟨_,rfl,by simp[g1],by simp[g2],by rw[g3,Pi],λx hx=>?_,λx hx=>?_⟩
  ·rcases List.mem_append.mp hx with z |z
   ·exact g4 x z
   ·rw[List.mem_singleton.mp z];omega
  ·rcases List.mem_append.mp hx with z |z
   ·exact g5 x z
   ·rw[List.mem_singleton.mp z];omega
 rw[Zu] at hg
 obtain⟨g1,g2,g3,g4,g5⟩:=hg
 refine Ok.bind (R:=λl:List Int=>l.length=m/\∀x∈l,0<=x/\x+1<(S:Int)) ?_ λl hl=>?_
 ·rw[GN (c:=decide ((2:Int)<(S:Int))) λ_=>rfl,Rs.okb]
  refine Ok.ite (λhb=>?_) λ_=>⟨_,rfl,g1,g4⟩
  have h3:(2:Int)<(S:Int):=by
   simp only[Bool.and_eq_true,decide_eq_true_eq] at hb
   exact hb.2
  obtain⟨y1,y2,y3⟩:=Wy (l:=g.1) (by omega)
  rw[Xi (sz (by simp)),Rs.okb,Rs.okb,Xi (sz (by omega))]
  refine⟨_,rfl,by omega,λx hx=>?_⟩
  rcases y3 x hx with z |z
  ·exact g4 x z
  ·omega
 obtain⟨ws,ew,hw⟩:=Iw hl.1 g2 (by omega) (by omega) (by omega) hl.2 g5
 rw[ew,Xr,Rs.okb]
 obtain⟨b44,c44⟩:=hb 44 (by omega) 3 rfl
 have e44:atR r (-1)= .ok r[44]:=Ro (n:=44) rl
 refine Ok.bind (R:=WkP m) ?_ λvs hv=>(C0 hv g2 g5 (by omega) (by omega) ⟨r[44],b44,c44,e44⟩).noE
 refine Ok.ite (λ_=>?_) λ_=>⟨_,rfl,hw⟩
 rw[ZM (by omega),Rs.okb,Jf (h:=λ_=>([]:List Int)) (sz (by simp;omega)) λ_ _=>rfl]
 simp only[Rs.okb]
 rw[YT (by decide) (by decide),Rs.okb,show(2:Int)*(m:Int)=((2*m:Nat):Int) by omega,ZM (by omega)]
 simp only[Rs.okb]
 refine Ok.bind (Ok.forN (λi (g:List Int×List (List Int))=>g.2.length=S/\g.1.length+i=2*m/\(∀w∈g.2,w.length<=i)/\(g.2.flatten++g.1).Perm (pm (nm m))) ⟨by simp,by show g.2.2.length+0=_;rw[g3,Oq];rfl,λw hw=>?_,?_⟩ λi a g ha hg=>?_) λg hg=>?_
 ·obtain⟨_,_,rfl⟩:=List.mem_map.mp hw
  exact Nat.zero_le _
 ·have:∀l:List Int,(l.map λ_=>([]:List Int)).flatten=[]:=λl=>by simp
  rw[this,g3];exact List.Perm.refl _
 ·obtain⟨rfl,hi⟩:=Y1 ha
  obtain⟨h1,h2,h3,h4⟩:=hg
  rw[IK (by decide) (by decide),Rs.okb,YT (by decide) (by decide),Rs.okb,Yn (by decide)]
  simp only[Rs.okb]
  rw[Yw (r:=r) (n:=6*(i/2)+i % 2+10) (by omega) (by omega),Yw (r:=r) (n:=6*(i/2)+i % 2+12) (by omega) (by omega)]
  simp only[Rs.okb]
  obtain⟨j,ej,hj⟩:=emd (y:=r[6*(i/2)+i % 2+10]) (n:=g.1.length) (by omega)
  obtain⟨q,eq,hq⟩:=emd (y:=r[6*(i/2)+i % 2+12]) (n:=S) (by omega)
  rw[Yn (by omega),Rs.okb,ej,Tq hj (by omega),Rs.okb,Yn (by omega),Rs.okb,eq]
  have hq:q<g.2.length:=by omega
  have hw:=h3 g.2[q] (List.getElem_mem hq)
  rw[Yw (n:=q) rfl hq,Rs.okb,Xi (Hz (by omega)),YF hq,Rs.okb]
  have hjs:g.1[j]?=some g.1[j]:=by simp[hj]
  have hqs:g.2[q]?=some g.2[q]:=by simp[hq]
  refine⟨_,rfl,by simp[h1],?_,λw hw'=>?_,(LF hqs hjs).trans h4⟩
  ·have:=Ci hjs
   show(g.1.eraseIdx j).length+(i+1)=_
   omega
  ·rcases mem_set hw' with h |h
   ·have:=h3 w h;omega
   ·rw[h];simp;omega
 ·obtain⟨h1,h2,h3,h4⟩:=hg
  rw[Zu] at h2
  have:g.1=[]:=List.length_eq_zero_iff.mp (by omega)
  rw[this,List.append_nil] at h4
  exact⟨_,rfl,by omega,by omega,h4⟩
section
variable {n:Nat}{ws:List (List Int)}{sg:List (Int×Int)}
structure Sm (x0 x1 x2 x3 x4 x5 x6 x7 x8:Int):Prop where
 h1:0<=x1/\x1<41
 h4:0<=x4/\x4<60
 h5:0<=x5/\x5<60
 h6:x6=0∨x6=1
 h7:x7=0∨x7=1
variable {x0 x1 x2 x3 x4 x5 x6 x7 x8:Int}
theorem OC {y:Int}:∃j:Nat,y % 4=(j:Int)/\∃f,atR [(1:Int),1,10^(9:Int).toNat,10^(40:Int).toNat] (j:Int)= .ok f/\1<=f:=by
 obtain⟨j,e,h⟩:=emd (y:=y) (n:=4) (by omega)
 refine⟨j,e,?_⟩
 rcases(show j=0∨j=1∨j=2∨j=3 by omega) with rfl |rfl |rfl |rfl
 ·exact⟨1,ar0,by decide⟩
 ·exact⟨1,ar1,by decide⟩
 ·exact⟨_,ar2,by decide⟩
 ·exact⟨_,ar3,by decide⟩
theorem B5 (d:Dr n ws sg)(h:Sm x0 x1 x2 x3 x4 x5 x6 x7 x8):Ok (Ez (ws,sg) [x0,x1,x2,x3,x4,x5,x6,x7,x8]) λm=>∃ (i k:Nat) (c:Int) (o:Bool) (s:Int),m=UK i k c o s/\i<ws.length/\k<=(gw ws i).length/\c∉kys sg/\1<=c/\(s=1∨s= -1):=by
 unfold Ez Ip;dsimp only
 simp only[Rs.okb,ar0,ar1,ar4,ar6,ar7,ar8]
 obtain⟨i,ei,hi⟩:=emd (y:=x0) (n:=ws.length) (by have:=d.ne;omega)
 rw[Yn (by have:=d.ne;omega),Rs.okb,ei,J2 hi]
 simp only[Rs.okb]
 obtain⟨k,ek,hk⟩:=emd (y:=x1) (n:=(gw ws i).length+1) (by omega)
 rw[Yn (by omega),Rs.okb,show((gw ws i).length:Int)+1=(((gw ws i).length+1:Nat):Int) by omega,ek]
 rw[U3 (by decide) (by decide) (by decide) (by decide),U3 (by decide) (by decide) (by decide) (by decide)]
 simp only[Rs.okb]
 obtain⟨j,ej,f,ef,hf⟩:=OC (y:=x8)
 rw[Xi (sz (by simp)),Rs.okb,Yn (by decide),Rs.okb,ej,ef,Rs.okb]
 have h4:=h.h4
 rw[YT (by omega) (by omega)]
 simp only[Rs.okb,d.gs.dict]
 obtain⟨c,ec,hc,dZ⟩:=Mz (d:=sg) (n:=1+x4*f)
 rw[ec,Xr,Rs.okb]
 rw[Xi (sz (by simp)),Rs.okb,YT (by decide) (by decide)]
 simp only[Rs.okb]
 have e6:∃o:Bool,atR [("under":Str),"over"] x6= .ok (ovw o):=by
  rcases h.h6 with z |z
  ·rw[z];exact⟨false,ar0⟩
  ·rw[z];exact⟨true,ar1⟩
 obtain⟨o,eo⟩:=e6
 rw[eo]
 simp only[Rs.okb]
 rw[Xi (sz (by simp))]
 have:=Int.mul_nonneg h4.1 (show 0<=f by omega)
 exact⟨_,rfl,i,k,c,o,2*x7-1,rfl,hi,by omega,dZ,by omega,by rcases h.h7 with z |z<;> omega⟩
theorem OS (d:Dr n ws sg)(h:Sm x0 x1 x2 x3 x4 x5 x6 x7 x8):Ok (N2 (ws,sg) [x0,x1,x2,x3,x4,x5,x6,x7,x8]) λm=>∃ (i k j l:Nat) (a b:Int) (c:Bool) (s:Int),m=Hn i k j l a b c s/\LayOk n ws sg i k j l a b s:=by
 unfold N2 SL;dsimp only
 simp only[Rs.okb,ar0,ar1,ar2,ar3,ar4,ar5,ar6,ar7,ar8]
 obtain⟨i,ei,hi⟩:=emd (y:=x0) (n:=ws.length) (by have:=d.ne;omega)
 obtain⟨j,ej,hj⟩:=emd (y:=x2) (n:=ws.length) (by have:=d.ne;omega)
 rw[Yn (by have:=d.ne;omega),Rs.okb,ei,J2 hi]
 simp only[Rs.okb]
 obtain⟨k,ek,hk⟩:=emd (y:=x1) (n:=(gw ws i).length+1) (by omega)
 rw[Yn (by omega),Rs.okb,show((gw ws i).length:Int)+1=(((gw ws i).length+1:Nat):Int) by omega,ek,Yn (by have:=d.ne;omega),Rs.okb,ej,J2 hj]
 simp only[Rs.okb]
 have l1:=d.l hi
 have l2:=d.l hj
 rw[Xi (by omega),Rs.okb]
 refine Ok.bind (R:=λg:List Int=>0<g.length/\∀x∈g,∃l:Nat,x=(l:Int)/\l<=(gw ws j).length+(if j=i then 2 else 0)/\(j=i->l≠k+1)) ?_ λg hg=>?_
 ·by_cases e:j=i
  ·subst e
   rw[show decide ((j:Int)=(j:Int))=true by simp,okt,show((gw ws j).length:Int)+3=(((gw ws j).length+3:Nat):Int) by omega,ZM (by omega),Rs.okb,FU (p:=λa:Int=>!decide (a=(k:Int)+1)) (h:=λe=>e) (sz (by simp;omega)) (λ_ _=>rfl) λ_ _ _=>rfl,List.map_id',Rs.okb]
   refine⟨_,rfl,List.length_pos_iff_exists_mem.mpr ⟨0,List.mem_filter.mpr ⟨List.mem_map.mpr ⟨0,List.mem_range.mpr (by omega),rfl⟩,?_⟩⟩,λx hx=>?_⟩
   ·simp;omega
   ·obtain⟨hx,hy⟩:=List.mem_filter.mp hx
    obtain⟨l,hl,rfl⟩:=LJ hx
    have hy:¬((l:Int)=(k:Int)+1):=by simpa using hy
    exact⟨l,rfl,by rw[if_pos rfl];omega,λ_=>by omega⟩
  ·rw[show decide ((j:Int)=(i:Int))=false by simp;omega,okf]
   refine⟨_,rfl,?_,λx hx=>?_⟩
   ·simp[Ub]
   ·obtain⟨l,hl,rfl⟩:=List.mem_map.mp hx
    have:=List.mem_range.mp hl
    exact⟨l,by omega,by rw[if_neg e];omega,λz=>absurd z e⟩
 obtain⟨g0,hg⟩:=hg
 rw[U3 (by decide) (by decide) (by decide) (by decide),U3 (by decide) (by decide) (by decide) (by decide)]
 simp only[Rs.okb]
 obtain⟨q,eq,f,ef,hf⟩:=OC (y:=x8)
 rw[Xi (sz (by simp)),Rs.okb,Yn (by decide),Rs.okb,eq,ef,Rs.okb]
 have h4:=h.h4
 have h5:=h.h5
 rw[YT (by omega) (by omega)]
 simp only[Rs.okb,d.gs.dict]
 obtain⟨a,ea,ha,ha2⟩:=Mz (d:=sg) (n:=1+x4*f)
 rw[ea,Xr,Rs.okb,Xi (Hz (by have:=d.ls;have:=d.n3;omega)),VZ ha2]
 obtain⟨b,eb,hb,hb2⟩:=Mz (d:=sg++[(a,1)]) (n:=1+x5)
 rw[eb,Xr,Rs.okb]
 obtain⟨u,eu,hu⟩:=emd (y:=x3) (n:=g.length) g0
 rw[Yn (by omega),Rs.okb,eu,Yw (n:=u) rfl hu,Rs.okb,YT (by decide) (by decide)]
 simp only[Rs.okb]
 rw[Xi (sz (by simp))]
 obtain⟨l,el,hl,ft⟩:=hg _ (List.getElem_mem hu)
 rw[el]
 have:=Int.mul_nonneg h4.1 (show 0<=f by omega)
 have hb3:b∉kys sg/\a≠b:=by
  constructor
  ·exact λz=>hb2 (by unfold kys at z⊢;rw[List.map_append];exact List.mem_append_left _ z)
  ·exact λz=>hb2 (by unfold kys;rw[List.map_append,z];exact List.mem_append_right _ (by simp))
 exact⟨_,rfl,i,k,j,l,a,b,decide (x6=0),2*x7-1,rfl,d,hi,by omega,hj,hl,ft,⟨by omega,ha2⟩,⟨by omega,hb3.1⟩,hb3.2,by rcases h.h7 with z |z<;> omega⟩
end
section
variable {n:Nat}{ws:List (List Int)}{sg:List (Int×Int)}
inductive Mv (n:Nat)(ws:List (List Int))(sg:List (Int×Int)):List Mx->Prop
 |turn {i:Nat}{s:Int} (hi:i<ws.length):Mv n ws sg [.s "turn", .i i, .i s]
 |curl {i k:Nat}{c s:Int}{o:Bool} (hi:i<ws.length) (hk:k<=(gw ws i).length) (hc:c∉kys sg) (h1:1<=c) (hs:s=1∨s= -1):Mv n ws sg (UK i k c o s)
 |lay {i k j l:Nat}{a b s:Int}{c:Bool} (h:LayOk n ws sg i k j l a b s):Mv n ws sg (Hn i k j l a b c s)
 |pass {p q r:Q4} (h:PassC ws sg p q r):Mv n ws sg (U8 p q r)
theorem Dr.up (d:Dr n ws sg)(h:n<=2):Dr (n+1) ws sg:=⟨by omega,d.ne,by have:=d.lw;omega,λw hw=>by have:=d.ll w hw;omega,d.gs,by have:=d.ls;omega,d.ky,d.nd⟩
theorem PQ.at2 {q:Q4}(h:PQ ws q):∃i k:Nat,q.1=(i:Int)/\q.2.1=(k:Int)/\At2 ws i k:=by
 obtain⟨i,k,h1,h2,h3,h4,h5⟩:=h.ex
 exact⟨i,k,h1,h2,h3,(List.getElem?_eq_some_iff.mp h5).1⟩
theorem Mv.do (d:Dr n ws sg)(hn:n<=2){m:List Mx}(h:Mv n ws sg m):∃bL cI,GY (ws,sg) m= .ok (bL,cI)/\Dr (n+1) bL cI:=by
 cases h with
 |turn hi=>exact⟨_,_,IY d hi,(d.turn hi).up hn⟩
 |curl hi hk hc h1 hs=>exact⟨_,_,Eg d hi hk hc h1,d.curl hn hi hk hc h1⟩
 |lay h=>exact⟨_,_,IJ h,Dr.lay h hn⟩
 |pass h=>
  obtain⟨i,k,a1,a2,a3⟩:=h.hp.at2
  obtain⟨j,l,b1,b2,b3⟩:=h.hq.at2
  obtain⟨u,v,c1,c2,c3⟩:=h.hr.at2
  unfold U8
  rw[a1,a2,b1,b2,c1,c2]
  exact⟨_,_,DV d a3 b3 c3,(d.pass a3 b3 c3).up hn⟩
theorem Ax {l:List Int}(h:l.length=9):∃x0 x1 x2 x3 x4 x5 x6 x7 x8,l=[x0,x1,x2,x3,x4,x5,x6,x7,x8]:=
 ⟨l[0],l[1],l[2],l[3],l[4],l[5],l[6],l[7],l[8],List.ext_getElem h λi h1 h2=>by
  rcases(show i=0∨i=1∨i=2∨i=3∨i=4∨i=5∨i=6∨i=7∨i=8 by omega) with rfl |rfl |rfl |rfl |rfl |rfl |rfl |rfl |rfl<;> rfl⟩
theorem PN (ns:List Int){p:Int}(hp:0<=p):∃x0 x1 x2 x3 x4 x5 x6 x7 x8,Be ns p [12,41,12,41,60,60,2,2,60]= .ok [x0,x1,x2,x3,x4,x5,x6,x7,x8]/\Sm x0 x1 x2 x3 x4 x5 x6 x7 x8:=by
 obtain⟨r,er,rl,hr⟩:=ER ns hp [12,41,12,41,60,60,2,2,60] (by decide) (by decide)
 obtain⟨x0,x1,x2,x3,x4,x5,x6,x7,x8,rfl⟩:=Ax rl
 have h6:=hr 6 x6 2 rfl rfl
 have h7:=hr 7 x7 2 rfl rfl
 exact⟨x0,x1,x2,x3,x4,x5,x6,x7,x8,er,hr 1 x1 41 rfl rfl,hr 4 x4 60 rfl rfl,hr 5 x5 60 rfl rfl,by omega,by omega⟩
theorem Ak (ns:List Int){p:Int}(hp:0<=p)(d:Dr n ws sg)(hn:n<=2){w:Str}(hw:w= "turn" ∨w= "curl" ∨w= "lay" ∨w= "pass"):Ok (DT ns p (ws,sg) w) λx=>x.1=(ws,sg)/\Mv n ws sg x.2/\(x.2.head?=some (.s w)∨w= "pass" /\x.2.head?=some (.s "curl")):=by
 obtain⟨x0,x1,x2,x3,x4,x5,x6,x7,x8,er,h⟩:=PN ns hp
 unfold DT LU;dsimp only
 simp only[Rs.okb]
 rw[Xi (sz (by simp)),Rs.okb,er,Xr,Rs.okb]
 rcases hw with rfl |rfl |rfl |rfl
 ·rw[EK,okt]
  simp only[ar0,ar1,ar8,Rs.okb]
  rw[U3 (by decide) (by decide) (by decide) (by decide)]
  simp only[Rs.okb]
  obtain⟨i,ei,hi⟩:=emd (y:=x0) (n:=ws.length) (by have:=d.ne;omega)
  obtain⟨j,ej,hj⟩:=emd (y:=x8) (n:=3) (by omega)
  have e3:∃f,atR [(1:Int),1,10^(50:Int).toNat+7] (j:Int)= .ok f:=by
   rcases(show j=0∨j=1∨j=2 by omega) with rfl |rfl |rfl
   ·exact⟨_,ar0⟩
   ·exact⟨_,ar1⟩
   ·exact⟨_,ar2⟩
  obtain⟨f,ef⟩:=e3
  have h1:=h.h1
  rw[Xi (sz (by simp)),Rs.okb,Yn (by decide),Rs.okb,show x8 % 3=(j:Int) from ej,ef,Rs.okb,YT (by omega) (by omega),Rs.okb,Yn (by have:=d.ne;omega),Rs.okb,ei]
  simp only[Rs.okb]
  rw[Xi (sz (by simp))]
  exact⟨_,rfl,rfl, .turn hi, .inl rfl⟩
 ·simp only[ZV,Vk,Uu,JB,QB,Bool.false_eq_true,if_false,Rs.okb,JS]
  exact Ok.bind (B5 d h).noE λm ⟨i,k,c,o,s,e,h1,h2,h3,h4,h5⟩=>⟨_,rfl,rfl,e▸ .curl h1 h2 h3 h4 h5, .inl (by rw[e];rfl)⟩
 ·simp only[Qp,Ur,decide_true,Bool.false_eq_true,if_false,if_true,Rs.okb,JS]
  exact Ok.bind (OS d h).noE λm ⟨i,k,j,l,a,b,c,s,e,h1⟩=>⟨_,rfl,rfl,e▸ .lay h1, .inl (by rw[e];rfl)⟩
 ·simp only[Zm,decide_true,Bool.false_eq_true,if_false,if_true,Qo,Zt,Zb]
  obtain⟨l,el,hl⟩:=IA d hn
  rw[el,Xr,Rs.okb]
  cases l with
  |nil=>
   simp only[show decide ((0:Int)<(([]:List (List Mx)).length:Int))=false from rfl,Bool.false_eq_true,if_false,Rs.okb,JS]
   exact Ok.bind (B5 d h).noE λm ⟨i,k,c,o,s,e,h1,h2,h3,h4,h5⟩=>⟨_,rfl,rfl,e▸ .curl h1 h2 h3 h4 h5, .inr ⟨trivial,by rw[e];rfl⟩⟩
  |cons m0 l0=>
   have hp:0<(m0::l0).length:=by simp
   generalize m0::l0=l at*
   rw[show decide ((0:Int)<(l.length:Int))=true by simp;omega,okt,ar8]
   obtain⟨j,ej,hj⟩:=emd (y:=x8) (n:=l.length) hp
   rw[Rs.okb,Yn (by omega),Rs.okb,ej,Yw (n:=j) rfl hj]
   simp only[Rs.okb,IM]
   obtain⟨p,q,r,e,hh⟩:=hl.2 _ (List.getElem_mem hj)
   exact⟨_,rfl,rfl,by show Mv n ws sg l[j];rw[e];exact .pass hh, .inl (by show l[j].head?=_;rw[e];rfl)⟩
end
section
variable {n:Nat}{ws:List (List Int)}{sg:List (Int×Int)}
theorem Si (ns:List Int){wds:List Str}(h0:0<wds.length)(h1:wds.length<=100):∃n ws sg w,n<=1/\Dr n ws sg/\w∈wds/\Ct ns wds=noE (DT ns 3 (ws,sg) w):=by
 unfold Ct Lp;dsimp only
 simp only[Rs.okb]
 obtain⟨r,er,rl,hr⟩:=ER ns (show(0:Int)<=1 by decide) [60,60,3] (by decide) (by decide)
 have rl:r.length=3:=rl
 obtain⟨⟨ws,sg⟩,eb,d⟩:=ND ns (show(0:Int)<=0 by decide)
 rw[Xi (sz (by simp)),Rs.okb,er,Xr,Rs.okb,eb,Xr,Rs.okb,Yw (r:=r) (k:=0) (n:=0) rfl (by omega),Yw (r:=r) (k:=1) (n:=1) rfl (by omega),Yw (r:=r) (k:=2) (n:=2) rfl (by omega)]
 simp only[Rs.okb]
 obtain⟨u,eu,hu⟩:=emd (y:=r[0]) (n:=wds.length) h0
 rw[Yn (a:=r[0]) (by omega),Rs.okb,eu,Yw (n:=u) rfl hu]
 simp only[Rs.okb]
 cases decide (r[2]=0) with
 |false=>exact⟨0,ws,sg,_,by omega,d,List.getElem_mem hu,rfl⟩
 |true=>
  rw[okt,Xi (sz (by simp)),Rs.okb,Yn (a:=r[1]) (by decide),Rs.okb]
  obtain⟨j,ej,hj⟩:=emd (y:=r[1]) (n:=4) (by omega)
  have e4:∃w:Str,atR [("turn":Str),"curl","lay","pass"] (j:Int)= .ok w/\(w= "turn" ∨w= "curl" ∨w= "lay" ∨w= "pass"):=by
   rcases(show j=0∨j=1∨j=2∨j=3 by omega) with rfl |rfl |rfl |rfl
   ·exact⟨_,ar0, .inl rfl⟩
   ·exact⟨_,ar1, .inr (.inl rfl)⟩
   ·exact⟨_,ar2, .inr (.inr (.inl rfl))⟩
   ·exact⟨_,ar3, .inr (.inr (.inr rfl))⟩
  obtain⟨w,ew,hw⟩:=e4
  rw[show r[1] % 4=(j:Int) from ej,ew,Rs.okb]
  obtain⟨⟨x1,x2⟩,es,e1,hm,-⟩:=Ak ns (show(0:Int)<=2 by decide) d (by omega) hw
  obtain⟨bL,cI,ed,d'⟩:=hm.do d (by omega)
  have e1:x1=(ws,sg):=e1
  subst e1
  rw[es,Xr,Rs.okb]
  rw[show GY ((ws,sg),x2).1 ((ws,sg),x2).2=_ from ed,Xr,Rs.okb]
  exact⟨1,bL,cI,_,by omega,d',List.getElem_mem hu,rfl⟩
theorem Wc (ns:List Int){p:Int}(hp:0<=p)(d:Dr n ws sg):Ok (DT ns p (ws,sg) "uncurl") λx=>∃ (i k:Nat) (c:Int) (o:Bool) (s:Int),x=((Qn ws i k (prc c o),sgC sg c s),[.s "uncurl", .i i, .i k])/\i<ws.length/\k<=(gw ws i).length/\c∉kys sg/\1<=c/\(s=1∨s= -1):=by
 obtain⟨x0,x1,x2,x3,x4,x5,x6,x7,x8,er,h⟩:=PN ns hp
 unfold DT LU;dsimp only
 simp only[Rs.okb]
 rw[Xi (sz (by simp)),Rs.okb,er,Xr,Rs.okb]
 simp only[Za,Qs,Jk,Qf,Bool.false_eq_true,if_false,if_true,decide_true,Rs.okb,JS]
 refine Ok.bind (B5 d h).noE λm r9=>?_
 obtain⟨i,k,c,o,s,e,h1,h2,h3,h4,h5⟩:=r9
 subst e
 rw[Eg d h1 h2 h3 h4,Xr,Rs.okb]
 unfold UK
 simp only[ar1,ar2,Rs.okb,mxI]
 rw[Xi (sz (by simp)),Rs.okb]
 exact⟨_,rfl,i,k,c,o,s,rfl,h1,h2,h3,h4,h5⟩
end
section
variable {n:Nat}{ws:List (List Int)}{sg:List (Int×Int)}{i k j l:Nat}{a b s:Int}{c:Bool}
theorem Nm (h:LayOk n ws sg i k j l a b s):YD (ws,sg) (Hn i k j l a b c s)= .ok (Kb ws i k j l a b c,sgL sg a b s):=by
 have hl:=h.d.l h.hi
 have h3:=h.d.n3
 have h4:=h.d.ls
 have hk:=h.kn
 have e1:Zx (ws,sg) (i:Int) (k:Int) 0= .ok true:=UM (m:=0) h.hi h.hk
 have e2:ZS (ws,sg) [a,b]= .ok true:=Fq (by omega) (by simp) (by simp[dd,PyProof.Rows.step_dedup,h.ab]) λx hx=>by
  rcases(show x=a∨x=b by simpa using hx) with z |z
  ·rw[z];exact h.ha
  ·rw[z];exact h.hb
 have e4:decide (s∈[(1:Int),-1])=true:=by rcases h.hs with rfl |rfl<;> rfl
 have e5:(if decide ((j:Int)=(i:Int))=true then(Rs.ok (2:Int)) else Rs.ok 0)= .ok ((if j=i then 2 else 0:Nat):Int):=by
  by_cases e:j=i
  ·rw[if_pos e,show decide ((j:Int)=(i:Int))=true by simp;omega];rfl
  ·rw[if_neg e,show decide ((j:Int)=(i:Int))=false by simp;omega];rfl
 have e6:Zx (ws,sg) (j:Int) (l:Int) ((if j=i then 2 else 0:Nat):Int)= .ok true:=UM h.hj h.hl
 have e7:(decide ((j:Int)=(i:Int))&&decide ((l:Int)=(k:Int)+1))=false:=by
  have:=h.hne
  simp
  omega
 unfold Hn
 unfold YD V9;dsimp only
 unfold Xy XO;dsimp only
 unfold YZ Jx;dsimp only
 unfold Vl Vo;dsimp only
 unfold Ii MR;dsimp only
 simp only[Rs.okb,decide_true,if_true,Bool.not_true,ar0,ar1,ar2,ar3,ar4,ar5,ar6,ar7,ar8,mxS,mxI,mxB,okf,okt,HH,Bq,orF,orT,Xr,Qp,UJ,Jg,Go,Ur,Pe,Xi (show[a,b].length<=sizeLine from sz (by simp)),e1,e2,e4,e5]
 rw[GN (c:=decide ((l:Int)=(k:Int)+1)) λ_=>rfl,e7]
 simp only[Rs.okb,Bool.false_eq_true,if_false,e6,Xr,Bq,Bool.not_true]
 rw[show(if c=true then chk ([-b,-a].length<=sizeLine) (Rs.ok [-b,-a]) else chk ([-a,-b].length<=sizeLine) (Rs.ok [-a,-b]))= .ok (und a b c) by cases c<;> exact Xi (sz (show 2<=100000 by decide))]
 simp only[Rs.okb]
 rw[Jw h.d.lw' h.hi h.hk (by omega) (by simp),Xr,Rs.okb,Jw (by rw[Yl];exact h.d.lw') (by rw[Yl];exact h.hj) h.hl' (by have:=h.ll;omega) (by rw[LO];omega),Xr,Rs.okb,Xi (sz (by simp)),Rs.okb,show CG sg [(a,s),(b,-s)]= .ok (sg++[(a,s),(b,-s)]) from Xi (sz (by simp;omega)),Rs.okb,h.d.fin' hk.1 (by simp;omega)]
 rfl
theorem So {w:List Int}{q:Nat}(hk:k<=w.length):(ins w k [a,b])[q]?=if q<k then w[q]? else if q=k then some a else if q=k+1 then some b else w[q-2]?:=by
 unfold ins
 rw[List.append_assoc]
 by_cases h1:q<k
 ·rw[if_pos h1,List.getElem?_append_left (by simp;omega),List.getElem?_take_of_lt h1]
 ·rw[if_neg h1,List.getElem?_append_right (by simp;omega),show(w.take k).length=k by simp;omega]
  by_cases h2:q=k
  ·rw[if_pos h2,h2,Nat.sub_self];rfl
  ·rw[if_neg h2]
   by_cases h3:q=k+1
   ·rw[if_pos h3,h3,Nat.add_sub_cancel_left];rfl
   ·rw[if_neg h3,List.getElem?_append_right (by simp;omega),List.getElem?_drop]
    congr 1
    simp
    omega
theorem UR {w:List Int}{q:Nat}(hk:k<=w.length):(Ea w k)[q]?=if q<k then w[q]? else w[q+2]?:=by
 unfold Ea
 by_cases h1:q<k
 ·rw[if_pos h1,List.getElem?_append_left (by simp;omega),List.getElem?_take_of_lt h1]
 ·rw[if_neg h1,List.getElem?_append_right (by simp;omega),List.getElem?_drop,show(w.take k).length=k by simp;omega]
  congr 1
  omega
theorem JG {w:List Int}(hk:k+1<w.length):(Ea w k).length=w.length-2:=by
 unfold Ea
 simp
 omega
theorem Ry {w:List Int}(h1:l+2<=k)(h2:k+1<w.length):Ea (Ea w k) l=Ea (Ea w l) (k-2):=by
 have e1:=JG h2
 have e2:=JG (k:=l) (w:=w) (by omega)
 refine List.ext_getElem? λq=>?_
 rw[UR (by omega),UR (by omega),UR (by omega),UR (by omega),UR (by omega)]
 by_cases a1:q<l
 ·rw[if_pos a1,if_pos (by omega),if_pos (by omega),if_pos a1]
 ·rw[if_neg a1]
  by_cases a2:q<k-2
  ·rw[if_pos (by omega),if_pos a2,if_neg a1]
  ·rw[if_neg (by omega),if_neg a2,UR (by omega),if_neg (by omega)]
theorem Th {x y:Int×Int}(h:ltP x y=true):Zv ltP [x,y]=[x,y]/\Zv ltP [y,x]=[x,y]:=by
 have hn:x≠y:=λe=>by subst e;rw[Gh.irr] at h;cases h
 have hr: [x,y].Pairwise λx y=>ltP x y=true:=List.pairwise_cons.mpr ⟨λz hz=>by rw[List.mem_singleton.mp hz];exact h,List.pairwise_singleton ..⟩
 exact⟨(V7 Gh (by simp[hn]) (List.Perm.refl _) hr).symm,(V7 Gh (by simp[hn.symm]) (List.Perm.swap ..) hr).symm⟩
structure UnOk (n:Nat)(ws:List (List Int))(sg:List (Int×Int))(i k j l:Nat)(a b u v s:Int):Prop where
 d:Dr n ws sg
 hi:i<ws.length
 hj:j<ws.length
 h1:(gw ws i)[k]?=some a
 h2:(gw ws i)[k+1]?=some b
 h3:(gw ws j)[l]?=some u
 h4:(gw ws j)[l+1]?=some v
 uv:u= -a/\v= -b∨u= -b/\v= -a
 ha:1<=a
 hb:1<=b
 ab:a≠b
 dj:j=i->l+2<=k∨k+2<=l
 s1:(a,s)∈sg
 s2:(b,-s)∈sg
 hs:s=1∨s= -1
def unM (i k j l:Nat):List Mx:=[.s "unlay", .i i, .i k, .i j, .i l]
def unW (ws:List (List Int))(i k j l:Nat):List (List Int):=VG (VG ws j l) i (if j=i/\l<k then k-2 else k)
variable {u v:Int}
theorem To (hi:i<ws.length)(hj:j<ws.length)(hk:k<=(gw ws i).length)(l1:(gw ws i).length<=50)(l2:(gw ws j).length<=50)(hl:l<=(gw (VG ws i k) j).length):forN [((i:Int),(k:Int)),((j:Int),(l:Int))] ws (λg a=>(noE (ZU g a.1 a.2)).bind Rs.ok)= .ok (VG (VG ws i k) j l):=by
 show(((noE (ZU ws (i:Int) (k:Int))).bind Rs.ok).bind λg'=>((noE (ZU g' (j:Int) (l:Int))).bind Rs.ok).bind λg''=>Rs.ok g'')=_
 rw[UL hi hk (by omega),Xr,Rs.okb,Rs.okb,UL (by rw[DF];exact hj) hl ?_,Xr,Rs.okb,Rs.okb]
 by_cases e:j=i
 ·subst e
  rw[Vg hi]
  unfold Ea
  simp
  omega
 ·rw[Vd e];omega
theorem UnOk.two (h:UnOk n ws sg i k j l a b u v s):(ltP ((i:Int),(k:Int)) ((j:Int),(l:Int))=true/\(if j=i/\l<k then k-2 else k)=k/\k<=(gw (VG ws j l) i).length)∨(ltP ((j:Int),(l:Int)) ((i:Int),(k:Int))=true/\l<=(gw (VG ws i k) j).length/\VG (VG ws i k) j l=unW ws i k j l):=by
 have k1:=(List.getElem?_eq_some_iff.mp h.h2).1
 have k2:=(List.getElem?_eq_some_iff.mp h.h4).1
 unfold ltP
 by_cases e:j=i
 ·subst e
  rcases h.dj rfl with z |z
  ·refine .inr ⟨by simp;omega,?_,?_⟩
   ·rw[Vg h.hi,JG k1];omega
   ·unfold unW
    rw[if_pos ⟨rfl,by omega⟩]
    unfold VG
    rw[List.set_set,List.set_set,show gw (ws.set j (Ea (gw ws j) k)) j=_ from Vg h.hi,show gw (ws.set j (Ea (gw ws j) l)) j=_ from Vg h.hi,Ry z k1]
  ·refine .inl ⟨by simp;omega,if_neg (by omega),?_⟩
   rw[Vg h.hi,JG k2];omega
 ·by_cases e2:i<j
  ·refine .inl ⟨by rw[if_neg (by simp;omega)];simp;omega,if_neg (by omega),?_⟩
   rw[Vd (Ne.symm e)];omega
  ·refine .inr ⟨by rw[if_neg (by simp;omega)];simp;omega,?_,?_⟩
   ·rw[Vd e];omega
   ·unfold unW
    rw[if_neg (by omega)]
    have a1:=Vd (ws:=ws) (k:=k) e
    have a2:=Vd (ws:=ws) (k:=l) (Ne.symm e)
    unfold VG at a1 a2⊢
    rw[a1,a2,List.set_comm _ _ (Ne.symm e)]
theorem N5 (h:UnOk n ws sg i k j l a b u v s):GY (ws,sg) (unM i k j l)= .ok (unW ws i k j l,YS (YS sg a) b):=by
 have l1:=h.d.l h.hi
 have l2:=h.d.l h.hj
 have k1:=(List.getElem?_eq_some_iff.mp h.h2).1
 have k2:=(List.getElem?_eq_some_iff.mp h.h4).1
 have ka:a∈kys sg:=List.mem_map_of_mem (f:=(·.1)) h.s1
 have kb:b∈kys (YS sg a):=List.mem_map_of_mem (f:=(·.1)) (List.mem_filter.mpr ⟨h.s2,by simpa using h.ab.symm⟩)
 have hne: [((i:Int),(k:Int)),((j:Int),(l:Int))].Nodup:=by
  have:=h.dj
  simp
  omega
 unfold unM
 unfold GY OG;dsimp only
 simp only[Rs.okb,decide_true,if_true,Bool.not_true,ar0,ar1,ar2,ar3,ar4,ar5,ar6,ar7,ar8,mxS,mxI,mxB,okf,okt,HH,Bq,orF,orT,Xr,Zw,Jt,Z9,QT,JA,Ew]
 rw[Zk (by have:=h.d.lw';omega)]
 simp only[Rs.okb,h.d.gs.dict,J2 h.hi]
 rw[ZE h.h1,show(k:Int)+1=((k+1:Nat):Int) by omega,ZE h.h2]
 simp only[Rs.okb]
 rw[Xi (Qm.mpr ka),Xi (Qm.mpr kb)]
 rw[ST (l:=[Mx.s "unlay", .i i, .i k, .i j, .i l]) (lo:=1) (hi:=3) (a:=i) (b:=k) (show ¬(HT.sIx 5 0 (some 1)=0/\HT.sIx 5 5 (some 3)=5) by decide) rfl,ST (l:=[Mx.s "unlay", .i i, .i k, .i j, .i l]) (lo:=3) (hi:=5) (a:=j) (b:=l) (show ¬(HT.sIx 5 0 (some 3)=0/\HT.sIx 5 5 (some 5)=5) by decide) rfl]
 simp only[Rs.okb]
 rw[Xi (sz (by simp)),Rs.okb,Xi ⟨by simp,hne⟩,Rs.okb,Xi trivial,Rs.okb]
 have fR:Sg (YS (YS sg a) b):=(h.d.gs.del a).del b
 have hle:(YS (YS sg a) b).length<=sg.length:=Nat.le_trans List.filter_sublist.length_le List.filter_sublist.length_le
 have hf:chk ((YS (YS sg a) b).length<64/\(YS (YS sg a) b).Nodup) (Rs.ok (Zv ltP (YS (YS sg a) b)))= .ok (YS (YS sg a) b):=by
  rw[h.d.fin' fR.kn (by have:=h.d.ls;have:=h.d.n3;omega),fR.sort]
 have c1:=JG k1
 have c2:=JG k2
 rcases h.two with⟨z1,z2,z3⟩ | ⟨z1,z2,z3⟩
 ·rw[(Th z1).1,show[((i:Int),(k:Int)),((j:Int),(l:Int))].reverse=[((j:Int),(l:Int)),((i:Int),(k:Int))] from rfl]
  rw[To h.hj h.hi (by omega) (by omega) (by omega) z3]
  simp only[Rs.okb]
  rw[hf]
  unfold unW
  rw[z2]
  rfl
 ·rw[(Th z1).2,show[((j:Int),(l:Int)),((i:Int),(k:Int))].reverse=[((i:Int),(k:Int)),((j:Int),(l:Int))] from rfl]
  rw[To h.hi h.hj (by omega) (by omega) (by omega) z2]
  simp only[Rs.okb]
  rw[hf,z3]
  rfl
theorem HL (h:UnOk n ws sg i k j l a b u v s):YD (ws,sg) (unM i k j l)= .ok (unW ws i k j l,YS (YS sg a) b):=by
 have l1:=h.d.l h.hi
 have l2:=h.d.l h.hj
 have k1:=(List.getElem?_eq_some_iff.mp h.h2).1
 have k2:=(List.getElem?_eq_some_iff.mp h.h4).1
 have s1:Yv (ws,sg) a= .ok s:=K2 h.d.gs.kn h.s1
 have s2:Yv (ws,sg) b= .ok (-s):=K2 h.d.gs.kn h.s2
 have ss:decide (s= -s)=false:=by rcases h.hs with rfl |rfl<;> rfl
 have so:Y2 [u,v]=Y2 [-a,-b]:=by
  refine VO ((YA _).trans ?_) (JX _)
  rcases h.uv with⟨rfl,rfl⟩ | ⟨rfl,rfl⟩
  ·exact List.Perm.refl _
  ·exact List.Perm.swap ..
 have bo:XS (unM i k j l)= .ok ((if j=i/\l<k then k-2 else k:Nat):Int):=by
  unfold unM
  unfold XS YI;dsimp only
  simp only[ar1,ar2,ar3,ar4,mxI,Rs.okb]
  rw[GN (c:=decide ((l:Int)<(k:Int))) λ_=>rfl,Rs.okb]
  by_cases e:j=i/\l<k
  ·have:=h.dj e.1
   rw[if_pos e,if_pos (by simp;omega)]
   congr 1
   omega
  ·rw[if_neg e,if_neg (by simp;omega)]
 have kk:(if j=i/\l<k then k-2 else k)<=(gw (VG ws j l) i).length:=by
  have:=h.dj
  by_cases e:j=i
  ·subst e
   rw[Vg h.hi,JG k2]
   split<;> omega
  ·rw[Vd (Ne.symm e),if_neg (by omega)]
   omega
 unfold YD V9;dsimp only
 unfold Xy XO;dsimp only
 unfold YZ Jx;dsimp only
 unfold Qv QK;dsimp only
 unfold Vi Vv;dsimp only
 unfold F7 Dy;dsimp only
 unfold YG Y7;dsimp only
 unfold unM at bo⊢
 simp only[Rs.okb,bo,decide_true,if_true,Bool.not_true,ar0,ar1,ar2,ar3,ar4,ar5,ar6,ar7,ar8,mxS,mxI,mxB,okf,okt,HH,Bq,orF,orT,Xr,Zw,Jt,Z9,QT,JA,Ew,QW h.hi h.h1 h.h2,QW h.hj h.h3 h.h4,Option.isSome,Gz,s1,s2,ss,WD]
 rw[Xi (show[u,v].length<64 by simp),Xi (show[-a,-b].length<=sizeLine from sz (by simp))]
 simp only[Rs.okb]
 rw[Xi (show[-a,-b].length<64 by simp)]
 simp only[Rs.okb,so,decide_true,Bool.not_true,show decide (min a b<0)=false by have:=h.ha;have:=h.hb;simp;omega,orF,Bool.false_eq_true,if_false,Xr,Bool.not_false]
 rw[Us h.d.lw' h.hj (by omega) (by omega),Xr,Rs.okb,Us (by rw[DF];exact h.d.lw') (by rw[DF];exact h.hi) kk ?_,Xr,Rs.okb,FU (p:=λe=>decide (e.1≠b)&&decide (e.1≠a)) (h:=λe=>e) (sz (by have:=h.d.ls;have:=h.d.n3;omega)) (λe he=>?_) λ_ _ _=>rfl,List.map_id',Xr,Rs.okb,Xr]
 ·unfold unW YS
  rw[List.filter_filter]
 ·congr 1
  rw[Bool.eq_iff_iff]
  simp
  omega
 ·by_cases e:i=j
  ·subst e
   rw[Vg h.hi,JG k2];omega
  ·rw[Vd e];omega
theorem LayOk.un (h:LayOk n ws sg i k j l a b s)(hn:n<=2):∃u v,und a b c=[u,v]/\UnOk (n+1) (Kb ws i k j l a b c) (sgL sg a b s) i (if i=j/\l<=k then k+2 else k) j l a b u v s:=by
 have hu:∃u v,und a b c=[u,v]/\(u= -a/\v= -b∨u= -b/\v= -a):=by
  cases c with
  |true=>exact⟨_,_,rfl, .inr ⟨rfl,rfl⟩⟩
  |false=>exact⟨_,_,rfl, .inl ⟨rfl,rfl⟩⟩
 obtain⟨u,v,eu,huv⟩:=hu
 have d':=Dr.lay (c:=c) h hn
 have ej:gw (Kb ws i k j l a b c) j=ins (gw (Qn ws i k [a,b]) j) l [u,v]:=by
  unfold Kb
  rw[eu,Qg (by rw[Yl];exact h.hj)]
 have len:(Kb ws i k j l a b c).length=ws.length:=by unfold Kb;rw[Yl,Yl]
 have ei:(gw (Kb ws i k j l a b c) i)[if i=j/\l<=k then k+2 else k]?=some a/\(gw (Kb ws i k j l a b c) i)[(if i=j/\l<=k then k+2 else k)+1]?=some b:=by
  have hne:=h.hne
  have hl':=h.hl'
  by_cases e:i=j
  ·subst e
   have hne:=hne rfl
   rw[Qg h.hi] at hl'
   rw[ej,Qg h.hi]
   have g:∀q,(ins (ins (gw ws i) k [a,b]) l [u,v])[q]?=_:=λq=>So hl'
   obtain⟨i1,i2⟩:=Hd (a:=a) (b:=b) h.hk
   by_cases z:l<=k
   ·rw[if_pos (show i=i/\l<=k from⟨rfl,z⟩),g,g,if_neg (by omega),if_neg (by omega),if_neg (by omega),if_neg (by omega),if_neg (by omega),if_neg (by omega)]
    exact⟨i1,i2⟩
   ·rw[if_neg (show ¬(i=i/\l<=k) by omega),g,g,if_pos (by omega),if_pos (by omega)]
    exact⟨i1,i2⟩
  ·have:gw (Kb ws i k j l a b c) i=ins (gw ws i) k [a,b]:=by
    unfold Kb
    rw[BP e,Qg h.hi]
   rw[if_neg (by omega),this]
   exact Hd h.hk
 have eu2:=Hd (a:=u) (b:=v) h.hl'
 have hm:∀e:Int×Int,e∈[(a,s),(b,-s)]->e∈sgL sg a b s:=λe he=>KF.mpr (List.mem_append_right _ he)
 exact⟨u,v,eu,d',by rw[len];exact h.hi,by rw[len];exact h.hj,ei.1,ei.2,by rw[ej];exact eu2.1,by rw[ej];exact eu2.2,huv,h.ha.1,h.hb.1,h.ab,λe=>by
  have:=h.hne e
  subst e
  split<;> omega,hm _ (by simp),hm _ (by simp),h.hs⟩
theorem Ms (ns:List Int){p:Int}(hp:0<=p)(d:Dr n ws sg):Ok (DT ns p (ws,sg) "unlay") λx=>∃ (i k j l:Nat) (a b:Int) (c:Bool) (s:Int),x=((Kb ws i k j l a b c,sgL sg a b s),unM i (if i=j/\l<=k then k+2 else k) j l)/\LayOk n ws sg i k j l a b s:=by
 obtain⟨x0,x1,x2,x3,x4,x5,x6,x7,x8,er,h⟩:=PN ns hp
 unfold DT LU;dsimp only
 simp only[Rs.okb]
 rw[Xi (sz (by simp)),Rs.okb,er,Xr,Rs.okb]
 simp only[Zw,JA,QT,Bool.false_eq_true,if_false,if_true,decide_true,Rs.okb,JS]
 refine Ok.bind (OS d h).noE λm r9=>?_
 obtain⟨i,k,j,l,a,b,c,s,e,h1⟩:=r9
 subst e
 rw[IJ h1,Xr]
 unfold Hn
 simp only[ar1,ar2,ar3,ar4,Rs.okb,mxI]
 rw[GN (c:=decide ((l:Int)<=(k:Int))) λ_=>rfl,Rs.okb,Rs.okb,YT (by decide) (by decide)]
 simp only[Rs.okb]
 rw[Xi (sz (by simp)),Rs.okb]
 refine⟨_,rfl,i,k,j,l,a,b,c,s,?_,h1⟩
 unfold unM
 rw[show(k:Int)+2*(if(decide ((i:Int)=(j:Int))&&decide ((l:Int)<=(k:Int)))=true then 1 else 0)=((if i=j/\l<=k then k+2 else k:Nat):Int) from ?_]
 by_cases e:i=j/\l<=k
 ·rw[if_pos e,if_pos (by simp;omega)];omega
 ·rw[if_neg e,if_neg (by simp;omega)];omega
end
section
variable {n:Nat}{ws:List (List Int)}{sg:List (Int×Int)}
theorem BZ (d:Dr n ws sg){x:Int}(h:x∈kys sg):Yv (ws,sg) x= .ok (sv sg x):=by
 obtain⟨e,he,rfl⟩:=List.mem_map.mp h
 unfold sv
 rw[Sy d.gs.kn he]
 exact K2 d.gs.kn he
theorem Of {x y u v:Int}(h:Y2 [-x,-y]=Y2 [u,v]):Y2 [x,y]=Y2 [-u,-v]:=by
 have p: [-x,-y].Perm [u,v]:=((YA _).symm.trans (h▸List.Perm.refl _)).trans (YA _)
 have q:=p.map λz=>-z
 simp only[List.map_cons,List.map_nil,Int.neg_neg] at q
 exact VO ((YA _).trans q) (JX _)
theorem Dv (d:Dr n ws sg){p q r:Q4}(h:PassC ws sg p q r):Z6 (ws,sg) (U8 p q r)= .ok true:=by
 obtain⟨i,k,a1,a2,a3,a4,a5⟩:=h.hp.ex
 obtain⟨j,l,b1,b2,b3,b4,b5⟩:=h.hq.ex
 obtain⟨u,v,c1,c2,c3,c4',c5⟩:=h.hr.ex
 obtain⟨ka,kc,kb⟩:=Ee d h.hp h.hq h.p0 h.q0
 have st:=h.st
 have kb:=kb st.a1
 have p0:=h.p0
 have q0:=h.q0
 have so:=Of st.so
 have eb:(if decide (p.2.2.1=pa q)=true then Rs.ok p.2.2.2 else Rs.ok p.2.2.1)=Rs.ok (pb p q):=by
  have:=st.a1
  unfold pb
  by_cases z:p.2.2.1=pa q
  ·rw[if_pos (by simpa using z)];congr 1;omega
  ·rw[if_neg (by simpa using z)]
   have:pa q=p.2.2.1∨pa q=p.2.2.2:=by simpa using this
   congr 1;omega
 have eo:∀{x y:Int},(if decide (x=y)=true then Rs.ok (1:Int) else Rs.ok (-1))= .ok (ord x y):=fun {x y}=>by
  unfold ord
  by_cases z:x=y
  ·rw[if_pos (by simpa using z),if_pos z]
  ·rw[if_neg (by simpa using z),if_neg z]
 unfold U8
 unfold Z6 Jl;dsimp only
 unfold Uz UH;dsimp only
 rw[a1,a2,b1,b2,c1,c2]
 simp only[Rs.okb,ar1,ar2,ar3,ar4,ar5,ar6,mxI,QW a3 a4 a5,QW b3 b4 b5,QW c3 c4' c5,Xr,Option.isNone,orF,Bool.false_eq_true,if_false,Gz,WD,W2]
 rw[show-(min q.2.2.1 q.2.2.2)=pa q from rfl,show max q.2.2.1 q.2.2.2=pc q from rfl,show decide (min p.2.2.1 p.2.2.2<0)=false by simp;omega,show decide (pa q∈[p.2.2.1,p.2.2.2])=true from decide_eq_true st.a1,show decide (pc q<0)=false from decide_eq_false (by unfold pc;omega),show decide (pc q∈[p.2.2.1,p.2.2.2])=false from decide_eq_false st.c1]
 simp only[Bool.not_true,orF,Rs.okb,Bool.false_eq_true,if_false]
 rw[eb,Rs.okb,Xi (show[r.2.2.1,r.2.2.2].length<64 by simp),Rs.okb,Xi (show[-pb p q,-pc q].length<=sizeLine from sz (by simp)),Rs.okb,Xi (show[-pb p q,-pc q].length<64 by simp),Rs.okb,so]
 simp only[decide_true,Bool.not_true,Rs.okb,Bool.false_eq_true,if_false]
 rw[eo,eo,eo,Xr,Rs.okb,Xr,Rs.okb,Xr,Rs.okb,BZ d ka,BZ d kb,BZ d kc]
 simp only[Xr,Rs.okb,MQ]
 rw[st.e1,st.e2]
 simp only[decide_true,Bool.not_true,Bool.false_eq_true,if_false]
theorem Ht (d:Dr n ws sg){p q r:Q4}(h:PassC ws sg p q r):∃bL,GY (ws,sg) (U8 p q r)= .ok (bL,sg)/\YD (ws,sg) (U8 p q r)= .ok (bL,sg)/\Dr n bL sg:=by
 have hl:=Dv d h
 obtain⟨i,k,a1,a2,a3⟩:=h.hp.at2
 obtain⟨j,l,b1,b2,b3⟩:=h.hq.at2
 obtain⟨u,v,c1,c2,c3⟩:=h.hr.at2
 unfold U8 at*
 rw[a1,a2,b1,b2,c1,c2] at hl⊢
 refine⟨_,DV d a3 b3 c3,?_,d.pass a3 b3 c3⟩
 unfold YD V9;dsimp only
 unfold Xy XO;dsimp only
 unfold YZ Jx;dsimp only
 have hp:=Li (sg:=sg) d.lw' a3 b3 c3
 unfold Ut at hp
 simp only[Rs.okb,decide_true,if_true,Bool.not_true,ar0,mxS,Xr,Zm,QV,Zb,Qo,Zt,MN,Bool.false_eq_true,if_false,hl,hp]
end
def ah (c:Nat)(ws:List (List Int)):List (List Int):=List.replicate c []++ws
section
variable {n:Nat}{ws:List (List Int)}{sg:List (Int×Int)}{i k z:Nat}
theorem Mr:(ah z ws).length=ws.length+z:=by simp[ah];omega
theorem QY:gw (ah z ws) (i+z)=gw ws i:=by
 unfold gw ah
 rw[List.getD_eq_getElem?_getD,List.getElem?_append_right (by simp),List.length_replicate,Nat.add_sub_cancel,List.getD_eq_getElem?_getD]
theorem Fl {x:List Int}:(ah z ws).set (i+z) x=ah z (ws.set i x):=by
 unfold ah
 rw[List.set_append_right _ _ (by simp),List.length_replicate,Nat.add_sub_cancel]
theorem FQ (h:i<ws.length):i+z<(ah z ws).length:=by rw[Mr];omega
theorem Dr.ah (d:Dr n ws sg)(hn:n<=2)(hz:z<=8):Dr 3 (ah z ws) sg where
 n3:=Nat.le_refl _
 ne:=by rw[Mr];have:=d.ne;omega
 lw:=by rw[Mr];have:=d.lw;omega
 ll:=λw hw=>by
  rcases List.mem_append.mp hw with h |h
  ·rw[List.eq_of_mem_replicate h];simp
  ·have:=d.ll w h;omega
 gs:=d.gs
 ls:=by have:=d.ls;omega
 ky:=λw hw p hp=>by
  rcases List.mem_append.mp hw with h |h
  ·rw[List.eq_of_mem_replicate h] at hp;cases hp
  ·exact d.ky w h p hp
 nd:=by
  show(List.replicate z ([]:List Int)++ws).flatten.Nodup
  rw[List.flatten_append,BT];exact d.nd
structure Fa (ws:List (List Int))(sg:List (Int×Int))(m:Nat->List Mx)(bL:List (List Int))(cI:List (Int×Int))(b:Nat->List Mx):Prop where
 go:GY (ws,sg) (m 0)= .ok (bL,cI)
 dn:∀z,z<=8->YD (ah z ws,sg) (m z)= .ok (ah z bL,cI)
 un:∀z,z<=8->YR (ah z ws,sg) (m z)= .ok (b z)
theorem ZF {D x:List (List Int)×List (Int×Int)}{m:List Mx}(h:YD D m= .ok x):YZ D m= .ok true/\Xy D m= .ok ():=by
 have e:∀r,YZ D m=r->(∃y:Unit,Xy D m= .ok y)->r= .ok true:=λr hr ⟨y,hy⟩=>by
  unfold Xy XO at hy;dsimp only at hy
  simp only[Rs.okb] at hy
  rw[hr] at hy
  cases r with
  |bad=>cases hy
  |err=>cases hy
  |ok b=>
   cases b with
   |true=>rfl
   |false=>cases hy
 have e2:∃y:Unit,Xy D m= .ok y:=by
  unfold YD V9 at h;dsimp only at h
  simp only[Rs.okb] at h
  cases hr:Xy D m with
  |bad=>rw[hr] at h;cases h
  |err=>rw[hr] at h;cases h
  |ok y=>exact⟨y,rfl⟩
 exact⟨e _ rfl e2,e2.elim λy hy=>hy⟩
theorem Rr {w:List Int}{s:Int}:rot (rot w s) (-s)=w:=by
 by_cases h:w.length=0
 ·have e:rot w s=w:=by unfold rot;rw[if_pos h]
  rw[e];unfold rot;rw[if_pos h]
 ·obtain⟨c,ec,hc,er⟩:=NC (s:=s) h
  have hl:(rot w s).length=w.length:=by rw[er];simp;omega
  have e1:(-s) % (w.length:Int)=(-(c:Int)) % (w.length:Int):=by
   have:=Int.mul_ediv_add_emod s (w.length:Int)
   rw[show-s= -(c:Int)+(w.length:Int)*(-(s/(w.length:Int))) by rw[Int.mul_neg];omega,Int.add_mul_emod_self_left]
  rw[er] at hl⊢
  unfold rot
  rw[if_neg (by omega),hl,e1]
  by_cases z:c=0
  ·subst z
   simp
  ·rw[show(-(c:Int)) % (w.length:Int)=((w.length-c:Nat):Int) by
    rw[←Int.add_emod_right,Int.emod_eq_of_lt (by omega) (by omega)];omega,Int.toNat_natCast]
   have hd:(w.drop c).length=w.length-c:=by simp
   rw[List.drop_append_of_le_length (by omega),List.take_append_of_le_length (by omega), ←hd,List.drop_length,List.take_length,List.nil_append,List.take_append_drop]
abbrev BB (i:Nat)(s:Int):List Mx:=[.s "turn", .i i, .i s]
theorem OH (d:Dr n ws sg)(hn:n<=2)(hi:i<ws.length){s:Int}:Fa ws sg (λz=>BB (i+z) s) (Vy ws i s) sg (λz=>BB (i+z) (-s)):=by
 have dn:∀z,z<=8->YD (ah z ws,sg) (BB (i+z) s)= .ok (ah z (Vy ws i s),sg):=λz hz=>by
  refine(MO (d.ah hn hz) (FQ hi)).trans ?_
  unfold Vy
  rw[QY,Fl]
 refine⟨IY d hi,dn,λz hz=>?_⟩
 unfold YR Z5;dsimp only
 simp only[Rs.okb]
 rw[(ZF (dn z hz)).2]
 simp only[Rs.okb,decide_true,Xr,ar0,ar1,ar2,mxS,mxI,EK,if_true]
 rw[Xi (sz (by simp))]
theorem Ln (hi:i<ws.length){s:Int}:Vy (Vy ws i s) i (-s)=ws:=by
 unfold Vy
 rw[show gw (ws.set i (rot (gw ws i) s)) i=rot (gw ws i) s by simp[gw,hi],Rr,List.set_set,Fi hi]
theorem Sg.ext {l m:List (Int×Int)}(h:Sg l)(h':Sg m)(e:∀x,x∈l↔x∈m):l=m:=by
 have:=V7 Gh (Ec h'.kn) ((List.perm_ext_iff_of_nodup (Ec h.kn) (Ec h'.kn)).mpr e) h.rise
 rw[h'.sort] at this
 exact this
theorem MY {x:Int×Int}{c:Int}(hx:x∈sg)(hc:c∉kys sg):x.1≠c:=λe=>hc (e▸List.mem_map_of_mem hx)
theorem B4 {l:List (Int×Int)}{c:Int}{x:Int×Int}:x∈YS l c↔x∈l/\x.1≠c:=by unfold YS;simp
theorem Rl (h:Sg sg){c s:Int}(hc:c∉kys sg)(h1:1<=c):YS (sgC sg c s) c=sg:=by
 refine Sg.ext ((EB h hc h1).2.2.del c) h λx=>?_
 rw[B4]
 unfold sgC
 rw[KF,List.mem_append,List.mem_singleton]
 constructor
 ·rintro⟨z |rfl,y⟩
  ·exact z
  ·exact absurd rfl y
 ·exact λz=>⟨.inl z,MY z hc⟩
abbrev T8 (i k:Nat):List Mx:=[.s "uncurl", .i i, .i k]
theorem SU (d:Dr n ws sg)(hn:n<=2){c s:Int}{o:Bool}(hi:i<ws.length)(hk:k<=(gw ws i).length)(hc:c∉kys sg)(h1:1<=c)(hs:s=1∨s= -1):Fa ws sg (λz=>UK (i+z) k c o s) (Qn ws i k (prc c o)) (sgC sg c s) (λz=>T8 (i+z) k):=by
 have dn:∀z,z<=8->YD (ah z ws,sg) (UK (i+z) k c o s)= .ok (ah z (Qn ws i k (prc c o)),sgC sg c s):=λz hz=>by
  refine(LC (d.ah hn hz) (FQ hi) (by rw[QY];exact hk) hc h1 hs).trans ?_
  unfold Qn
  rw[QY,Fl]
 refine⟨Eg d hi hk hc h1,dn,λz hz=>?_⟩
 unfold YR Z5;dsimp only
 simp only[Rs.okb]
 rw[(ZF (dn z hz)).2]
 unfold UK
 simp only[Rs.okb,decide_true,Xr,ar0,ar1,ar2,mxS,mxI,ZV,LX,Bool.false_eq_true,if_false,if_true]
 rw[Xi (sz (by simp))]
theorem Nw (d:Dr n ws sg)(hn:n<=1){c s:Int}{o:Bool}(hi:i<ws.length)(hk:k<=(gw ws i).length)(hc:c∉kys sg)(h1:1<=c):Fa (Qn ws i k (prc c o)) (sgC sg c s) (λz=>T8 (i+z) k) ws sg (λz=>UK (i+z) k c o s):=by
 have d':=d.curl (s:=s) (o:=o) (by omega) hi hk hc h1
 obtain⟨x,hx,iO,hxo,hm⟩:∃x,prc c o=[x,-x]/\(x.natAbs:Int)=c/\decide (x=c)=o/\max x (-x)=c:=by
  cases o with
  |true=>exact⟨c,rfl,by omega,by simp,by omega⟩
  |false=>exact⟨-c,by simp[prc],by omega,by simp;omega,by omega⟩
 have bM:i<(Qn ws i k (prc c o)).length:=by rw[Yl];exact hi
 have hg:=Hd (a:=x) (b:=-x) hk
 rw[←hx, ←Qg hi] at hg
 have ec:VG (Qn ws i k (prc c o)) i k=ws:=by
  unfold VG
  rw[Qg hi,hx,Bs hk]
  unfold Qn
  rw[List.set_set,Fi hi]
 have ed:YS (sgC sg c s) (x.natAbs:Int)=sg:=by rw[iO,Rl d.gs hc h1]
 have go:=IX d' bM hg.1 hg.2
 rw[ec,ed] at go
 have dn:∀z,z<=8->YD (ah z (Qn ws i k (prc c o)),sgC sg c s) (T8 (i+z) k)= .ok (ah z ws,sg):=λz hz=>by
  refine(Em (d'.ah (by omega) hz) (x:=x) (FQ bM) (by rw[QY];exact hg.1) (by rw[QY];exact hg.2)).trans ?_
  rw[ed]
  unfold VG at ec⊢
  rw[QY,Fl,ec]
 refine⟨go,dn,λz hz=>?_⟩
 have hp:=QW (ws:=ah z (Qn ws i k (prc c o))) (sg:=sgC sg c s) (i:=i+z) (FQ bM) (by rw[QY];exact hg.1) (by rw[QY];exact hg.2)
 have hsg:=K2 (ws:=ah z (Qn ws i k (prc c o))) (e:=(c,s)) d'.gs.kn (KF.mpr (List.mem_append_right _ (by simp)))
 unfold YR Z5;dsimp only
 simp only[Rs.okb]
 rw[(ZF (dn z hz)).2]
 unfold Qw
 simp only[Rs.okb,decide_true,Xr,ar0,ar1,ar2,mxS,mxI,Za,QI,Du,Bool.false_eq_true,if_false,if_true,hp,Gz,W2,hm,hsg,hxo]
 cases o with
 |true=>rw[okt,Rs.okb,Xi (sz (by simp))];rfl
 |false=>rw[okf,Rs.okb,Xi (sz (by simp))];rfl
end
section
variable {n:Nat}{ws:List (List Int)}{sg:List (Int×Int)}{i k j l z:Nat}{a b s u v:Int}{c:Bool}
theorem LayOk.ah (h:LayOk n ws sg i k j l a b s)(hn:n<=2)(hz:z<=8):LayOk 3 (ah z ws) sg (i+z) k (j+z) l a b s:=
 ⟨h.d.ah hn hz,FQ h.hi,by rw[QY];exact h.hk,FQ h.hj,by
  rw[QY]
  have:=h.hl
  by_cases e:j=i
  ·rw[if_pos e] at this;rw[if_pos (by omega)];exact this
  ·rw[if_neg e] at this;rw[if_neg (by omega)];exact this,λe=>h.hne (by omega),h.ha,h.hb,h.ab,h.hs⟩
theorem UnOk.ah (h:UnOk n ws sg i k j l a b u v s)(hn:n<=2)(hz:z<=8):UnOk 3 (ah z ws) sg (i+z) k (j+z) l a b u v s:=
 ⟨h.d.ah hn hz,FQ h.hi,FQ h.hj,by rw[QY];exact h.h1,by rw[QY];exact h.h2,by rw[QY];exact h.h3,by rw[QY];exact h.h4,h.uv,h.ha,h.hb,h.ab,λe=>h.dj (by omega),h.s1,h.s2,h.hs⟩
theorem Os {p:List Int}:Qn (ah z ws) (i+z) k p=ah z (Qn ws i k p):=by unfold Qn;rw[QY,Fl]
theorem O0:VG (ah z ws) (i+z) k=ah z (VG ws i k):=by unfold VG;rw[QY,Fl]
theorem W1:unW (ah z ws) (i+z) k (j+z) l=ah z (unW ws i k j l):=by
 unfold unW
 rw[O0,O0]
 by_cases e:j=i/\l<k
 ·rw[if_pos e,if_pos (by omega)]
 ·rw[if_neg e,if_neg (by omega)]
abbrev k2 (i k j l:Nat):Nat:=if i=j/\l<=k then k+2 else k
theorem WU (h:LayOk n ws sg i k j l a b s)(hn:n<=2):Fa ws sg (λz=>Hn (i+z) k (j+z) l a b c s) (Kb ws i k j l a b c) (sgL sg a b s) (λz=>unM (i+z) (k2 i k j l) (j+z) l):=by
 have dn:∀z,z<=8->YD (ah z ws,sg) (Hn (i+z) k (j+z) l a b c s)= .ok (ah z (Kb ws i k j l a b c),sgL sg a b s):=λz hz=>by
  refine(Nm (h.ah hn hz)).trans ?_
  unfold Kb
  rw[Os,Os]
 refine⟨IJ h,dn,λz hz=>?_⟩
 unfold YR Z5;dsimp only
 simp only[Rs.okb]
 rw[(ZF (dn z hz)).2]
 unfold JD JN;dsimp only
 unfold Hn unM
 simp only[Rs.okb,decide_true,Xr,ar0,ar1,ar2,ar3,ar4,mxS,mxI,Qp,UJ,Jg,Pe,Bool.false_eq_true,if_false,if_true]
 rw[GN (c:=decide ((l:Int)<=(k:Int))) λ_=>rfl,Rs.okb]
 by_cases e:i=j/\l<=k
 ·rw[if_pos (by simp;omega)]
  simp only[Rs.okb]
  rw[Xi (sz (by simp)),Xr,k2,if_pos e];rfl
 ·rw[if_neg (by simp;omega)]
  simp only[Rs.okb]
  rw[Xi (sz (by simp)),Xr,k2,if_neg e]
theorem Sq (h:LayOk n ws sg i k j l a b s):YS (YS (sgL sg a b s) a) b=sg:=by
 refine Sg.ext (((RG h.kn.1 h.kn.2.1).del a).del b) h.d.gs λx=>?_
 rw[B4,B4]
 unfold sgL
 rw[KF,List.mem_append]
 constructor
 ·rintro⟨⟨y |y,h1⟩,h2⟩
  ·exact y
  ·have:x=(a,s)∨x=(b,-s):=by simpa using y
   rcases this with rfl |rfl
   ·exact absurd rfl h1
   ·exact absurd rfl h2
 ·exact λy=>⟨⟨.inl y,MY y h.ha.2⟩,MY y h.hb.2⟩
theorem Tg (h:LayOk n ws sg i k j l a b s):(if j=i/\l<k2 i k j l then k2 i k j l-2 else k2 i k j l)=k/\unW (Kb ws i k j l a b c) i (k2 i k j l) j l=ws:=by
 have hk:(if j=i/\l<k2 i k j l then k2 i k j l-2 else k2 i k j l)=k:=by
  have:=h.hne
  unfold k2
  by_cases e:i=j/\l<=k
  ·rw[if_pos e,if_pos (by omega)];omega
  ·rw[if_neg e,if_neg (by omega)]
 obtain⟨u,v,eu⟩:∃u v,und a b c=[u,v]:=by cases c<;> exact⟨_,_,rfl⟩
 refine⟨hk,?_⟩
 unfold unW
 rw[hk]
 have e1:VG (Kb ws i k j l a b c) j l=Qn ws i k [a,b]:=by
  unfold Kb VG
  rw[Qg (by rw[Yl];exact h.hj),eu,Bs h.hl']
  unfold Qn
  rw[List.set_set]
  exact Fi (by rw[List.length_set];exact h.hj)
 rw[e1]
 unfold VG
 rw[Qg h.hi,Bs h.hk]
 unfold Qn
 rw[List.set_set,Fi h.hi]
theorem Rh (h:LayOk n ws sg i k j l a b s)(hn:n<=1):Fa (Kb ws i k j l a b c) (sgL sg a b s) (λz=>unM (i+z) (k2 i k j l) (j+z) l) ws sg (λz=>Hn (i+z) k (j+z) l a b c s):=by
 obtain⟨u,v,eu,hu⟩:=h.un (c:=c) (by omega)
 obtain⟨hk,hw⟩:=Tg (c:=c) h
 have hd:=Sq h
 have go:=N5 hu
 rw[hd,hw] at go
 have dn:∀z,z<=8->YD (ah z (Kb ws i k j l a b c),sgL sg a b s) (unM (i+z) (k2 i k j l) (j+z) l)= .ok (ah z ws,sg):=λz hz=>by
  refine(HL (hu.ah (by omega) hz)).trans ?_
  rw[hd,W1,hw]
 refine⟨go,dn,λz hz=>?_⟩
 have gu:=hu.ah (z:=z) (by omega) hz
 have p1:=QW (sg:=sgL sg a b s) gu.hi gu.h1 gu.h2
 have p2:=QW (sg:=sgL sg a b s) gu.hj gu.h3 gu.h4
 have hs:=K2 (ws:=ah z (Kb ws i k j l a b c)) (e:=(a,s)) hu.d.gs.kn hu.s1
 have hc:(!decide (u= -a))=c:=by
  have:=h.ha.1
  have:=h.ab
  cases c with
  |true=>have:u= -b:=(List.cons.inj eu).1.symm;simp;omega
  |false=>have:u= -a:=(List.cons.inj eu).1.symm;simp;omega
 have hb:XS (unM (i+z) (k2 i k j l) (j+z) l)= .ok (k:Int):=by
  unfold XS YI;dsimp only;unfold unM
  simp only[Rs.okb,ar1,ar2,ar3,ar4,mxI]
  rw[GN (c:=decide ((l:Int)<(k2 i k j l:Int))) λ_=>rfl,Rs.okb]
  by_cases e:j=i/\l<k2 i k j l
  ·rw[if_pos e] at hk
   have:k2 i k j l=k∨k2 i k j l=k+2:=by unfold k2;split<;> simp
   rw[if_pos (by simp;omega)]
   congr 1
   omega
  ·rw[if_neg e] at hk
   rw[if_neg (by simp;omega),hk]
 unfold YR Z5;dsimp only
 simp only[Rs.okb]
 rw[(ZF (dn z hz)).2]
 unfold JY
 simp only[Rs.okb]
 rw[hb]
 unfold Hn unM
 simp only[Rs.okb,decide_true,Xr,ar0,ar1,ar2,ar3,ar4,mxS,mxI,Zw,Jt,Z9,QT,Ew,Bool.false_eq_true,if_false,if_true,p1,p2,Gz,hs,hc]
 rw[Xi (sz (by simp)),Xr]
end
section
variable {n:Nat}{ws:List (List Int)}{sg:List (Int×Int)}{i k j l u v z q:Nat}{w:List Int}
theorem Jm (h:k+1<w.length):(swp w k)[q]?=if q=k then w[k+1]? else if q=k+1 then w[k]? else w[q]?:=by
 unfold swp
 rw[List.getElem?_set,List.getElem?_set,List.length_set]
 by_cases e:q=k
 ·subst e
  rw[if_neg (by omega),if_pos rfl,if_pos (by omega),if_pos rfl,List.getD_eq_getElem?_getD,List.getElem?_eq_getElem h]
  rfl
 ·rw[if_neg e]
  by_cases e2:q=k+1
  ·subst e2
   rw[if_pos rfl,if_pos h,if_pos rfl,List.getD_eq_getElem?_getD,List.getElem?_eq_getElem (Nat.lt_of_succ_lt h)]
   rfl
  ·rw[if_neg e2,if_neg (Ne.symm e2),if_neg (Ne.symm e)]
theorem Re (h:k+1<w.length):swp (swp w k) k=w:=by
 apply List.ext_getElem?
 intro q
 have g:∀q,(swp w k)[q]?=if q=k then w[k+1]? else if q=k+1 then w[k]? else w[q]?:=λq=>Jm h
 rw[Jm (w:=swp w k) (by rw[K5];exact h),g (k+1),g k,g q,if_neg (show ¬k+1=k by omega),if_pos (show k+1=k+1 from rfl),if_pos (show k=k from rfl)]
 by_cases e:q=k
 ·rw[if_pos e,e]
 ·rw[if_neg e]
  by_cases e2:q=k+1
  ·rw[if_pos e2,e2]
  ·rw[if_neg e2,if_neg e,if_neg e2]
theorem Nq (h:k+1<w.length)(h':l+1<w.length)(h1:k≠l)(h2:k≠l+1)(h3:k+1≠l):swp (swp w k) l=swp (swp w l) k:=by
 apply List.ext_getElem?
 intro q
 have g:∀{k:Nat},k+1<w.length->∀q,(swp w k)[q]?=if q=k then w[k+1]? else if q=k+1 then w[k]? else w[q]?:=λh q=>Jm h
 rw[Jm (w:=swp w k) (by rw[K5];exact h'),Jm (w:=swp w l) (by rw[K5];exact h),g h (l+1),g h l,g h q,g h' (k+1),g h' k,g h' q]
 rw[if_neg (show ¬l+1=k by omega),if_neg (show ¬l+1=k+1 by omega),if_neg (show ¬l=k by omega),if_neg (show ¬l=k+1 by omega),if_neg (show ¬k+1=l by omega),if_neg (show ¬k+1=l+1 by omega),if_neg (show ¬k=l by omega),if_neg (show ¬k=l+1 by omega)]
 by_cases e1:q=l
 ·rw[if_pos e1,if_neg (by omega),if_neg (by omega),if_pos e1]
 ·rw[if_neg e1,if_neg e1]
  by_cases e2:q=l+1
  ·rw[if_pos e2,if_neg (by omega),if_neg (by omega),if_pos e2]
  ·rw[if_neg e2,if_neg e2]
def Dj (i k j l:Nat):Prop:=i=j->k≠l/\k≠l+1/\k+1≠l
theorem Dj.sym (h:Dj i k j l):Dj j l i k:=λe=>let ⟨a,b,c⟩:=h e.symm;⟨Ne.symm a,Ne.symm c,Ne.symm b⟩
theorem Lm (h:i<ws.length):gw (swW ws i k) i=swp (gw ws i) k:=by simp[swW,gw,h]
theorem PL (h:j≠i):gw (swW ws i k) j=gw ws j:=by unfold swW gw;rw[List.getD_eq_getElem?_getD,List.getElem?_set_ne (Ne.symm h),List.getD_eq_getElem?_getD]
theorem R0 (h:At2 ws i k):swW (swW ws i k) i k=ws:=by
 show(swW ws i k).set i (swp (gw (swW ws i k) i) k)=ws
 rw[Lm h.1,Re h.2]
 unfold swW
 rw[List.set_set,Fi h.1]
theorem BM (h:At2 ws i k)(h':At2 ws j l)(dj:Dj i k j l):swW (swW ws i k) j l=swW (swW ws j l) i k:=by
 show(swW ws i k).set j (swp (gw (swW ws i k) j) l)=(swW ws j l).set i (swp (gw (swW ws j l) i) k)
 by_cases e:i=j
 ·subst e
  obtain⟨h1,h2,h3⟩:=dj rfl
  rw[Lm h.1,Lm h.1,Nq h.2 h'.2 h1 h2 h3]
  unfold swW
  rw[List.set_set,List.set_set]
 ·rw[PL (Ne.symm e),PL e]
  unfold swW
  exact List.set_comm _ _ e
theorem MP (h:At2 ws i k):(gw (swW ws i k) i)[k]?=(gw ws i)[k+1]?/\(gw (swW ws i k) i)[k+1]?=(gw ws i)[k]?:=by
 rw[Lm h.1,Jm h.2,Jm h.2,if_pos rfl,if_neg (by omega),if_pos rfl]
 exact⟨rfl,rfl⟩
theorem Uw (h:At2 ws i k)(dj:i=j->q≠k/\q≠k+1):(gw (swW ws i k) j)[q]?=(gw ws j)[q]?:=by
 by_cases e:i=j
 ·subst e
  rw[Lm h.1,Jm h.2,if_neg (dj rfl).1,if_neg (dj rfl).2]
 ·rw[PL (Ne.symm e)]
theorem HW (h1:At2 ws i k)(h2:At2 ws j l)(h3:At2 ws u v)(gx:Dj i k j l)(gy:Dj i k u v)(gz:Dj j l u v):QX (QX ws i k j l u v) i k j l u v=ws:=by
 unfold QX
 rw[BM (ws:=swW (swW ws i k) j l) h3.sw.sw h1.sw.sw λe=>by have:=gy e.symm;omega]
 rw[BM (ws:=swW ws i k) h2.sw h1.sw λe=>by have:=gx e.symm;omega,R0 h1]
 rw[BM h3.sw h2.sw λe=>by have:=gz e.symm;omega,R0 h2,R0 h3]
variable {x0 x1 y0 y1 w0 w1:Int}
theorem PQ.nat (h:PQ ws ((i:Int),(k:Int),x0,x1)):i<ws.length/\(gw ws i)[k]?=some x0/\(gw ws i)[k+1]?=some x1:=by
 obtain⟨i',k',e1,e2,a,b,c⟩:=h.ex
 have e1:(i:Int)=(i':Int):=e1
 have e2:(k:Int)=(k':Int):=e2
 obtain rfl:i=i':=by omega
 obtain rfl:k=k':=by omega
 exact⟨a,b,c⟩
theorem PQ.at (h:PQ ws ((i:Int),(k:Int),x0,x1)):At2 ws i k:=⟨h.nat.1,(List.getElem?_eq_some_iff.mp h.nat.2.2).1⟩
theorem PQ.ah (h:PQ ws ((i:Int),(k:Int),x0,x1)):PQ (ah z ws) (((i+z:Nat):Int),(k:Int),x0,x1):=⟨i+z,k,rfl,rfl,FQ h.nat.1,by rw[QY];exact h.nat.2.1,by rw[QY];exact h.nat.2.2⟩
abbrev PC (ws:List (List Int))(sg:List (Int×Int))(i k j l u v:Nat)(x0 x1 y0 y1 w0 w1:Int):Prop:=PassC ws sg ((i:Int),(k:Int),x0,x1) ((j:Int),(l:Int),y0,y1) ((u:Int),(v:Int),w0,w1)
theorem Lv (d:Dr n ws sg)(h:PC ws sg i k j l u v x0 x1 y0 y1 w0 w1):YD (ws,sg) (Ut i k j l u v)= .ok (QX ws i k j l u v,sg):=by
 obtain⟨bL,e1,e2,_⟩:=Ht d h
 have e3:=DV d h.hp.at h.hq.at h.hr.at
 have e1:GY (ws,sg) (Ut i k j l u v)= .ok (bL,sg):=e1
 rw[e3] at e1
 rw[Rs.ok.inj e1]
 exact e2
theorem Rk:swW (ah z ws) (i+z) k=ah z (swW ws i k):=by unfold swW;rw[QY,Fl]
theorem Oz (d:Dr n ws sg)(hn:n<=2)(h:PC ws sg i k j l u v x0 x1 y0 y1 w0 w1):Fa ws sg (λz=>Ut (i+z) k (j+z) l (u+z) v) (QX ws i k j l u v) sg (λz=>Ut (i+z) k (j+z) l (u+z) v):=by
 have dn:∀z,z<=8->YD (ah z ws,sg) (Ut (i+z) k (j+z) l (u+z) v)= .ok (ah z (QX ws i k j l u v),sg):=λz hz=>by
  refine(Lv (d.ah hn hz) ⟨h.hp.ah,h.hq.ah,h.hr.ah,h.p0,h.q0,⟨h.st.a1,h.st.c1,h.st.so,h.st.e1,h.st.e2⟩⟩).trans ?_
  unfold QX
  rw[Rk,Rk,Rk]
 refine⟨DV d h.hp.at h.hq.at h.hr.at,dn,λz hz=>?_⟩
 unfold YR Z5;dsimp only
 simp only[Rs.okb]
 rw[(ZF (dn z hz)).2]
 unfold Ut
 simp only[Rs.okb,Xr,ar0,mxS,Zm,QV,Zb,Qo,Zt,Bool.false_eq_true,if_false]
theorem Ts (d:Dr n ws sg)(h:PQ ws ((i:Int),(k:Int),x0,x1)):x0≠x1:=by
 obtain⟨hi,h0,h1⟩:=h.nat
 have nd:(gw ws i).Nodup:=d.nd.sublist (List.sublist_flatten_of_mem (ZK hi))
 obtain⟨a0,b0⟩:=List.getElem?_eq_some_iff.mp h0
 obtain⟨a1,b1⟩:=List.getElem?_eq_some_iff.mp h1
 exact λe=>List.pairwise_iff_getElem.mp nd k (k+1) a0 a1 (by omega) (by rw[b0,b1,e])
theorem TL {x y b c:Int}(h:Y2 [x,y]=Y2 [b,c]):(x=b/\y=c)∨(x=c/\y=b):=by
 have p: [x,y].Perm [b,c]:=((YA _).symm.trans (h▸List.Perm.refl _)).trans (YA _)
 have hx:x=b∨x=c:=by simpa using p.mem_iff.mp (List.mem_cons_self (a:=x))
 rcases hx with rfl |rfl
 ·exact .inl ⟨rfl,by simpa using (List.perm_cons _).mp p⟩
 ·exact .inr ⟨rfl,by simpa using (List.perm_cons _).mp (p.trans (List.Perm.swap ..))⟩
theorem LB {x y:Int}:Y2 [x,y]=Y2 [y,x]:=VO ((YA _).trans (List.Perm.swap ..)) (JX _)
def Or2 (x y a b:Int):Prop:=(x=a/\y=b)∨(x=b/\y=a)
theorem Or2.fl {x y a b:Int}(h:Or2 x y a b)(hn:a≠b):ord y a= -ord x a:=by
 unfold ord
 rcases h with⟨rfl,rfl⟩ | ⟨rfl,rfl⟩
 ·rw[if_pos rfl,if_neg (Ne.symm hn)]
 ·rw[if_neg (Ne.symm hn),if_pos rfl];rfl
theorem Or2.ne {x y a b z w c d:Int}(h:Or2 x y a b)(h':Or2 z w c d)(n1:a≠c)(n2:a≠d)(n3:b≠c)(n4:b≠d):x≠z/\x≠w/\y≠z:=by
 rcases h with⟨rfl,rfl⟩ | ⟨rfl,rfl⟩<;> rcases h' with⟨rfl,rfl⟩ | ⟨rfl,rfl⟩
 ·exact⟨n1,n2,n3⟩
 ·exact⟨n2,n1,n4⟩
 ·exact⟨n3,n4,n1⟩
 ·exact⟨n4,n3,n2⟩
theorem NW {a b c:Int}(hx:x0≠x1)(p0:0<min x0 x1)(q0:min y0 y1<0/\0<max y0 y1)(sa:a=x0∨a=x1)(sc:c≠x0/\c≠x1)(so:(-w0=b/\ -w1=c)∨(-w0=c/\ -w1=b))(ea:a= -(min y0 y1))(ec:c=max y0 y1)(eb:b=x0+x1-a):(0<a/\0<b/\0<c)/\(a≠b/\a≠c/\b≠c)/\Or2 x0 x1 a b/\Or2 y0 y1 (-a) c/\Or2 w0 w1 (-b) (-c):=by
 have h1:Or2 x0 x1 a b:=by unfold Or2;omega
 have h2:Or2 y0 y1 (-a) c:=by unfold Or2;omega
 have h3:Or2 w0 w1 (-b) (-c):=by unfold Or2;omega
 have g:0<x0/\0<x1:=by omega
 clear p0 ea so
 refine⟨?_,?_,h1,h2,h3⟩
 ·unfold Or2 at h1;omega
 ·unfold Or2 at h1;omega
theorem PassC.back (d:Dr n ws sg)(h:PC ws sg i k j l u v x0 x1 y0 y1 w0 w1):PC (QX ws i k j l u v) sg i k j l u v x1 x0 y1 y0 w1 w0/\QX (QX ws i k j l u v) i k j l u v=ws:=by
 obtain⟨hi,p1,p2⟩:=h.hp.nat
 obtain⟨hj,q1,q2⟩:=h.hq.nat
 obtain⟨hu,r1,r2⟩:=h.hr.nat
 have a1:=h.hp.at
 have a2:=h.hq.at
 have a3:=h.hr.at
 obtain⟨a,ea⟩:∃a,a= -(min y0 y1):=⟨_,rfl⟩
 obtain⟨c,ec⟩:∃c,c=max y0 y1:=⟨_,rfl⟩
 obtain⟨b,eb⟩:∃b,b=x0+x1-a:=⟨_,rfl⟩
 have za:pa ((j:Int),(l:Int),y0,y1)=a:=ea.symm
 have zc:pc ((j:Int),(l:Int),y0,y1)=c:=ec.symm
 have zb:pb ((i:Int),(k:Int),x0,x1) ((j:Int),(l:Int),y0,y1)=b:=by
  show x0+x1-pa _=_
  rw[za,eb]
 obtain⟨s1,s2,s3,e1,e2⟩:=h.st
 rw[za] at s1
 rw[zc] at s2
 rw[zb,zc] at s3
 rw[za,zb,zc] at e1
 rw[za,zb] at e2
 have s1':a=x0∨a=x1:=by simpa using s1
 obtain⟨⟨g0,g1,g2⟩,⟨ab,ac,bc⟩,X,Y,Z⟩:=NW (Ts d h.hp) h.p0 h.q0 s1' (by simpa using s2) (TL s3) ea ec eb
 have nv:∀{a b:Option Int}{x y:Int},a=some x->b=some y->x≠y->a≠b:=λh1 h2 h3 e=>h3 (Option.some.inj (h1▸h2▸e))
 have dj:∀{i k j l:Nat}{x0 x1 y0 y1:Int},(gw ws i)[k]?=some x0->(gw ws i)[k+1]?=some x1->(gw ws j)[l]?=some y0->(gw ws j)[l+1]?=some y1->x0≠y0/\x0≠y1/\x1≠y0->Dj i k j l:=λh1 h2 h3 h4 ⟨n1,n2,n3⟩ e=>by
  subst e
  exact⟨λz=>nv h1 h3 n1 (by rw[z]),λz=>nv h1 h4 n2 (by rw[z]),λz=>nv h2 h3 n3 (by rw[z])⟩
 have gx:=dj p1 p2 q1 q2 (X.ne Y (by omega) ac (by omega) bc)
 have gy:=dj p1 p2 r1 r2 (X.ne Z (by omega) (by omega) (by omega) (by omega))
 have gz:=dj q1 q2 r1 r2 (Y.ne Z (by omega) (by omega) (by omega) (by omega))
 refine⟨?_,HW a1 a2 a3 gx gy gz⟩
 have ya:pa ((j:Int),(l:Int),y1,y0)=a:=by
  rw[←za]
  show-(min y1 y0)= -(min y0 y1)
  rw[Int.min_comm]
 have yc:pc ((j:Int),(l:Int),y1,y0)=c:=by rw[←zc];exact Int.max_comm ..
 have yb:pb ((i:Int),(k:Int),x1,x0) ((j:Int),(l:Int),y1,y0)=b:=by
  show x1+x0-pa _=_
  rw[ya,eb,Int.add_comm]
 have st:StC sg ((i:Int),(k:Int),x1,x0) ((j:Int),(l:Int),y1,y0) ((u:Int),(v:Int),w1,w0):=by
  refine⟨?_,?_,?_,?_,?_⟩
  ·rw[ya]
   show a∈[x1,x0]
   simpa using s1'.symm
  ·rw[yc]
   show c∉ [x1,x0]
   have:c≠x0/\c≠x1:=by simpa using s2
   simpa using ⟨this.2,this.1⟩
  ·rw[yb,yc]
   exact LB.trans s3
  ·rw[ya,yb,yc]
   show ord x1 a*_=ord y1 (-a)*_
   rw[X.fl ab,Y.fl (by omega),Int.neg_mul,Int.neg_mul,e1]
  ·rw[ya,yb]
   show ord y1 (-a)*_=ord w1 (-b)*_
   rw[Y.fl (by omega),Z.fl (by omega),Int.neg_mul,Int.neg_mul,e2]
 have pl:(QX ws i k j l u v).length=ws.length:=by unfold QX;rw[Up,Up,Up]
 have f1:∀{j l:Nat},Dj i k j l->(gw (swW ws i k) j)[l]?=(gw ws j)[l]?/\(gw (swW ws i k) j)[l+1]?=(gw ws j)[l+1]?:=λh=>⟨Uw a1 λe=>by have:=h e;omega,Uw a1 λe=>by have:=h e;omega⟩
 have f2:∀{u v:Nat},Dj j l u v->(gw (swW (swW ws i k) j l) u)[v]?=(gw (swW ws i k) u)[v]?/\(gw (swW (swW ws i k) j l) u)[v+1]?=(gw (swW ws i k) u)[v+1]?:=λh=>⟨Uw a2.sw λe=>by have:=h e;omega,Uw a2.sw λe=>by have:=h e;omega⟩
 have f3:∀{a b:Nat},Dj u v a b->(gw (QX ws i k j l u v) a)[b]?=(gw (swW (swW ws i k) j l) a)[b]?/\(gw (QX ws i k j l u v) a)[b+1]?=(gw (swW (swW ws i k) j l) a)[b+1]?:=λh=>⟨Uw (ws:=swW (swW ws i k) j l) a3.sw.sw λe=>by have:=h e;omega,Uw (ws:=swW (swW ws i k) j l) a3.sw.sw λe=>by have:=h e;omega⟩
 have b1:=MP a1
 have b2:=MP (a2.sw (i:=i) (k:=k))
 have b3:=MP (ws:=swW (swW ws i k) j l) a3.sw.sw
 have c1:=f3 gy.sym
 have c2:=f3 gz.sym
 have c3:=f2 gx.sym
 refine⟨⟨i,k,rfl,rfl,by rw[pl];exact hi,?_,?_⟩,⟨j,l,rfl,rfl,by rw[pl];exact hj,?_,?_⟩,⟨u,v,rfl,rfl,by rw[pl];exact hu,?_,?_⟩,?_,?_,st⟩
 ·rw[c1.1,c3.1,b1.1];exact p2
 ·rw[c1.2,c3.2,b1.2];exact p1
 ·rw[c2.1,b2.1,(f1 gx).2];exact q2
 ·rw[c2.2,b2.2,(f1 gx).1];exact q1
 ·exact(b3.1.trans ((f2 gz).2.trans (f1 gy).2)).trans r2
 ·exact(b3.2.trans ((f2 gz).1.trans (f1 gy).1)).trans r1
 ·show 0<min x1 x0
  rw[Int.min_comm];exact h.p0
 ·show min y1 y0<0/\0<max y1 y0
  rw[Int.min_comm,Int.max_comm];exact h.q0
end
theorem EE {α:Type}:∀{l:List α}{a:α×α},a∈l.zip l->a.1=a.2
 |x::l,a,h=>by
  rcases List.mem_cons.mp h with rfl |h
  ·rfl
  ·exact EE h
theorem ID (l:List Mx):ZR l l= .ok true:=by
 unfold ZR Vm;dsimp only
 simp only[Rs.okb,decide_true,Bool.not_true,orF,Bool.false_eq_true,if_false]
 rw[EY (g:=()) λa h=>?_,Rs.okb,JS]
 rw[EE h,Xi rfl]
 simp only[Rs.okb,decide_true,Bool.not_true,orF,Bool.false_eq_true,if_false]
theorem rg1:Ov 0 1= .ok [0]:=ZM (n:=1) (by decide)
theorem rg2:Ov 0 2= .ok [0,1]:=ZM (n:=2) (by decide)
theorem rg3:Ov 0 3= .ok [0,1,2]:=ZM (n:=3) (by decide)
theorem mi {a:Int}:Oh 2 a= .ok (2*a):=YT (by decide) (by decide)
section
variable {x0 x1 x2 x3 x4 x5 v:Mx}{l:List Mx}{a b c y:Int}
theorem st1:Ui (x0::x1::l) 1 v= .ok (x0::v::l):=YF (i:=1) (by simp)
theorem st3:Ui (x0::x1::x2::x3::l) 3 v= .ok (x0::x1::x2::v::l):=YF (i:=3) (by simp)
theorem st5:Ui (x0::x1::x2::x3::x4::x5::l) 5 v= .ok (x0::x1::x2::x3::x4::v::l):=YF (i:=5) (by simp)
theorem z1:(2:Int)*0+1=1:=rfl
theorem z3:(2:Int)*1+1=3:=rfl
theorem z5:(2:Int)*2+1=5:=rfl
abbrev SR:List (Str×Int):=[("turn",(1:Int)),("curl",(1:Int)),("uncurl",(1:Int)),("lay",(2:Int)),("unlay",(2:Int)),("pass",(3:Int))]
theorem sh1 {w:Str}(h:Gz (Gr SR w)= .ok 1):YN (.s w:: .i a::l) y= .ok (.s w:: .i (a+y)::l):=by
 unfold YN Jc;dsimp only
 simp only[Rs.okb,ar0,mxS]
 rw[show Gz (Gr SR w)= .ok 1 from h]
 simp only[Rs.okb,rg1,forN,mi,z1,ar1,mxI,st1]
theorem sh2 {w:Str}(h:Gz (Gr SR w)= .ok 2):YN (.s w:: .i a::x2:: .i b::l) y= .ok (.s w:: .i (a+y)::x2:: .i (b+y)::l):=by
 unfold YN Jc;dsimp only
 simp only[Rs.okb,ar0,mxS]
 rw[show Gz (Gr SR w)= .ok 2 from h]
 simp only[Rs.okb,rg2,forN,mi,z1,z3,ar1,ar3,mxI,st1,st3]
theorem sh3 {w:Str}(h:Gz (Gr SR w)= .ok 3):YN (.s w:: .i a::x2:: .i b::x4:: .i c::l) y= .ok (.s w:: .i (a+y)::x2:: .i (b+y)::x4:: .i (c+y)::l):=by
 unfold YN Jc;dsimp only
 simp only[Rs.okb,ar0,mxS]
 rw[show Gz (Gr SR w)= .ok 3 from h]
 simp only[Rs.okb,rg3,forN,mi,z1,z3,z5,ar1,ar3,ar5,mxI,st1,st3,st5]
end
section
variable {n:Nat}{ws:List (List Int)}{sg:List (Int×Int)}{z:Nat}
theorem EW (h:ws.length<=20)(hz:z<=8):JW (ws,sg) (z:Int)= .ok (ah z ws,sg):=by
 unfold JW UC;dsimp only
 simp only[Rs.okb]
 rw[ZM (by omega),Rs.okb,Jf (h:=λ_=>([]:List Int)) (sz (by simp;omega)) λ_ _=>rfl,Rs.okb,Zk (by omega),Rs.okb]
 have e:(((List.range z).map λ(i:Nat)=>(i:Int)).map λ_=>([]:List Int))=List.replicate z []:=by
  rw[List.map_const',List.length_map,List.length_range]
 rw[e,show CG (List.replicate z ([]:List Int)) ws= .ok (ah z ws) from Xi (sz (by simp;omega)),Rs.okb]
structure Gd (ws:List (List Int))(sg:List (Int×Int))(bL:List (List Int))(cI:List (Int×Int))(m b:Nat->List Mx)(w v:Str)(k:Int):Prop where
 f:Fa ws sg m bL cI b
 g:Fa bL cI b ws sg m
 sm:∀z:Nat,YN (m 0) (z:Int)= .ok (m z)
 sb:∀z:Nat,YN (b 0) (z:Int)= .ok (b z)
 hw:ws.length<=20
 hw':bL.length<=20
 h0:atR (m 0) 0= .ok (.s w)
 hb:atR (b 0) 0= .ok (.s v)
 fo:La w= .ok (v,k)
 hk:((b 0).length:Int)=k
 tn:w= "turn" ->∃(i:Nat) (s:Int),m 0=BB i s/\b 0=BB i (-s)
theorem R9 {bL:List (List Int)}{cI:List (Int×Int)}{m b:Nat->List Mx}{w v:Str}{k:Int}(h:Gd ws sg bL cI m b w v k)(hz:z<=8):QS (ws,sg) (m 0) (b 0) (z:Int)= .ok true:=by
 unfold QS VF;dsimp only
 simp only[Rs.okb,EW h.hw hz,Xr,h.sm,h.sb,(ZF (h.f.dn z hz)).1,h.f.dn z hz,h.f.go,EW h.hw' hz,h.f.un z hz,ID,decide_true,Bool.not_true,Bool.false_eq_true,if_false,beq_self_eq_true]
theorem G6 (ns:List Int){bL:List (List Int)}{cI:List (Int×Int)}{m b:Nat->List Mx}{w v:Str}{k:Int}(h:Gd ws sg bL cI m b w v k)(e:Ct ns [("turn":Str),"curl","uncurl","lay","unlay","pass","pass"]= .ok ((ws,sg),m 0)):HJ ns= .ok true:=by
 have l1:YZ (ws,sg) (m 0)= .ok true:=(ZF (h.f.dn 0 (by decide))).1
 have l2:YZ (bL,cI) (b 0)= .ok true:=(ZF (h.g.dn 0 (by decide))).1
 have u1:YR (ws,sg) (m 0)= .ok (b 0):=h.f.un 0 (by decide)
 have u2:YR (bL,cI) (b 0)= .ok (m 0):=h.g.un 0 (by decide)
 have c1:G9 (ws,sg)= .ok (ws,sg):=by
  unfold G9 EG;dsimp only
  simp only[Rs.okb]
  rw[Zk (by have:=h.hw;omega),Rs.okb]
 have c2:G9 (bL,cI)= .ok (bL,cI):=by
  unfold G9 EG;dsimp only
  simp only[Rs.okb]
  rw[Zk (by have:=h.hw';omega),Rs.okb]
 obtain⟨r,er,rl,hr⟩:=ER ns (p:=5) (by decide) [9] (by decide) (by decide)
 have rl:r.length=1:=rl
 obtain⟨y,rfl⟩:∃y,r=[y]:=List.length_eq_one_iff.mp rl
 obtain⟨y0,y1⟩:=hr 0 y 9 rfl rfl
 obtain⟨z,rfl⟩:∃z:Nat,y=(z:Int):=⟨y.toNat,by omega⟩
 have hf:=R9 h (z:=z) (by omega)
 unfold HJ Sw;dsimp only
 simp only[Rs.okb]
 rw[Xi (sz (by simp)),Rs.okb,e]
 simp only[Rs.okb,Xr,h.f.go,c1,u1,decide_true,Bool.not_true,orF,Bool.false_eq_true,if_false,h.h0,h.hb,mxS,h.fo,h.hk]
 rw[show O5 (Rs.ok (decide (w=("turn":Str)))) _=Rs.ok false from ?_]
 ·simp only[Rs.okb,Bool.false_eq_true,if_false,l1,c2,Xr,l2,beq_self_eq_true,Bool.not_true,orF,h.g.go,decide_true,u2,ID]
  rw[Xi (sz (by simp)),Rs.okb,er]
  simp only[Rs.okb,Xr,ar0,hf,Bool.not_true,Bool.false_eq_true,if_false]
 ·by_cases hw:w= "turn"
  ·obtain⟨i,s,em,eb⟩:=h.tn hw
   rw[em,eb,decide_eq_true hw,Bq]
   simp only[Rs.okb,ar1,ar2,mxI]
   rw[Xi (sz (by simp)),Rs.okb,Xi rfl]
   simp
  ·rw[decide_eq_false hw,HH]
theorem RJ (d:Dr n ws sg)(hn:n<=1){i:Nat}{s:Int}(hi:i<ws.length):Gd ws sg (Vy ws i s) sg (λz=>BB (i+z) s) (λz=>BB (i+z) (-s)) "turn" "turn" 3:=by
 have d':=d.turn hi (s:=s)
 have g:=OH d' (by omega) (i:=i) (s:=-s) (by unfold Vy;rw[List.length_set];exact hi)
 rw[Ln hi,Int.neg_neg] at g
 exact⟨OH d (by omega) hi,g,λz=>sh1 rfl,λz=>sh1 rfl,d.lw',d'.lw',ar0,ar0,rfl,rfl,λ_=>⟨i,s,rfl,rfl⟩⟩
theorem GC {w:Str}{P:Prop}(h:decide (w= "turn")=false):w= "turn" ->P:=λe=>absurd e (of_decide_eq_false h)
theorem Mt (d:Dr n ws sg)(hn:n<=1){i k:Nat}{c s:Int}{o:Bool}(hi:i<ws.length)(hk:k<=(gw ws i).length)(hc:c∉kys sg)(h1:1<=c)(hs:s=1∨s= -1):Gd ws sg (Qn ws i k (prc c o)) (sgC sg c s) (λz=>UK (i+z) k c o s) (λz=>T8 (i+z) k) "curl" "uncurl" 3/\Gd (Qn ws i k (prc c o)) (sgC sg c s) ws sg (λz=>T8 (i+z) k) (λz=>UK (i+z) k c o s) "uncurl" "curl" 6:=by
 have d':=d.curl (s:=s) (o:=o) (by omega) hi hk hc h1
 have f:=SU (o:=o) d (by omega) hi hk hc h1 hs
 have g:=Nw (s:=s) (o:=o) d hn hi hk hc h1
 exact⟨⟨f,g,λz=>sh1 rfl,λz=>sh1 rfl,d.lw',d'.lw',ar0,ar0,rfl,rfl,GC ZV⟩,⟨g,f,λz=>sh1 rfl,λz=>sh1 rfl,d'.lw',d.lw',ar0,ar0,rfl,rfl,GC Za⟩⟩
theorem Ox (hn:n<=1){i k j l:Nat}{a b s:Int}{c:Bool}(h:LayOk n ws sg i k j l a b s):Gd ws sg (Kb ws i k j l a b c) (sgL sg a b s) (λz=>Hn (i+z) k (j+z) l a b c s) (λz=>unM (i+z) (k2 i k j l) (j+z) l) "lay" "unlay" 5/\Gd (Kb ws i k j l a b c) (sgL sg a b s) ws sg (λz=>unM (i+z) (k2 i k j l) (j+z) l) (λz=>Hn (i+z) k (j+z) l a b c s) "unlay" "lay" 9:=by
 have d':=Dr.lay (c:=c) h (by omega)
 have f:=WU (c:=c) h (by omega)
 have g:=Rh (c:=c) h hn
 exact⟨⟨f,g,λz=>sh2 rfl,λz=>sh2 rfl,h.d.lw',d'.lw',ar0,ar0,rfl,rfl,GC Qp⟩,⟨g,f,λz=>sh2 rfl,λz=>sh2 rfl,d'.lw',h.d.lw',ar0,ar0,rfl,rfl,GC Zw⟩⟩
theorem Sd (d:Dr n ws sg)(hn:n<=1){i k j l u v:Nat}{x0 x1 y0 y1 w0 w1:Int}(h:PC ws sg i k j l u v x0 x1 y0 y1 w0 w1):Gd ws sg (QX ws i k j l u v) sg (λz=>Ut (i+z) k (j+z) l (u+z) v) (λz=>Ut (i+z) k (j+z) l (u+z) v) "pass" "pass" 7:=by
 have d':=d.pass h.hp.at h.hq.at h.hr.at
 obtain⟨h',e⟩:=h.back d
 have g:=Oz d' (by omega) h'
 rw[e] at g
 exact⟨Oz d (by omega) h,g,λz=>sh3 rfl,λz=>sh3 rfl,d.lw',d'.lw',ar0,ar0,rfl,rfl,GC Zm⟩
end
theorem N3 (ns:List Int)(_:ns.length<=63):HJ ns= .ok true:=by
 obtain⟨n,ws,sg,w,hn,d,hw,e⟩:=Si ns (wds:=[("turn":Str),"curl","uncurl","lay","unlay","pass","pass"]) (by simp) (by simp)
 have hw:(w= "turn" ∨w= "curl" ∨w= "lay" ∨w= "pass")∨w= "uncurl" ∨w= "unlay":=by
  simp only[List.mem_cons,List.not_mem_nil,or_false] at hw
  rcases hw with h |h |h |h |h |h |h<;> simp[h]
 rcases hw with hw |rfl |rfl
 ·obtain⟨⟨x1,x2⟩,es,e1,hm,_⟩:=Ak ns (show(0:Int)<=3 by decide) d (by omega) hw
  have e1:x1=(ws,sg):=e1
  subst e1
  rw[es,Xr] at e
  have hm:Mv n ws sg x2:=hm
  cases hm with
  |turn hi=>exact G6 ns (RJ d hn hi) e
  |curl hi hk hc h1 hs=>exact G6 ns (Mt d hn hi hk hc h1 hs).1 e
  |lay h=>exact G6 ns (Ox hn h).1 e
  | @pass p q r h=>
   obtain⟨p1,p2,p3,p4⟩:=p
   obtain⟨q1,q2,q3,q4⟩:=q
   obtain⟨r1,r2,r3,r4⟩:=r
   obtain⟨i,k,a1,a2,_⟩:=h.hp.ex
   obtain⟨j,l,b1,b2,_⟩:=h.hq.ex
   obtain⟨u,v,c1,c2,_⟩:=h.hr.ex
   have a1:p1=(i:Int):=a1
   have a2:p2=(k:Int):=a2
   have b1:q1=(j:Int):=b1
   have b2:q2=(l:Int):=b2
   have c1:r1=(u:Int):=c1
   have c2:r2=(v:Int):=c2
   subst a1 a2 b1 b2 c1 c2
   exact G6 ns (Sd d hn h) e
 ·obtain⟨x,es,i,k,c,o,s,rfl,h1,h2,h3,h4,h5⟩:=Wc ns (show(0:Int)<=3 by decide) d
  rw[es,Xr] at e
  exact G6 ns (Mt d hn h1 h2 h3 h4 h5).2 e
 ·obtain⟨x,es,i,k,j,l,a,b,c,s,rfl,h⟩:=Ms ns (show(0:Int)<=3 by decide) d
  rw[es,Xr] at e
  exact G6 ns (Ox hn h).2 e
theorem OU {K:W.Frag}{mg:Str->Option Value}{h:Heap}(X:K.In h)(G:h.Ns mainGlobals mg){x p0:Str}{st:Stmt}{f:Addr}{oc:Value}{od an:Option Addr}{cD:Array (Option Value)}{kV doc pm am ct:Value}(hb:∀(kV doc pm:Value) (an:Option Addr) (am ct u0:Value),bindArgs (W.fnOf x x (YM st) (Yj st) (Xg st) .none kV doc pm an am ct) ⟨[u0],[]⟩=pure ([p0].zip [u0]))(a:W.nsIn K mainGlobals x=some (some (.ref f)))(l:K.lookup f=some ⟨oc,od, .func (W.fnOf x x (YM st) (Yj st) (Xg st) .none kV doc pm an am ct),cD⟩)(c:W.codeIn K am x=true)(k:W.keepIn K (.ref f)=true):Def K mg x st [p0]:=⟨f,_,Jy l c k,(Jy l c k).binds λ_ _ _ _ _ _ us hl=>(by obtain⟨_,rfl⟩:=TR hl;exact hb ..),W.mg_of X G a⟩
theorem J5 {K:W.Frag}{mg:Str->Option Value}{h:Heap}(X:K.In h)(G:h.Ns mainGlobals mg){x p0 p1:Str}{st:Stmt}{f:Addr}{oc:Value}{od an:Option Addr}{cD:Array (Option Value)}{kV doc pm am ct:Value}(hb:∀(kV doc pm:Value) (an:Option Addr) (am ct u0 u1:Value),bindArgs (W.fnOf x x (YM st) (Yj st) (Xg st) .none kV doc pm an am ct) ⟨[u0,u1],[]⟩=pure ([p0,p1].zip [u0,u1]))(a:W.nsIn K mainGlobals x=some (some (.ref f)))(l:K.lookup f=some ⟨oc,od, .func (W.fnOf x x (YM st) (Yj st) (Xg st) .none kV doc pm an am ct),cD⟩)(c:W.codeIn K am x=true)(k:W.keepIn K (.ref f)=true):Def K mg x st [p0,p1]:=⟨f,_,Jy l c k,(Jy l c k).binds λ_ _ _ _ _ _ us hl=>(by obtain⟨_,_,rfl⟩:=T7 hl;exact hb ..),W.mg_of X G a⟩
theorem OB {K:W.Frag}{mg:Str->Option Value}{h:Heap}(X:K.In h)(G:h.Ns mainGlobals mg){x p0 p1 p2:Str}{st:Stmt}{f:Addr}{oc:Value}{od an:Option Addr}{cD:Array (Option Value)}{kV doc pm am ct:Value}(hb:∀(kV doc pm:Value) (an:Option Addr) (am ct u0 u1 u2:Value),bindArgs (W.fnOf x x (YM st) (Yj st) (Xg st) .none kV doc pm an am ct) ⟨[u0,u1,u2],[]⟩=pure ([p0,p1,p2].zip [u0,u1,u2]))(a:W.nsIn K mainGlobals x=some (some (.ref f)))(l:K.lookup f=some ⟨oc,od, .func (W.fnOf x x (YM st) (Yj st) (Xg st) .none kV doc pm an am ct),cD⟩)(c:W.codeIn K am x=true)(k:W.keepIn K (.ref f)=true):Def K mg x st [p0,p1,p2]:=⟨f,_,Jy l c k,(Jy l c k).binds λ_ _ _ _ _ _ us hl=>(by obtain⟨_,_,_,rfl⟩:=Wb hl;exact hb ..),W.mg_of X G a⟩
theorem TC {K:W.Frag}{mg:Str->Option Value}{h:Heap}(X:K.In h)(G:h.Ns mainGlobals mg){x p0 p1 p2 p3:Str}{st:Stmt}{f:Addr}{oc:Value}{od an:Option Addr}{cD:Array (Option Value)}{kV doc pm am ct:Value}(hb:∀(kV doc pm:Value) (an:Option Addr) (am ct u0 u1 u2 u3:Value),bindArgs (W.fnOf x x (YM st) (Yj st) (Xg st) .none kV doc pm an am ct) ⟨[u0,u1,u2,u3],[]⟩=pure ([p0,p1,p2,p3].zip [u0,u1,u2,u3]))(a:W.nsIn K mainGlobals x=some (some (.ref f)))(l:K.lookup f=some ⟨oc,od, .func (W.fnOf x x (YM st) (Yj st) (Xg st) .none kV doc pm an am ct),cD⟩)(c:W.codeIn K am x=true)(k:W.keepIn K (.ref f)=true):Def K mg x st [p0,p1,p2,p3]:=⟨f,_,Jy l c k,(Jy l c k).binds λ_ _ _ _ _ _ us hl=>(by obtain⟨_,_,_,_,rfl⟩:=S2 hl;exact hb ..),W.mg_of X G a⟩
theorem AB {K:W.Frag}{mg:Str->Option Value}{h:Heap}(X:K.In h)(G:h.Ns mainGlobals mg){x p0 p1 p2 p3 p4:Str}{st:Stmt}{f:Addr}{oc:Value}{od an:Option Addr}{cD:Array (Option Value)}{kV doc pm am ct:Value}(hb:∀(kV doc pm:Value) (an:Option Addr) (am ct u0 u1 u2 u3 u4:Value),bindArgs (W.fnOf x x (YM st) (Yj st) (Xg st) .none kV doc pm an am ct) ⟨[u0,u1,u2,u3,u4],[]⟩=pure ([p0,p1,p2,p3,p4].zip [u0,u1,u2,u3,u4]))(a:W.nsIn K mainGlobals x=some (some (.ref f)))(l:K.lookup f=some ⟨oc,od, .func (W.fnOf x x (YM st) (Yj st) (Xg st) .none kV doc pm an am ct),cD⟩)(c:W.codeIn K am x=true)(k:W.keepIn K (.ref f)=true):Def K mg x st [p0,p1,p2,p3,p4]:=⟨f,_,Jy l c k,(Jy l c k).binds λ_ _ _ _ _ _ us hl=>(by obtain⟨_,_,_,_,_,rfl⟩:=WT hl;exact hb ..),W.mg_of X G a⟩
theorem TK {l:PySem.W.OpenLaw}{w:World}{K:W.Frag}{h:Heap}{mg:Str->Option Value}{fa f:Addr}{tk0:Tok}(X:K.In h)(G:h.Ns mainGlobals mg)(hfa:mg "law" =some (.ref fa)){od an:Option Addr}{sl:Array (Option Value)}{oc kV dc pm cd ct:Value}
  (D1:Def K mg "crossings" Qy ["drawing"])
  (D2:Def K mg "sign_of" Gj ["drawing","crossing"])
  (D3:Def K mg "turned" Kw ["drawing","walk","by"])
  (D4:Def K mg "begun_later" QA ["passages","by"])
  (D5:Def K mg "legal" Bw ["drawing","move"])
  (D6:Def K mg "is_walk" Gv ["drawing","walk"])
  (D7:Def K mg "can_lay" K4 ["drawing","walk","place","more"])
  (D8:Def K mg "pair_at" Gf ["drawing","walk","place"])
  (D9:Def K mg "can_add" V8 ["drawing","names"])
  (D10:Def K mg "curl_legal" Q8 ["drawing","move"])
  (D11:Def K mg "uncurl_legal" Qa ["drawing","move"])
  (D12:Def K mg "is_curl" GH ["pair"])
  (D13:Def K mg "lay_legal" J8 ["drawing","move"])
  (D14:Def K mg "unlay_legal" QF ["drawing","move"])
  (D15:Def K mg "can_unlay" Vs ["drawing","over","under"])
  (D16:Def K mg "pass_legal" JK ["drawing","move"])
  (D17:Def K mg "order_of" Uk ["pair","passage"])
  (D18:Def K mg "done" Lj ["drawing","move"])
  (D19:Def K mg "refuse_illegal" ZD ["drawing","move"])
  (D20:Def K mg "with_pair" QG ["walks","at","place","pair"])
  (D21:Def K mg "without_pair" Zr ["walks","at","place"])
  (D22:Def K mg "signs_without" Zd ["drawing","pair"])
  (D23:Def K mg "curled" Dh ["drawing","move"])
  (D24:Def K mg "laid" Lx ["drawing","move"])
  (D25:Def K mg "unlaid" F1 ["drawing","move"])
  (D26:Def K mg "bare_over_place" Zj ["move"])
  (D27:Def K mg "passed" KH ["drawing","move"])
  (D28:Def K mg "undone" DS ["drawing","move"])
  (D29:Def K mg "curl_back" J7 ["drawing","move"])
  (D30:Def K mg "unlay_back" Jb ["move"])
  (D31:Def K mg "lay_back" Uq ["drawing","move"])
  (D32:Def K mg "_law_cell" L7 ["_law_script","_law_place"])
  (D33:Def K mg "_law_mix" P8 ["_law_cell_here","_law_k"])
  (D34:Def K mg "_law_row" RP ["_law_script","_law_place","_law_sizes"])
  (D35:Def K mg "_law_traced" F6 ["_law_lows","_law_signs","_law_strands"])
  (D36:Def K mg "_law_turn_back" Zi ["_law_walks","_law_signs","_law_some"])
  (D37:Def K mg "_law_begun" FM ["_law_script","_law_place"])
  (D38:Def K mg "_law_pairs" BV ["_law_walks"])
  (D39:Def K mg "_law_straight" Ul ["_law_signs","_law_top","_law_mid","_law_low"])
  (D40:Def K mg "_law_passes" JR ["_law_drawing"])
  (D41:Def K mg "_law_lay_in" DQ ["_law_walks","_law_at","_law_k","_law_one","_law_two"])
  (D42:Def K mg "_law_cut_out" KL ["_law_walks","_law_at","_law_k"])
  (D43:Def K mg "_law_do" Wh ["_law_drawing","_law_move"])
  (D44:Def K mg "_law_new" R1 ["_law_signs","_law_name"])
  (D45:Def K mg "_law_curl" LD ["_law_drawing","_law_some"])
  (D46:Def K mg "_law_lay" Nx ["_law_drawing","_law_some"])
  (D47:Def K mg "_law_set" RK ["_law_script","_law_place","_law_drawing","_law_word"])
  (D48:Def K mg "_law_both" Lw ["_law_script","_law_words"])
  (D49:Def K mg "_law_copy" Hc ["_law_drawing"])
  (D50:Def K mg "_law_same_move" VC ["_law_found","_law_due"])
  (D51:Def K mg "_law_form" L6 ["_law_word"])
  (D52:Def K mg "_law_shifted" KQ ["_law_move","_law_more"])
  (D53:Def K mg "_law_ahead_of" Qi ["_law_drawing","_law_count"])
  (D54:Def K mg "_law_far_right" Vp ["_law_drawing","_law_move","_law_found","_law_count"])
  (a:W.nsIn K mainGlobals "law" =some (some (.ref f)))(l0:K.lookup f=some ⟨oc,od, .func (W.fnOf "law" "law" (YM DL) (Yj DL) (Xg DL) .none kV dc pm an cd ct),sl⟩)(c:W.codeIn K cd "law" =true)(k:W.keepIn K (.ref f)=true)
  (z1:W.nsIn K mainGlobals "abs" =some none)
  (z2:W.nsIn K mainGlobals "all" =some none)
  (z3:W.nsIn K mainGlobals "bool" =some none)
  (z4:W.nsIn K mainGlobals "dict" =some none)
  (z5:W.nsIn K mainGlobals "int" =some none)
  (z6:W.nsIn K mainGlobals "isinstance" =some none)
  (z7:W.nsIn K mainGlobals "len" =some none)
  (z8:W.nsIn K mainGlobals "list" =some none)
  (z9:W.nsIn K mainGlobals "max" =some none)
  (z10:W.nsIn K mainGlobals "min" =some none)
  (z11:W.nsIn K mainGlobals "range" =some none)
  (z12:W.nsIn K mainGlobals "set" =some none)
  (z13:W.nsIn K mainGlobals "sorted" =some none)
  (z14:W.nsIn K mainGlobals "str" =some none)
  (z15:W.nsIn K mainGlobals "tuple" =some none)
  (z16:W.nsIn K mainGlobals "zip" =some none)
  (w0:W.nsIn K mainGlobals "MOST_CROSSINGS" =some (some (.int 40 tk0)))
  :∃fd:FuncData,(∀(s:Shared) (v:Value),BindsTo s fd ⟨[v],[]⟩ [("_law_script",v)])/\∀base:Heap,K.In base->base.Ns mainGlobals mg->FnOk l.prog w K mg base CX0 8 fa fd ["_law_script"] (sp1 (rL Xf) (oF XB) HJ K):=by
 have e:=hfa.symm.trans (W.mg_of X G a)
 cases e
 have N:∀{x:Str},W.nsIn K mainGlobals x=some none->mg x=none:=λz=>PySem.W.mg_none_of X G z
 have Z:Blt mg:=⟨N z1,N z2,N z3,N z4,N z5,N z6,N z7,N z8,N z9,N z10,N z11,N z12,N z13,N z14,N z15,N z16,⟨_,W.mg_of X G w0,_,rfl⟩⟩
 refine⟨W.fnOf "law" "law" (YM DL) (Yj DL) (Xg DL) .none kV dc pm an cd ct,λs v=>.of_eq rfl,λbase _ _=>?_⟩
 have cy:Lo l.prog w K mg base E9:=L4.2 D32 Z
 have dv:Sn l.prog w K mg base Ng:=Ph.2 D33 Z
 have aQ:HR l.prog w K mg base Be:=R3.2 D34 cy dv Z
 have bW:F5 l.prog w K mg base Kv:=Dz.2 D35 Z
 have bm:Vz l.prog w K mg base QM:=Vw.2 D36 Z
 have cA:BF l.prog w K mg base DZ:=Ed.2 D37 aQ bW bm Z
 have bY:N4 l.prog w K mg base Ij:=Pf.2 D44 Z
 have db:LS l.prog w K mg base Ez:=Ip.2 D45 bY Z
 have cz:Ep l.prog w K mg base FV:=Bz.2 D38 Z
 have bx:UA l.prog w K mg base J0:=UN.2 D39 Z
 have bZ:DM l.prog w K mg base Kq:=Dp.2 D40 cz bx Z
 have dw:Sj l.prog w K mg base N2:=SL.2 D46 bY Z
 have bp:FX l.prog w K mg base KG:=DA.2 D41 Z
 have br:GP l.prog w K mg base ZU:=GO.2 D42 Z
 have bz:SQ l.prog w K mg base GY:=OG.2 D43 bp br Z
 have dy:P7 l.prog w K mg base DT:=LU.2 D47 aQ db bZ dw bz Z
 have cB:IL l.prog w K mg base Ct:=Lp.2 D48 aQ cA dy bz Z
 have bG:ML l.prog w K mg base G9:=EG.2 D49 Z
 have az:Jq l.prog w K mg base Qj:=K8.2 D6 Z
 have ad:ZP l.prog w K mg base Yq:=GX.2 D8 az Z
 have aI:UI l.prog w K mg base Uz:=UH.2 D17 Z
 have af:VQ l.prog w K mg base Yv:=KP.2 D2 Z
 have aV:Ji l.prog w K mg base Z6:=Jl.2 D16 ad aI af Z
 have aD:V2 l.prog w K mg base Zx:=GW.2 D7 az Z
 have bf:Vt l.prog w K mg base Va:=Vc.2 D1 Z
 have aH:VL l.prog w K mg base ZS:=GB.2 D9 bf Z
 have aW:JO l.prog w K mg base JH:=Jz.2 D10 aD aH Z
 have bD:GA l.prog w K mg base GS:=Gq.2 D12 Z
 have aJ:Qd l.prog w K mg base Qb:=Qc.2 D11 ad bD Z
 have bh:Vf l.prog w K mg base Vl:=Vo.2 D13 aD aH Z
 have bg:Vq l.prog w K mg base Vi:=Vv.2 D15 af Z
 have aN:QL l.prog w K mg base Qv:=QK.2 D14 ad bg Z
 have aC:KN l.prog w K mg base YZ:=Jx.2 D5 aV az aW aJ bh aN Z
 have ak:YQ l.prog w K mg base Xy:=XO.2 D19 aC Z
 have bj:=Bi (P:=l.prog) (w:=w) (base:=base) D29 ad af Z
 have aX:Js l.prog w K mg base JD:=JN.2 D30 Z
 have ai:Zh l.prog w K mg base XS:=YI.2 D26 Z
 have bw:=Eo (P:=l.prog) (w:=w) (base:=base) D31 ad af ai Z
 have aG:Ku l.prog w K mg base YR:=Z5.2 D28 ak bj aX bw Z
 have ax:QQ l.prog w K mg base ZR:=Vm.2 D50 Z
 have cC:L3 l.prog w K mg base La:=On.2 D51 Z
 have aE:Uv l.prog w K mg base JW:=UC.2 D53 Z
 have bt:GQ l.prog w K mg base YN:=Jc.2 D52 Z
 have bR:DW l.prog w K mg base Ks:=DR.2 D27 Z
 have aM:QH l.prog w K mg base Qu:=Qx.2 D4 Z
 have bS:DJ l.prog w K mg base Df:=FN.2 D3 aM Z
 have aw:Qt l.prog w K mg base ZO:=Vj.2 D20 Z
 have bT:FY l.prog w K mg base DK:=Do.2 D23 aw Z
 have cW:Iv l.prog w K mg base Ii:=MR.2 D24 aw Z
 have al:Zn l.prog w K mg base YO:=Qe.2 D21 Z
 have ao:Y9 l.prog w K mg base YG:=Y7.2 D22 Z
 have bU:F0 l.prog w K mg base F7:=Dy.2 D25 ad al ai ao Z
 have de:M2 l.prog w K mg base YD:=V9.2 D18 ak bR bS bT ad cW bU al ao Z
 have aK:Vh l.prog w K mg base QS:=VF.2 D54 aE bt ax aC de aG bz Z
 exact Sw.2 (Jy (st:=DL) l0 c k) cB bz bG aG ax cC aK aC aQ Z
theorem AC {l:PySem.W.OpenLaw}{q:Program}{cm:List Str}{XP:(Str->Option Value)->Heap->Prop}{YP:World->Heap->Prop}{d:DefRec}{K:Params->W.Frag}(hn:l.most=some 63)(gG:d.params.defaults=[])
  (hY:∀(w:World) (h:Heap),YP w h->(K w.params).In h)
  (F:∀(w:World) (mg:Str->Option Value) (fa:Addr) (h:Heap),(K w.params).In h->h.Ns mainGlobals mg->mg d.name=some (.ref fa)->
   ∃fd:FuncData,(∀(s:Shared) (u:Value),BindsTo s fd ⟨[u],[]⟩ [("_law_script",u)])/\∀base:Heap,(K w.params).In base->base.Ns mainGlobals mg->FnOk l.prog w (K w.params) mg base CX0 8 fa fd ["_law_script"] (sp1 (rL Xf) (oF XB) HJ (K w.params))):
  PySem.W.WalkO q cm XP YP l.row.toRowW d [] (λf vs=>PySem.call f vs):=
 L2.SI (n:=63) (k:=8) (x:="_law_script") (CX:=λ_=>CX0) (sp:=λw=>sp1 (rL Xf) (oF XB) HJ (K w.params)) hn (by decide) gG ⟨rfl,by decide,by decide⟩ hY F (λ_ _ a ns hl _ hS=>⟨.ref a,ns,true,rfl,⟨a,_,rfl,hS,BS ns⟩,N3 ns hl,λv C H' w m ho=>ho.2⟩) λ_ _ _ _ _ z=>z
end My
open PySem PySem.W PyProof.Rows
set_option maxRecDepth 100000 in
set_option maxHeartbeats 0 in
theorem PySem.Challenge.cw_plait_k65_undone_holds : PySem.Challenge.rw_plait_k65_undone.Holds := by
  w_on; o_law; k_head; (case hw => w_witness2)
  k_fill
  refine My.AC (l := PySem.Challenge.rw_plait_k65_undone) rfl rfl (fun w h Y => PySem.W.kIn_of Y) ?F
  case F =>
    intro w mg fa h KX G hmg
    refine' My.TK KX G hmg (My.OU KX G (by intros; rfl) ?a1 ?l1 ?c1 ?k1) (My.J5 KX G (by intros; rfl) ?a2 ?l2 ?c2 ?k2) (My.OB KX G (by intros; rfl) ?a3 ?l3 ?c3 ?k3) (My.J5 KX G (by intros; rfl) ?a4 ?l4 ?c4 ?k4) (My.J5 KX G (by intros; rfl) ?a5 ?l5 ?c5 ?k5) (My.J5 KX G (by intros; rfl) ?a6 ?l6 ?c6 ?k6) (My.TC KX G (by intros; rfl) ?a7 ?l7 ?c7 ?k7) (My.OB KX G (by intros; rfl) ?a8 ?l8 ?c8 ?k8) (My.J5 KX G (by intros; rfl) ?a9 ?l9 ?c9 ?k9) (My.J5 KX G (by intros; rfl) ?a10 ?l10 ?c10 ?k10) (My.J5 KX G (by intros; rfl) ?a11 ?l11 ?c11 ?k11) (My.OU KX G (by intros; rfl) ?a12 ?l12 ?c12 ?k12) (My.J5 KX G (by intros; rfl) ?a13 ?l13 ?c13 ?k13) (My.J5 KX G (by intros; rfl) ?a14 ?l14 ?c14 ?k14) (My.OB KX G (by intros; rfl) ?a15 ?l15 ?c15 ?k15) (My.J5 KX G (by intros; rfl) ?a16 ?l16 ?c16 ?k16) (My.J5 KX G (by intros; rfl) ?a17 ?l17 ?c17 ?k17) (My.J5 KX G (by intros; rfl) ?a18 ?l18 ?c18 ?k18) (My.J5 KX G (by intros; rfl) ?a19 ?l19 ?c19 ?k19) (My.TC KX G (by intros; rfl) ?a20 ?l20 ?c20 ?k20) (My.OB KX G (by intros; rfl) ?a21 ?l21 ?c21 ?k21) (My.J5 KX G (by intros; rfl) ?a22 ?l22 ?c22 ?k22) (My.J5 KX G (by intros; rfl) ?a23 ?l23 ?c23 ?k23) (My.J5 KX G (by intros; rfl) ?a24 ?l24 ?c24 ?k24) (My.J5 KX G (by intros; rfl) ?a25 ?l25 ?c25 ?k25) (My.OU KX G (by intros; rfl) ?a26 ?l26 ?c26 ?k26) (My.J5 KX G (by intros; rfl) ?a27 ?l27 ?c27 ?k27) (My.J5 KX G (by intros; rfl) ?a28 ?l28 ?c28 ?k28) (My.J5 KX G (by intros; rfl) ?a29 ?l29 ?c29 ?k29) (My.OU KX G (by intros; rfl) ?a30 ?l30 ?c30 ?k30) (My.J5 KX G (by intros; rfl) ?a31 ?l31 ?c31 ?k31) (My.J5 KX G (by intros; rfl) ?a32 ?l32 ?c32 ?k32) (My.J5 KX G (by intros; rfl) ?a33 ?l33 ?c33 ?k33) (My.OB KX G (by intros; rfl) ?a34 ?l34 ?c34 ?k34) (My.OB KX G (by intros; rfl) ?a35 ?l35 ?c35 ?k35) (My.OB KX G (by intros; rfl) ?a36 ?l36 ?c36 ?k36) (My.J5 KX G (by intros; rfl) ?a37 ?l37 ?c37 ?k37) (My.OU KX G (by intros; rfl) ?a38 ?l38 ?c38 ?k38) (My.TC KX G (by intros; rfl) ?a39 ?l39 ?c39 ?k39) (My.OU KX G (by intros; rfl) ?a40 ?l40 ?c40 ?k40) (My.AB KX G (by intros; rfl) ?a41 ?l41 ?c41 ?k41) (My.OB KX G (by intros; rfl) ?a42 ?l42 ?c42 ?k42) (My.J5 KX G (by intros; rfl) ?a43 ?l43 ?c43 ?k43) (My.J5 KX G (by intros; rfl) ?a44 ?l44 ?c44 ?k44) (My.J5 KX G (by intros; rfl) ?a45 ?l45 ?c45 ?k45) (My.J5 KX G (by intros; rfl) ?a46 ?l46 ?c46 ?k46) (My.TC KX G (by intros; rfl) ?a47 ?l47 ?c47 ?k47) (My.J5 KX G (by intros; rfl) ?a48 ?l48 ?c48 ?k48) (My.OU KX G (by intros; rfl) ?a49 ?l49 ?c49 ?k49) (My.J5 KX G (by intros; rfl) ?a50 ?l50 ?c50 ?k50) (My.OU KX G (by intros; rfl) ?a51 ?l51 ?c51 ?k51) (My.J5 KX G (by intros; rfl) ?a52 ?l52 ?c52 ?k52) (My.J5 KX G (by intros; rfl) ?a53 ?l53 ?c53 ?k53) (My.TC KX G (by intros; rfl) ?a54 ?l54 ?c54 ?k54) ?a55 ?l55 ?c55 ?k55 ?z1 ?z2 ?z3 ?z4 ?z5 ?z6 ?z7 ?z8 ?z9 ?z10 ?z11 ?z12 ?z13 ?z14 ?z15 ?z16 ?w0
    (case a1 => k_is); (case l1 => k_is); (case c1 => k_is); (case k1 => k_is); (case a2 => k_is); (case l2 => k_is); (case c2 => k_is); (case k2 => k_is); (case a3 => k_is); (case l3 => k_is); (case c3 => k_is); (case k3 => k_is); (case a4 => k_is); (case l4 => k_is); (case c4 => k_is); (case k4 => k_is); (case a5 => k_is); (case l5 => k_is); (case c5 => k_is); (case k5 => k_is); (case a6 => k_is); (case l6 => k_is); (case c6 => k_is); (case k6 => k_is); (case a7 => k_is); (case l7 => k_is); (case c7 => k_is); (case k7 => k_is); (case a8 => k_is); (case l8 => k_is); (case c8 => k_is); (case k8 => k_is); (case a9 => k_is); (case l9 => k_is); (case c9 => k_is); (case k9 => k_is); (case a10 => k_is); (case l10 => k_is); (case c10 => k_is); (case k10 => k_is); (case a11 => k_is); (case l11 => k_is); (case c11 => k_is); (case k11 => k_is); (case a12 => k_is); (case l12 => k_is); (case c12 => k_is); (case k12 => k_is); (case a13 => k_is); (case l13 => k_is); (case c13 => k_is); (case k13 => k_is); (case a14 => k_is); (case l14 => k_is); (case c14 => k_is); (case k14 => k_is); (case a15 => k_is); (case l15 => k_is); (case c15 => k_is); (case k15 => k_is); (case a16 => k_is); (case l16 => k_is); (case c16 => k_is); (case k16 => k_is); (case a17 => k_is); (case l17 => k_is); (case c17 => k_is); (case k17 => k_is); (case a18 => k_is); (case l18 => k_is); (case c18 => k_is); (case k18 => k_is); (case a19 => k_is); (case l19 => k_is); (case c19 => k_is); (case k19 => k_is); (case a20 => k_is); (case l20 => k_is); (case c20 => k_is); (case k20 => k_is); (case a21 => k_is); (case l21 => k_is); (case c21 => k_is); (case k21 => k_is); (case a22 => k_is); (case l22 => k_is); (case c22 => k_is); (case k22 => k_is); (case a23 => k_is); (case l23 => k_is); (case c23 => k_is); (case k23 => k_is); (case a24 => k_is); (case l24 => k_is); (case c24 => k_is); (case k24 => k_is); (case a25 => k_is); (case l25 => k_is); (case c25 => k_is); (case k25 => k_is); (case a26 => k_is); (case l26 => k_is); (case c26 => k_is); (case k26 => k_is); (case a27 => k_is); (case l27 => k_is); (case c27 => k_is); (case k27 => k_is); (case a28 => k_is); (case l28 => k_is); (case c28 => k_is); (case k28 => k_is); (case a29 => k_is); (case l29 => k_is); (case c29 => k_is); (case k29 => k_is); (case a30 => k_is); (case l30 => k_is); (case c30 => k_is); (case k30 => k_is); (case a31 => k_is); (case l31 => k_is); (case c31 => k_is); (case k31 => k_is); (case a32 => k_is); (case l32 => k_is); (case c32 => k_is); (case k32 => k_is); (case a33 => k_is); (case l33 => k_is); (case c33 => k_is); (case k33 => k_is); (case a34 => k_is); (case l34 => k_is); (case c34 => k_is); (case k34 => k_is); (case a35 => k_is); (case l35 => k_is); (case c35 => k_is); (case k35 => k_is); (case a36 => k_is); (case l36 => k_is); (case c36 => k_is); (case k36 => k_is); (case a37 => k_is); (case l37 => k_is); (case c37 => k_is); (case k37 => k_is); (case a38 => k_is); (case l38 => k_is); (case c38 => k_is); (case k38 => k_is); (case a39 => k_is); (case l39 => k_is); (case c39 => k_is); (case k39 => k_is); (case a40 => k_is); (case l40 => k_is); (case c40 => k_is); (case k40 => k_is); (case a41 => k_is); (case l41 => k_is); (case c41 => k_is); (case k41 => k_is); (case a42 => k_is); (case l42 => k_is); (case c42 => k_is); (case k42 => k_is); (case a43 => k_is); (case l43 => k_is); (case c43 => k_is); (case k43 => k_is); (case a44 => k_is); (case l44 => k_is); (case c44 => k_is); (case k44 => k_is); (case a45 => k_is); (case l45 => k_is); (case c45 => k_is); (case k45 => k_is); (case a46 => k_is); (case l46 => k_is); (case c46 => k_is); (case k46 => k_is); (case a47 => k_is); (case l47 => k_is); (case c47 => k_is); (case k47 => k_is); (case a48 => k_is); (case l48 => k_is); (case c48 => k_is); (case k48 => k_is); (case a49 => k_is); (case l49 => k_is); (case c49 => k_is); (case k49 => k_is); (case a50 => k_is); (case l50 => k_is); (case c50 => k_is); (case k50 => k_is); (case a51 => k_is); (case l51 => k_is); (case c51 => k_is); (case k51 => k_is); (case a52 => k_is); (case l52 => k_is); (case c52 => k_is); (case k52 => k_is); (case a53 => k_is); (case l53 => k_is); (case c53 => k_is); (case k53 => k_is); (case a54 => k_is); (case l54 => k_is); (case c54 => k_is); (case k54 => k_is); (case a55 => k_is); (case l55 => k_is); (case c55 => k_is); (case k55 => k_is); (case z1 => k_is); (case z2 => k_is); (case z3 => k_is); (case z4 => k_is); (case z5 => k_is); (case z6 => k_is); (case z7 => k_is); (case z8 => k_is); (case z9 => k_is); (case z10 => k_is); (case z11 => k_is); (case z12 => k_is); (case z13 => k_is); (case z14 => k_is); (case z15 => k_is); (case z16 => k_is); (case w0 => k_is)
