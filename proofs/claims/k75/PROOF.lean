import PyProof.Rows.All
import Wide.All
import OpenK.AllK
import Wide.FinOn
import Lean
import PyProof.EqAt
import PyProof.EqKinds
import PyProof.TupleCall
import PySem.Challenge.RW_plait_k75_mark
set_option Elab.async false
set_option linter.all false
set_option maxRecDepth 100000
namespace PySem.W.Fast
def tw1844825781376691017:=0
def tw9767326552130352157:=0
def tw14648789534437640548:=0
def tw8303267076276516090:=0
def tw11535113469469447923:=0
def tw975534939454108922:=0
def tw17808046647283791873:=0
def tw2657420096816784552:=0
def tw12255841745940917979:=0
def tw16471680192371592855:=0
def tw11713430068090766407:=0
def tw635435586479117838:=0
def tw8665686024207998558:=0
def tw8806476494680237827:=0
def tw5842357320729446955:=0
def tw2362806388643005764:=0
def tw9590961322020408805:=0
def tw12571928776240359130:=0
def tw8139411529270039136:=0
def tw2024391665110778595:=0
def tw11099909606695460311:=0
def tw254473761072023460:=0
def tw8932815293592533853:=0
def tw16688053358993488745:=0
def tw14135945108629105908:=0
def tw2021364701263946009:=0
def tw10947661264831800907:=0
def tw230412100183765989:=0
def tw18248554475706638268:=0
def tw10023779452308853400:=0
def tw195845203326271622:=0
def tw5868204575084031800:=0
def tw7562774813481621415:=0
def tw2079185118233149773:=0
def tw15318930284027733238:=0
def tw8379094009273949123:=0
def tw9538010834044939171:=0
def tw17987519976433535073:=0
def tw1182973119566656892:=0
def tw12832465979624648566:=0
def tw8154299417457944197:=0
def tw11597156930823722820:=0
def tw2194464135553735843:=0
def tw18095837445063361467:=0
def tw5614829953879837700:=0
def tw8388573673348796866:=0
def tw12205842061120901280:=0
def tw16589107961506058559:=0
def tw1110859331217172013:=0
def tw14746207760334894907:=0
def tw5257959622767712571:=0
def tw11882592963113272777:=0
def tw11589871736044122246:=0
def tw156585352501576438:=0
def tw9351026553227455486:=0
def tw11725675768096129439:=0
def tw14246456778469402629:=0
def tw1565240580428415656:=0
def tw834142284982727228:=0
def tw1578557471379776153:=0
def tw2598074096359308244:=0
def tw14388752228701328968:=0
def tw7403480236461868830:=0
def tw16875408550472640086:=0
def tw9311877696646020794:=0
def tw2430288501465082169:=0
def tw18389136967312066882:=0
def tw14952188695624680156:=0
def tw3822910046999625070:=0
def tw16434684472429585642:=0
def tw404380884152302127:=0
def tw3637424304741231346:=0
def tw3249046448545844323:=0
def tw2691953652055165578:=0
def tw15694042453319962580:=0
def tw11617981307485767193:=0
def tw2651431303178505023:=0
def tw6191995008570204326:=0
def tw1491599655704478663:=0
def tw4062123533521902898:=0
def tw12041161224920104759:=0
def tw10842920795812240180:=0
def tw14808635260005069844:=0
def tw15415885695796899166:=0
def tw7430233779459680401:=0
def tw6635831853441774829:=0
def tw3976972842638294361:=0
def tw10986949330316417274:=0
def tw5440217780887667734:=0
def tw8618101175527685920:=0
def tw5610642718029757196:=0
def tw125087151912283359:=0
def tw3526196522892367595:=0
def tw8861796048149744159:=0
def tw820061165006108608:=0
def tw15116716800950071197:=0
def tw4475504986531446879:=0
def tw15558337477883258871:=0
def tw12475659720193827989:=0
def tw6283611832973898413:=0
def tw11136651195505351033:=0
def tw12273382369001430885:=0
def tw8223452611989230197:=0
def tw7007273426548112964:=0
def tw16401009728559878880:=0
def tw4823409029378814240:=0
def tw6308820250520938808:=0
def tw15471318740277914376:=0
def tw6243004308135324284:=0
def tw15592752128112277532:=0
def tw14933920406859723930:=0
def tw3657903613534689556:=0
def tw5346292951808549382:=0
def tw7790191442098463776:=0
def tw16668832033215769065:=0
def tw10427245318450517716:=0
def tw14680635446591092866:=0
def tw5047235821124905641:=0
def tw4919772966801282347:=0
def tw12547460353679907610:=0
def tw6888909098493849042:=0
def tw4376801102481712973:=0
def tw11622473680420660117:=0
def tw11734074615904036016:=0
def tw7037503236889211039:=0
def tw2224933379045854815:=0
def tw4240295118001501796:=0
def tw7789815483371372151:=0
def tw17642083026090220229:=0
def tw13671816360033591004:=0
end PySem.W.Fast
set_option maxHeartbeats 4000000
abbrev QLs:=List (List Int)
abbrev QPs:=List (Int×Int)
abbrev QDr:=QLs×QPs
noncomputable section
section
set_option autoImplicit true
variable {M L B δ ρ ι ε α0 α1 α2 α3 α4 α5:Type}{K:PySem.W.Frag}{aa:List (PySem.Addr×PySem.Obj)}{E Q:PySem.Value->PySem.Shared->Prop}{s:PySem.Shared}{A:PySem.Around}{w:PySem.World}{P prog:PySem.Program}{mg:PySem.Str->Option PySem.Value}{R:PySem.Result->PySem.Shared->Prop}{a b p q y z d I S Lqz:PySem.Addr}{x:PySem.Str}{pos:PySem.Pos}{h' base:PySem.Heap}{n k j:Nat}{e tg:PySem.Expr}{u:PySem.Value}{us its:List PySem.Value}{ns:List Int}{as:List M}{es bg elts:List PySem.Expr}{caps:List (Nat×PySem.Str)}{ps N names:List PySem.Str}{F:M->L->Prop}{fd:PySem.FuncData}{scope:PySem.Scope}
namespace L2
open PySem PySem.Spec PyProof.Rows
abbrev Key:=Sum Int Str
def Ge:Key->Value->Bool
 | .inl k,v=>Value.isInt k v
 | .inr x,v=>Value.isStrOf x v
def jv (w:World):Key->Int
 | .inl k=>hashInt k
 | .inr x=>hashStr w x
def Yt:∀{k:Key}{v:Value},Ge k v=true->(∃i t,k=Sum.inl i/\v=Value.int i t)∨(∃x t,k=Sum.inr x/\v=Value.str x t)
 | .inl i,v,h=>by
  obtain⟨t,e⟩:=Value.isInt_shape (k:=i) (v:=v) h
  exact .inl ⟨i,t,rfl,e⟩
 | .inr x,v,h=>by
  obtain⟨t,e⟩:=Value.isStrOf_shape (x:=x) (v:=v) h
  exact .inr ⟨x,t,rfl,e⟩
def MT (i:Int)(t:Tok):Ge (.inl i) (.int i t)=true:=by simp[Ge,Value.isInt]
def Ma (x:Str)(t:Tok):Ge (.inr x) (.str x t)=true:=by simp[Ge,Value.isStrOf]
def WC (a b:Int):decide ((Sum.inl a:Key)=Sum.inl b)=(a==b):=by
 by_cases e:a=b
 ·subst e;simp
 ·have h:¬(Sum.inl a:Key)=Sum.inl b:=λq=>e (Sum.inl.inj q)
  rw[decide_eq_false h]
  exact(beq_eq_false_iff_ne.mpr e).symm
def Wy (a b:Str):decide ((Sum.inr a:Key)=Sum.inr b)=decide (a=b):=by
 by_cases e:a=b
 ·subst e;simp
 ·have h:¬(Sum.inr a:Key)=Sum.inr b:=λq=>e (Sum.inr.inj q)
  rw[decide_eq_false h,decide_eq_false e]
def Ac (a:Int)(b:Str):decide ((Sum.inl a:Key)=Sum.inr b)=false:=decide_eq_false (λq=>nomatch q)
def WY (a:Str)(b:Int):decide ((Sum.inr a:Key)=Sum.inl b)=false:=decide_eq_false (λq=>nomatch q)
def Yu (prog:Program)(w:World):PySem.KeyKind prog w Key where
 is:=Ge
 hash:=jv w
 inj:=λv a b ha hb=>by
  rcases Yt ha with⟨i,t,rfl,rfl⟩ | ⟨x,t,rfl,rfl⟩
  ·rcases Yt hb with⟨j,u,rfl,e⟩ | ⟨y,u,rfl,e⟩
   ·injection e with e1 _;rw[e1]
   ·exact nomatch e
  ·rcases Yt hb with⟨j,u,rfl,e⟩ | ⟨y,u,rfl,e⟩
   ·exact nomatch e
   ·injection e with e1 _;rw[e1]
 byValue:=λk v h=>by
  rcases Yt h with⟨i,t,rfl,rfl⟩ | ⟨x,t,rfl,rfl⟩<;> rfl
 pyHash:=λhv h=>by
  rcases Yt hv with⟨i,t,rfl,rfl⟩ | ⟨x,t,rfl,rfl⟩
  ·exact wpAny_pyHash_int h
  ·exact wpAny_pyHash_str h
 eqBool:=λhu hv h=>by
  rcases Yt hu with⟨i,t,rfl,rfl⟩ | ⟨x,t,rfl,rfl⟩
  ·rcases Yt hv with⟨j,u,rfl,rfl⟩ | ⟨y,u,rfl,rfl⟩
   ·rw[WC] at h;exact wpAny_eqBool_int h
   ·rw[Ac] at h;exact SeqAt.EqAt.int_str i t y u _ _ _ _ h
  ·rcases Yt hv with⟨j,u,rfl,rfl⟩ | ⟨y,u,rfl,rfl⟩
   ·rw[WY] at h;exact SeqAt.EqAt.str_int x t j u _ _ _ _ h
   ·rw[Wy] at h;exact wpAny_eqBool_str h
 «strs»:=λk x t v h=>by
  rcases Yt h with⟨i,u,rfl,e⟩ | ⟨y,u,rfl,e⟩
  ·exact nomatch e
  ·injection e with e1 _
   subst e1
   cases v<;> rfl
def BI (prog:Program)(w:World)(i:Int)(t:Tok):(Yu prog w).is (.inl i) (.int i t)=true:=MT i t
def Bm (prog:Program)(w:World)(x:Str)(t:Tok):(Yu prog w).is (.inr x) (.str x t)=true:=Ma x t
inductive V where
 |non |bl (b:Bool) |int (i:Int) |str (x:Str) |byt (b:Array UInt8) |flt (b:UInt64) |ref (a:Addr) |ty (n:String)
 deriving DecidableEq
def XW:V->Value->Prop
 | .non,u=>u=Value.none
 | .bl b,u=>u=Value.bool b
 | .int i,u=>∃ t,u=Value.int i t
 | .str x,u=>∃ t,u=Value.str x t
 | .byt b,u=>∃ t,u=Value.bytes b t
 | .flt b,u=>∃ t,u=Value.float b t
 | .ref a,u=>u=Value.ref a
 | .ty n,u=>u=Value.type n
abbrev XX:List V->List Value->Prop:=Paired XW
def XX.length (r:XX xs us):xs.length=us.length:=Paired.length r
def XX.get:∀{xs:List V}{us:List Value}{i:Nat}{x:V},XX xs us->xs[i]?=some x->∃u,us[i]?=some u/\XW x u
 |_,_,_,_, .nil,e=>by simp at e
 |_,_,0,_, .cons r _,e=>by simp at e;subst e;exact⟨_,rfl,r⟩
 |_,_,i+1,x, .cons _ t,e=>by
  obtain⟨u,h1,h2⟩:=XX.get (i:=i) (x:=x) t (by simpa using e)
  exact⟨u,by simpa using h1,h2⟩
def XX.set {x:V}(r:XW x u):∀{xs:List V}{us:List Value} (i:Nat),XX xs us->XX (xs.set i x) (us.set i u)
 |_,_,_, .nil=>.nil
 |_,_,0, .cons _ t=>.cons r t
 |_,_,i+1, .cons q t=>.cons q (XX.set r i t)
def XX.append:∀{xs ys:List V}{us ws:List Value},XX xs us->XX ys ws->XX (xs++ys) (us++ws):=λp s=>by
 induction p with
 |nil=>exact s
 |cons r _ ih=>exact .cons r ih
def XX.take:∀{xs:List V}{us:List Value} (n:Nat),XX xs us->XX (xs.take n) (us.take n)
 |_,_,0,_=>.nil
 |_,_,_+1, .nil=>.nil
 |_,_,n+1, .cons r t=>.cons r (XX.take n t)
def XX.drop:∀{xs:List V}{us:List Value} (n:Nat),XX xs us->XX (xs.drop n) (us.drop n)
 |_,_,0,r=>r
 |_,_,_+1, .nil=>.nil
 |_,_,n+1, .cons _ t=>XX.drop n t
def Ik:Option V->Option Value->Prop
 |some v,some u=>XW v u
 |none,none=>True
 |_,_=>False
def KV:List (κ×V)->List (κ×Value)->Prop:=Paired λ(p:κ×V) (q:κ×Value)=>p.1=q.1/\XW p.2 q.2
def kV:Key->V
 | .inl i=>.int i
 | .inr x=>.str x
inductive HO where
 /-- a list -/
 |lst (xs:List V)
 /-- a tuple (never changes) -/
 |tup (xs:List V)
 /-- a dict whose gz are ints and texts; one whose gz are tuples of ints and texts (dC empty one is both) -/
 |dK (kvs:List (Key×V)) |dT (kvs:List (List Key×V))
 /-- a set of ints: its members, its size -/
 |set (S:Int->Bool) (n:Nat)
 /-- an instance of dC class at C, its dict at dx, its attributes -/
 |ins (C dx:Addr) (fs:List (Str×V))
 /-- dC dict of dC instance at x -/
 |own (x:Addr)
 /-- dC dict of an exception -/
 |xd (fs:List (Str×V))
 /-- a bound method, f of x -/
 |met (f x:Addr)
 /-- a range object lo, lo + 1, .. below hi -/
 |rng (lo hi:Int)
 /-- a thing that is known to dC object (dC script; a dict while a di walks it): read, never written while it is so -/
 |frz (o:Obj) (u:HO)
 /-- a code object's table -/
 |tbl (ps:Array Value)
 /-- any other thing, by what is true of its one object (a def of one's own: SetO a S n:=HO.ext λh=>..) -/
 |ext (φ:Heap->Prop)
abbrev Hp:=Addr->Option HO
def upd (H:Hp)(a:Addr)(o:HO):Hp:=λb=>if b=a then some o else H b
def Ym:upd H a o a=some o:=by unfold upd;rw[if_pos rfl]
def XH (h:b≠a):upd H a o b=H b:=by unfold upd;rw[if_neg h]
def AV {H:Hp}{o u:HO}(h:H a=some o)(h':H b=some u)(d:o≠u):a≠b:=by
 intro e;subst e;rw[h] at h';exact d (Option.some.inj h')
def XR {H:Hp}{o:HO}(h:H a=some o)(h':H b=none):a≠b:=by
 intro e;subst e;rw[h] at h';cases h'
def UF (h:Heap)(a:Addr)(items:Array Value):Prop:=∃ o,h.get? a=some o/\(o.cls= .type "tuple" /\o.dict=none)/\∃n,o.data= .seq items n
def UF.t (x:UF h a items):IsTup h a items:=let ⟨o,ho,c,r⟩:=x;⟨o,ho,c.1,r⟩
def UF.new (h:Heap)(items:Array Value):UF (h.push {cls:=.type "tuple",data:=.seq items}) h.objs.size items:=⟨_,Heap.get?_push_size _ rfl,⟨rfl,rfl⟩,_,rfl⟩
section
variable (P:Program)(w:World)
def YT (H:Hp)(h:Heap)(a:Addr):HO->Prop
 | .lst xs=>xs.length<=sizeLine/\∃(its:List Value) (n:Nat),XX xs its/\h.get? a=some {cls:=.type "list",data:=.seq its.toArray n}
 | .tup xs=>xs.length<=sizeLine/\∃its:List Value,XX xs its/\UF h a its.toArray
 | .dK kvs=>kvs.length<=sizeLine/\(a==sysModules)=false/\∃vs,KV kvs vs/\h.DictOf (Yu P w) a vs
 | .dT kvs=>kvs.length<=sizeLine/\(a==sysModules)=false/\∃xs:List (List Key×Addr×Value),
   Paired (λ(p:List Key×V) (q:List Key×Addr×Value)=>p.1=q.1/\H q.2.1=some (.tup (p.1.map kV))/\XW p.2 q.2.2) kvs xs/\
   ∃o es ep,h.get? a=some o/\o.ExactDict/\o.data= .dict es ep/\es.toList=xs.map (entryOfKey (tupleKind (Yu P w)))/\(xs.map (·.1)).Nodup
 | .set S n=>h.SetOf (intKind P w) a S n
 | .ins C dx fs=>H dx=some (.own a)/\fs.length<=1000/\dx≠a/\h.get? a=some (W.instObj C dx)/\
   ∃mA,h.Ns1 dx mA/\(∀f,Ik (fs.lookup f) (mA f))/\PySem.Within mA (fs.map (·.1))
 | .own _=>∃ o,h.get? a=some o
 | .xd fs=>∃ mA,h.Ns1 a mA/\∀f,Ik (fs.lookup f) (mA f)
 | .rng lo hi=>∃ t u v,h.get? a=some {cls:=.type "range",data:=.fields #[.int lo t, .int hi u, .int 1 v]}
 | .frz o u=>h.get? a=some o/\YT H h a u
 | .tbl ps=>h.get? a=some {cls:=.none,data:=.fields ps}
 | .met f x=>h.get? a=some (W.methodObj (.ref f) (.ref x))
 | .ext φ=>φ h/\(∃o,h.get? a=some o)/\∀h1 h2:Heap,φ h1->(∀o,h1.get? a=some o->h2.get? a=some o)->φ h2
def HOk (H:Hp)(h:Heap):Prop:=∀ a o,H a=some o->YT P w H h a o
end
section
variable {H H':Hp}{h:Heap}{o:HO}
def YT.lt (x:YT P w H h a o):a<h.objs.size:=by
 cases o with
 |lst xs=>obtain⟨_,_,_,_,e⟩:=x;exact Heap.lt_size e
 |tup xs=>obtain⟨_,_,_,p⟩:=x;exact p.t.lt
 |dK kvs=>obtain⟨_,_,_,_,o,_,_,e,_⟩:=x;exact Heap.lt_size e
 |dT kvs=>obtain⟨_,_,_,_,o,_,_,e,_⟩:=x;exact Heap.lt_size e
 |set S n=>obtain⟨o,_,_,_,e,_⟩:=x;exact Heap.lt_size e
 |ins C dx fs=>obtain⟨_,_,_,e,_⟩:=x;exact Heap.lt_size e
 |own y=>obtain⟨_,e⟩:=x;exact Heap.lt_size e
 |xd fs=>obtain⟨_,⟨_,_,_,e,_⟩,_⟩:=x;exact Heap.lt_size e
 |rng lo hi=>obtain⟨_,_,_,e⟩:=x;exact Heap.lt_size e
 |frz ob u=>obtain⟨e,_⟩:=x;exact Heap.lt_size e
 |tbl ps=>exact Heap.lt_size (show h.get? a=some _ from x)
 |met f y=>exact Heap.lt_size (show h.get? a=some _ from x)
 |ext φ=>obtain⟨_,⟨_,e⟩,_⟩:=x;exact Heap.lt_size e
def Paired.mapP:∀{l₁:List M}{l₂:List L},Paired F l₁ l₂->(∀a b,F a b->G a b)->Paired G l₁ l₂:=λp f=>by
 induction p with
 |nil=>exact .nil
 |cons r _ ih=>exact .cons (f _ _ r) ih
def YT.stay (x:YT P w H h a o)(k:∀b u,(b=a∨H b=some (.own a))->h.get? b=some u->h'.get? b=some u)
  (ho:∀b,H b=some (.own a)->H' b=some (.own a))(ht:∀b xs,H b=some (.tup xs)->H' b=some (.tup xs)):YT P w H' h' a o:=by
 induction o with
 |lst xs=>obtain⟨z,its,n,r,e⟩:=x;exact⟨z,its,n,r,k _ _ (.inl rfl) e⟩
 |tup xs=>obtain⟨z,its,r,ob,e,c⟩:=x;exact⟨z,its,r,ob,k _ _ (.inl rfl) e,c⟩
 |dK kvs=>obtain⟨z,y,vs,r,ob,es,ep,e,c⟩:=x;exact⟨z,y,vs,r,ob,es,ep,k _ _ (.inl rfl) e,c⟩
 |dT kvs=>
  obtain⟨z,y,xs,r,ob,es,ep,e,c⟩:=x
  exact⟨z,y,xs,Paired.mapP r λp q z=>⟨z.1,ht _ _ z.2.1,z.2.2⟩,ob,es,ep,k _ _ (.inl rfl) e,c⟩
 |set S n=>obtain⟨ob,es,ep,t,e,c⟩:=x;exact⟨ob,es,ep,t,k _ _ (.inl rfl) e,c⟩
 |ins C dx fs=>
  obtain⟨d,z,ne,e,mA,⟨od,es,ep,e2,c⟩,r⟩:=x
  exact⟨ho _ d,z,ne,k _ _ (.inl rfl) e,mA,⟨od,es,ep,k _ _ (.inr d) e2,c⟩,r⟩
 |own y=>obtain⟨ob,e⟩:=x;exact⟨ob,k _ _ (.inl rfl) e⟩
 |xd fs=>obtain⟨mA,⟨od,es,ep,e,c⟩,r⟩:=x;exact⟨mA,⟨od,es,ep,k _ _ (.inl rfl) e,c⟩,r⟩
 |rng lo hi=>obtain⟨t,u,v,e⟩:=x;exact⟨t,u,v,k _ _ (.inl rfl) e⟩
 |frz ob u ih=>obtain⟨e,q⟩:=x;exact⟨k _ _ (.inl rfl) e,ih q⟩
 |tbl ps=>
  have e:h.get? a=some {cls:=.none,data:=.fields ps}:=x
  show h'.get? a=some {cls:=.none,data:=.fields ps}
  exact k a _ (.inl rfl) e
 |met f y=>
  have e:h.get? a=some (W.methodObj (.ref f) (.ref y)):=x
  show h'.get? a=some (W.methodObj (.ref f) (.ref y))
  exact k a _ (.inl rfl) e
 |ext φ=>obtain⟨p,⟨o,e⟩,st⟩:=x;exact⟨st _ _ p λo q=>k _ _ (.inl rfl) q,⟨o,k _ _ (.inl rfl) e⟩,st⟩
def HOk.lt (x:HOk P w H h)(e:H a=some o):a<h.objs.size:=(x a o e).lt
def HOk.fresh (x:HOk P w H h)(e:h.objs.size<=a):H a=none:=by
 cases q:H a with
 |none=>rfl
 |some u=>exact absurd (Nat.lt_of_lt_of_le (x.lt q) e) (Nat.lt_irrefl _)
def HOk.kept (x:HOk P w H h)(k:∀b u,h.get? b=some u->h'.get? b=some u):HOk P w H h':=λa o e=>
 (x a o e).stay (λb u _ q=>k b u q) (λ_ q=>q) λ_ _ q=>q
def HOk.laid (x:HOk P w H h)(k:∀b u,h.get? b=some u->h'.get? b=some u)(hp:h.objs.size<=a)(new:YT P w (upd H a o) h' a o):HOk P w (upd H a o) h':=λb u e=>by
 have hn:=x.fresh hp
 by_cases hb:b=a
 ·subst hb;rw[Ym] at e;cases e;exact new
 ·rw[XH hb] at e
  exact(x b u e).stay (λc v _ q=>k c v q) (λc q=>by rw[XH (XR q hn)];exact q) λc xs q=>by rw[XH (XR q hn)];exact q
end
def Rd (H:Hp)(a:Addr)(u:HO):Prop:=H a=some u∨∃o,H a=some (.frz o u)
def Rd.ok {u:HO}(r:Rd H a u)(x:HOk P w H h):YT P w H h a u:=by
 rcases r with r | ⟨o,r⟩
 ·exact x a u r
 ·obtain⟨_,q⟩:=x a _ r
  exact q
def Mut:Option HO->Prop
 |some (.lst _)=>True
 |some (.dK _)=>True
 |some (.dT _)=>True
 |some (.set _ _)=>True
 |some (.ins _ _ _)=>True
 |some (.ext _)=>True
 |_=>False
section
variable {H:Hp}{h:Heap}{x e:Addr}{o':HO}
def HOk.write (ok:HOk P w H h)(mu:Mut (H x))(he:e=x∨H e=some (.own x))(k:∀b u,b≠e->h.get? b=some u->h'.get? b=some u)(ij:∃u,h'.get? e=some u)
  (new:YT P w (upd H x o') h' x o'):HOk P w (upd H x o') h':=λb u q=>by
 have iS:∀c y,H c=some (.own y)->c≠x:=λc y r z=>by subst z;rw[r] at mu;exact mu
 have ntup:∀c xs,H c=some (.tup xs)->c≠x:=λc xs r z=>by subst z;rw[r] at mu;exact mu
 by_cases hb:b=x
 ·subst hb;rw[Ym] at q;cases q;exact new
 ·rw[XH hb] at q
  by_cases gA:b=e
  ·have q':H b=some (.own x):=by
    rcases he with z |z
    ·exact absurd (gA.trans z) hb
    ·rw[gA];exact z
   rw[q] at q';cases q'
   obtain⟨v,hv⟩:=ij
   exact⟨v,by rw[gA];exact hv⟩
  ·refine(ok b u q).stay (λc v hc r=>k c v ?_ r) (λc r=>by rw[XH (iS c b r)];exact r) λc xs r=>by rw[XH (ntup c xs r)];exact r
   rcases hc with rfl |hc
   ·exact gA
   ·rintro rfl
    rcases he with z |z
    ·exact iS c b hc z
    ·rw[hc] at z;cases z;exact hb rfl
end
structure Un (fs ex:List Addr)(H H':Hp)(h h':Heap):Prop where
 keep:∀b o,h.get? b=some o->H b=none->b∉fs->b∉ex->h'.get? b=some o
 slot:∀b o,h.get? b=some o->H b=none->b∈fs->b∉ex->∃sl,h'.get? b=some {o with slots:=sl}
 free:∀b o,h.get? b=some o->H b=none->b∉ex->H' b=none
 there:∀b o,h.get? b=some o->b∉ex->∃o',h'.get? b=some o'
 tups:∀b xs,H b=some (.tup xs)->H' b=some (.tup xs)
 frzs:∀b o u,H b=some (.frz o u)->H' b=some (.frz o u)
 tbls:∀b ps,H b=some (.tbl ps)->∃more,H' b=some (.tbl (ps++more))
section
variable {fs fs' ex ik:List Addr}{H H1 H2:Hp}{h h1 h2:Heap}{x e:Addr}{o:HO}
def Un.any (u:Un fs ex H H1 h h1)(q:h.get? b=some ob)(n:H b=none)(hx:b∉ex):∃sl,h1.get? b=some {ob with slots:=sl}:=by
 by_cases hb:b∈fs
 ·exact u.slot b ob q n hb hx
 ·exact⟨ob.slots,u.keep b ob q n hb hx⟩
def Un.kept (k:∀b u,h.get? b=some u->h'.get? b=some u):Un fs ex H H h h':=
 ⟨λb ob q _ _ _=>k b ob q,λb ob q _ _ _=>⟨ob.slots,k b ob q⟩,λ_ _ _ n _=>n,λb ob q _=>⟨ob,k b ob q⟩,λ_ _ q=>q,λ_ _ _ q=>q,λ_ ps q=>⟨#[],by rw[q];simp⟩⟩
def Un.refl:Un fs ex H H h h:=Un.kept λ_ _ q=>q
def Un.laid (k:∀b u,h.get? b=some u->h'.get? b=some u)(hp:h.objs.size<=a)(hn:H a=none):Un fs ex H (upd H a o) h h' where
 keep:=λb u q _ _ _=>k b u q
 slot:=λb u q _ _ _=>⟨u.slots,k b u q⟩
 free:=λb u q n _=>by rw[XH (Nat.ne_of_lt (Nat.lt_of_lt_of_le (Heap.lt_size q) hp))];exact n
 there:=λb u q _=>⟨u,k b u q⟩
 tups:=λb xs q=>by rw[XH (XR q hn)];exact q
 frzs:=λb u xs q=>by rw[XH (XR q hn)];exact q
 tbls:=λb ps q=>⟨#[],by rw[XH (XR q hn),q];simp⟩
def Un.write (mu:Mut (H x))(he:e=x∨H e=some (.own x))(k:∀b u,b≠e->h.get? b=some u->h'.get? b=some u)(ij:∃u,h'.get? e=some u):Un fs ex H (upd H x o) h h':=by
 have hx:∀b,H b=none->b≠x:=λb n z=>by subst z;rw[n] at mu;exact mu
 have hb:∀b,H b=none->b≠e:=λb n z=>by
  subst z
  rcases he with r |r
  ·exact hx b n r
  ·rw[n] at r;cases r
 have hm:∀b u,H b=some u->¬Mut (some u)->b≠x:=λb u q nm z=>by subst z;rw[q] at mu;exact nm mu
 refine⟨λb u q n _ _=>k b u (hb b n) q,λb u q n _ _=>⟨u.slots,k b u (hb b n) q⟩,λb u q n _=>by rw[XH (hx b n)];exact n,λb u q _=>?_,
  λb xs q=>by rw[XH (hm b _ q λz=>z)];exact q,λb u xs q=>by rw[XH (hm b _ q λz=>z)];exact q,λb ps q=>⟨#[],by rw[XH (hm b _ q λz=>z),q];simp⟩⟩
 by_cases gA:b=e
 ·subst gA;exact ij
 ·exact⟨u,k b u gA q⟩
end
def trk (h:Heap)(H:Hp):List Addr:=(List.range h.objs.size).filter λa=>(H a).isSome
def N5 (h:Heap)(H:Hp):Heap:=PySem.W.hideAll h (trk h H)
def Np (h:Heap)(H:Hp):(N5 h H).objs.size=h.objs.size:=PySem.W.hideAll_size _ _
def OI (e:h.get? b=some o)(n:H b=none):(N5 h H).get? b=some o:=
 PySem.W.hideAll_get _ e λhm=>by
  have q:(H b).isSome=true:=(List.mem_filter.mp hm).2
  rw[n] at q;simp at q
def RV (e:(N5 h H).get? b=some o):h.get? b=some o/\H b=none:=by
 have e':h.get? b=some o:=PySem.W.of_hideAll (trk h H) e
 refine⟨e',?_⟩
 cases q:H b with
 |none=>rfl
 |some x=>
  have hm:b∈trk h H:=List.mem_filter.mpr ⟨List.mem_range.mpr (Heap.lt_size e'),by simp[q]⟩
  have z:(N5 h H).get? b=none:=PySem.W.hideAll_none (trk h H) hm
  rw[z] at e;cases e
def Sy (g h:Heap)(Lqz:Addr):List (Addr×Obj):=(List.range h.objs.size).filterMap λa=>if a=Lqz∨(g.get? a).isSome=true then none else(h.get? a).map λo=>(a,o)
def ZI (g h:Heap)(Lqz d:Addr):List (Addr×Obj):=(Sy g h Lqz).filter λp=>decide (p.1≠d)
structure Mod (K:W.Frag)(mg:Str->Option Value)(base:Heap):Prop where
 kin:K.In base
 glob:base.Ns mainGlobals mg
 blt:∃mb,base.Ns builtinsNs mb/\∀x:Str,x≠ "__name__" ->mb x=bootBuiltins x
 nolimit:base.NoLimit
structure Cx where
 prog:Program
 w:World
 K:W.Frag
 mg:Str->Option Value
 base:Heap
 A:Around
 N:List Str
 s₀:Shared
 H₀:Hp
 env:Env
 outer:List Env
 stack:List Env
 ex:List Addr
 fn:Str->Bool
 calm:Bool
 pn:List (Addr×Obj)
 xe:Value->Shared->Prop
def frs (l:List Env):List Addr:=l.filterMap (·.frame)
abbrev Cx.fs (X:Cx):List Addr:=frs X.outer
def Vis (sc:Scope)(x:Str):Prop:=sc.names.lookup x=some .local∨sc.names.lookup x=some .cell∨sc.names.lookup x=some .free
def Loc (sc:Scope)(x:Str):Prop:=sc.names.lookup x=some .local∨sc.names.lookup x=some .cell
def jC (env:Env)(h:Heap)(m:Str->Option Value)(x:Str)(u:Value):Prop:=
 (env.kindOf x=some .local/\m x=some u)∨((env.kindOf x=some .cell∨env.kindOf x=some .free)/\∃c,env.cells.lookup x=some c/\h.IsCell c (some u))
structure Cx.Ok (X:Cx):Prop where
 mod:Mod X.K X.mg X.base
 kind:X.env.scope.kind= .function
 glob:X.env.globals=mainGlobals
 blt:X.env.builtins=builtinsNs
 above:X.s₀.heap.objs.size<=X.env.locals
 inj:∀x y c,X.env.cells.lookup x=some c->X.env.cells.lookup y=some c->x=y
 has:∀x,(X.env.kindOf x=some .cell∨X.env.kindOf x=some .free)->∃c,X.env.cells.lookup x=some c
 cab:∀x c,X.fn x=true->X.env.cells.lookup x=some c->X.s₀.heap.objs.size<=c
 hd:X.calm=true->X.A.handled=none
 frames:X.A.frames=some X.stack
 stk:X.stack=X.outer∨(X.stack=X.env::X.outer/\X.env.frame=some X.env.locals)
 exf:∀b∈X.ex,b≠X.env.locals/\∀x c,X.env.cells.lookup x=some c->c≠b
 bs:∀b o,X.base.get? b=some o->X.s₀.heap.get? b=some o/\X.H₀ b=none
 bsz:X.base.objs.size<=X.s₀.heap.objs.size
 noex:∀b o,X.base.get? b=some o->b∉X.ex
 exfs:∀b∈X.ex,b∉X.fs
 funs:X.s₀.heap.FunFrames X.base X.outer
 frf:∀b∈X.fs,X.H₀ b=none
structure Inv (X:Cx)(aa:List (Addr×Obj))(U:List (Option V))(H:Hp)(s:Shared):Prop where
 ok:X.Ok
 os:s.os=X.s₀.os
 bare:AllBare s.gens
 base:Un X.fs X.ex X.H₀ H X.s₀.heap s.heap
 loc:∃m,s.heap.Ns X.env.locals m/\∀(i:Nat) (x:Str) (v:V),X.N[i]?=some x->U[i]?=some (some v)->Vis X.env.scope x->∃u,XW v u/\jC X.env s.heap m x u
 cell:∀x c,X.env.cells.lookup x=some c->∃v,s.heap.IsCell c v
 free:H X.env.locals=none
 freeC:∀x c,X.env.cells.lookup x=some c->H c=none
 pin:∀p∈X.pn++aa,s.heap.get? p.1=some p.2/\H p.1=none/\p.1≠X.env.locals/\p.1∉X.fs/\∀v,p.2.data≠ .cell v
 hok:HOk X.prog X.w H s.heap
 len:U.length=X.N.length
section
variable {X:Cx}{U:List (Option V)}{H H':Hp}
def Cx.Ok.nofr (ok:X.Ok)(e:X.base.get? b=some o):b∉X.fs:=λhb=>by
 have:=(ok.funs.mem hb).1
 rw[e] at this;cases this
def Inv.bs (I:Inv X aa U H s):∀b o,X.base.get? b=some o->s.heap.get? b=some o/\H b=none:=λb o e=>
 ⟨I.base.keep b o (I.ok.bs b o e).1 (I.ok.bs b o e).2 (I.ok.nofr e) (I.ok.noex b o e),I.base.free b o (I.ok.bs b o e).1 (I.ok.bs b o e).2 (I.ok.noex b o e)⟩
def Inv.bk (I:Inv X aa U H s):∀b o,X.base.get? b=some o->s.heap.get? b=some o:=λb o e=>(I.bs b o e).1
def Inv.mod (I:Inv X aa U H s):Mod X.K X.mg X.base:=I.ok.mod
def Inv.kIn (I:Inv X aa U H s):X.K.In s.heap:=I.ok.mod.kin.keeps I.bk
def Inv.lt (I:Inv X aa U H s):X.env.locals<s.heap.objs.size:=let ⟨_,hn,_⟩:=I.loc;hn.lt
def Inv.sz (I:Inv X aa U H s):X.s₀.heap.objs.size<=s.heap.objs.size:=Nat.le_trans I.ok.above (Nat.le_of_lt I.lt)
def Inv.nofs (I:Inv X aa U H s)(h:s.heap.objs.size<=a):a∉X.fs:=λhb=>by
 obtain⟨_,o,ho,_⟩:=I.ok.funs.mem hb
 exact absurd (Nat.lt_of_lt_of_le (Heap.lt_size ho) (Nat.le_trans I.sz h)) (Nat.lt_irrefl _)
def Inv.cne (I:Inv X aa U H s):∀x c,X.env.cells.lookup x=some c->c≠X.env.locals:=λx c e z=>by
 obtain⟨v,o,ho,hd⟩:=I.cell x c e
 obtain⟨m,⟨o',es,ep,cN,hd',_⟩,_⟩:=I.loc
 rw[z,cN] at ho;cases ho;rw[hd'] at hd;cases hd
def Inv.funs (I:Inv X aa U H s):s.heap.FunFrames X.base X.outer:=by
 have all:∀(l:List Env),(∀b∈frs l,b∈X.fs)->X.s₀.heap.FunFrames X.base l->s.heap.FunFrames X.base l:=by
  intro l
  induction l with
  |nil=>intro _ _;trivial
  |cons env r ih=>
   intro hs hl
   obtain⟨hk,⟨Lqz,o,hf,hn,ho,hd⟩,hr⟩:=hl
   have hL:Lqz∈X.fs:=hs Lqz (by unfold frs;rw[List.filterMap_cons,hf];exact List.mem_cons_self)
   obtain⟨sl,e⟩:=I.base.slot Lqz o ho (I.ok.frf Lqz hL) hL λz=>I.ok.exfs Lqz z hL
   exact⟨hk,⟨Lqz,_,hf,hn,e,hd⟩,ih (λb hb=>hs b (by unfold frs;rw[List.filterMap_cons,hf];exact List.mem_cons_of_mem _ hb)) hr⟩
 exact all X.outer (λ_ hb=>hb) I.ok.funs
def Inv.stack (I:Inv X aa U H s):s.heap.FunFrames X.base X.stack:=by
 rcases I.ok.stk with e | ⟨e,hf⟩
 ·rw[e];exact I.funs
 ·rw[e]
  obtain⟨m,hn,_⟩:=I.loc
  refine .cons (by rw[I.ok.kind];decide) hf hn ?_ I.funs
  exact Heap.get?_none_of_le (Nat.le_trans I.ok.bsz I.ok.above)
def Inv.stkSub (I:Inv X aa U H s):∀b∈frs X.stack,b∈X.env.locals::X.fs:=λb hb=>by
 rcases I.ok.stk with e | ⟨e,hf⟩
 ·rw[e] at hb;exact List.mem_cons_of_mem _ hb
 ·rw[e] at hb
  unfold frs at hb
  rw[List.filterMap_cons,hf] at hb
  exact hb
def Inv.stkFree (I:Inv X aa U H s):∀b∈frs X.stack,H b=none:=λb hb=>by
 rcases List.mem_cons.mp (I.stkSub b hb) with e |hb
 ·rw[e];exact I.free
 ·obtain⟨_,o,ho,_⟩:=I.ok.funs.mem hb
  exact I.base.free b o ho (I.ok.frf b hb) λz=>I.ok.exfs b z hb
def Inv.step {g':Array GenState}{t':Nat}{d':Drawn}{ch:List Addr}(I:Inv X aa U H s)
  (fj:∀b∈ch,(b∈X.ex∨X.s₀.heap.objs.size<=b)/\b≠X.env.locals/\(∀x c,X.env.cells.lookup x=some c->c≠b)/\∀p∈X.pn++aa,p.1≠b)
  (keep:∀b o,b≠X.env.locals->b∉X.fs->b∉ch->s.heap.get? b=some o->H b=none->h'.get? b=some o)
  (slot:∀b o,b≠X.env.locals->b∈X.fs->b∉ch->s.heap.get? b=some o->H b=none->∃sl,h'.get? b=some {o with slots:=sl})(free:∀b o,b∉ch->s.heap.get? b=some o->H b=none->H' b=none)
  (there:∀b o,b∉ch->s.heap.get? b=some o->∃o',h'.get? b=some o')
  (tups:∀b xs,H b=some (.tup xs)->H' b=some (.tup xs))(frzs:∀b o u,H b=some (.frz o u)->H' b=some (.frz o u))(tbls:∀b ps,H b=some (.tbl ps)->∃more,H' b=some (.tbl (ps++more)))
  (ns:∀m,s.heap.Ns X.env.locals m->h'.Ns X.env.locals m)(hok:HOk X.prog X.w H' h')(hg:AllBare g'):
  Inv X aa U H' {s with heap:=h',gens:=g',drawn:=d',toks:=t'}:=by
 have neL:∀b o,X.s₀.heap.get? b=some o->b≠X.env.locals:=λb o e=>Nat.ne_of_lt (Nat.lt_of_lt_of_le (Heap.lt_size e) I.ok.above)
 have neC:∀b o,X.s₀.heap.get? b=some o->b∉X.ex->b∉ch:=λb o e hx hb=>by
  rcases(fj b hb).1 with z |z
  ·exact hx z
  ·exact absurd (Nat.lt_of_lt_of_le (Heap.lt_size e) z) (Nat.lt_irrefl _)
 have f8:∀x c,X.env.cells.lookup x=some c->∀v,s.heap.IsCell c v->h'.IsCell c v:=λx c e v ⟨o,ho,hd⟩=>by
  have iT:c∉ch:=λz=>(fj c z).2.2.1 x c e rfl
  by_cases hc:c∈X.fs
  ·obtain⟨sl,q⟩:=slot c o (I.cne x c e) hc iT ho (I.freeC x c e)
   exact⟨_,q,hd⟩
  ·exact⟨o,keep c o (I.cne x c e) hc iT ho (I.freeC x c e),hd⟩
 refine⟨I.ok,I.os,hg,⟨λb o e n hb hx=>?_,λb o e n hb hx=>?_,λb o e n hx=>?_,λb o e hx=>?_,λb xs e=>tups b xs (I.base.tups b xs e),λb o xs e=>frzs b o xs (I.base.frzs b o xs e),λb ps e=>?_⟩,?_,λx c e=>?_,?_,λx c e=>?_,λp hp=>?_,hok,I.len⟩
 ·exact keep b o (neL b o e) hb (neC b o e hx) (I.base.keep b o e n hb hx) (I.base.free b o e n hx)
 ·obtain⟨sl,e1⟩:=I.base.slot b o e n hb hx
  obtain⟨sl',e2⟩:=slot b _ (neL b o e) hb (neC b o e hx) e1 (I.base.free b o e n hx)
  exact⟨sl',e2⟩
 ·obtain⟨o',e1⟩:=I.base.there b o e hx
  exact free b o' (neC b o e hx) e1 (I.base.free b o e n hx)
 ·obtain⟨o',e1⟩:=I.base.there b o e hx
  exact there b o' (neC b o e hx) e1
 ·obtain⟨m1,e1⟩:=I.base.tbls b ps e
  obtain⟨m2,e2⟩:=tbls b _ e1
  exact⟨m1++m2,by rw[e2,Array.append_assoc]⟩
 ·obtain⟨m,hn,hl⟩:=I.loc
  refine⟨m,ns m hn,λi x v e1 e2 e3=>?_⟩
  obtain⟨u,r,l⟩:=hl i x v e1 e2 e3
  refine⟨u,r,?_⟩
  rcases l with l | ⟨k,c,e,z⟩
  ·exact .inl l
  ·exact .inr ⟨k,c,e,f8 x c e _ z⟩
 ·obtain⟨v,z⟩:=I.cell x c e
  exact⟨v,f8 x c e v z⟩
 ·obtain⟨m,⟨o,_,_,ho,_⟩,_⟩:=I.loc
  exact free _ o (λz=>(fj _ z).2.1 rfl) ho I.free
 ·obtain⟨v,o,ho,hd⟩:=I.cell x c e
  exact free c o (λz=>(fj c z).2.2.1 x c e rfl) ho (I.freeC x c e)
 ·obtain⟨e,n,ne,nf,d⟩:=I.pin p hp
  have iT:p.1∉ch:=λz=>(fj p.1 z).2.2.2 p hp rfl
  exact⟨keep p.1 p.2 ne nf iT e n,free p.1 p.2 iT e n,ne,nf,d⟩
def Inv.un {t':Nat}(I:Inv X aa U H s)(u:Un X.fs [] H H' s.heap h')(hok:HOk X.prog X.w H' h'):Inv X aa U H' {s with heap:=h',toks:=t'}:=by
 obtain⟨m,⟨o,es,ep,ho,r⟩,_⟩:=id I.loc
 obtain⟨sl,hL⟩:=u.any ho I.free (by simp)
 exact I.step (g':=s.gens) (d':=s.drawn) (ch:=[]) (λ_ z=>nomatch z) (λb o _ hb _ e n=>u.keep b o e n hb (by simp)) (λb o _ hb _ e n=>u.slot b o e n hb (by simp)) (λb o _ e n=>u.free b o e n (by simp)) (λb o _ e=>u.there b o e (by simp)) u.tups u.frzs u.tbls (λm' hm=>by
  obtain⟨o',es',ep',cN,r'⟩:=hm
  rw[ho] at cN;cases cN
  exact⟨_,es',ep',hL,r'⟩) hok I.bare
def Inv.call {g':Array GenState}{t':Nat}{d':Drawn}{ch:List Addr}(I:Inv X aa U H s)(u:Un (frs X.stack) ch H H' s.heap h')(hok:HOk X.prog X.w H' h')(hg:AllBare g')
  (fj:∀b∈ch,(b∈X.ex∨X.s₀.heap.objs.size<=b)/\b≠X.env.locals/\(∀x c,X.env.cells.lookup x=some c->c≠b)/\∀p∈X.pn++aa,p.1≠b):
  Inv X aa U H' {s with heap:=h',gens:=g',drawn:=d',toks:=t'}:=by
 obtain⟨m,⟨o,es,ep,ho,r⟩,_⟩:=id I.loc
 obtain⟨sl,hL⟩:=u.any ho I.free λz=>(fj _ z).2.1 rfl
 exact I.step (ch:=ch) fj (λb o hL hb hc e n=>u.keep b o e n (λz=>(List.mem_cons.mp (I.stkSub b z)).elim hL hb) hc) (λb o _ _ hc e n=>u.any e n hc) (λb o hc e n=>u.free b o e n hc) (λb o hc e=>u.there b o e hc) u.tups u.frzs u.tbls (λm' hm=>by
  obtain⟨o',es',ep',cN,r'⟩:=hm
  rw[ho] at cN;cases cN
  exact⟨_,es',ep',hL,r'⟩) hok hg
def Inv.turned {t':Nat}{it:Addr}(I:Inv X aa U H s)(k:∀b o,b≠it->s.heap.get? b=some o->h'.get? b=some o)(hn:H it=none)(hL:it≠X.env.locals)
  (h1:it∈X.ex∨X.s₀.heap.objs.size<=it)(h2:∀x c,X.env.cells.lookup x=some c->c≠it)(h3:∀p∈X.pn++aa,p.1≠it):Inv X aa U H {s with heap:=h',toks:=t'}:=by
 have f9:∀b u,H b=some u->b≠it:=λb u e z=>by rw[z,hn] at e;cases e
 refine I.step (g':=s.gens) (d':=s.drawn) (ch:=[it]) (λb hb=>?_) (λb o _ _ hc e _=>k b o (λz=>hc (by simp[z])) e) (λb o _ _ hc e _=>⟨o.slots,k b o (λz=>hc (by simp[z])) e⟩) (λ_ _ _ _ n=>n)
  (λb o hc e=>⟨o,k b o (λz=>hc (by simp[z])) e⟩) (λ_ _ e=>e) (λ_ _ _ e=>e) (λb ps e=>⟨#[],by rw[e];simp⟩) (λm hm=>?_) (λb u e=>?_) I.bare
 ·have e:b=it:=by simpa using hb
  subst e
  exact⟨h1,hL,h2,h3⟩
 ·obtain⟨o,es,ep,ho,r⟩:=hm
  exact⟨o,es,ep,k _ o (Ne.symm hL) ho,r⟩
 ·refine(I.hok b u e).stay (λc v hc q=>k c v ?_ q) (λ_ q=>q) λ_ _ q=>q
  rcases hc with z |z
  ·rw[z];exact f9 b u e
  ·exact f9 c _ z
def Inv.tok (I:Inv X aa U H s)(t:Nat):Inv X aa U H {s with toks:=t}:=I.un (h':=s.heap) (t':=t) Un.refl I.hok
def Inv.kept {t':Nat}(I:Inv X aa U H s)(k:∀b u,s.heap.get? b=some u->h'.get? b=some u):Inv X aa U H {s with heap:=h',toks:=t'}:=I.un (Un.kept k) (I.hok.kept k)
def Inv.laid {t':Nat}(I:Inv X aa U H s)(k:∀b u,s.heap.get? b=some u->h'.get? b=some u)(hp:s.heap.objs.size<=a)(new:YT X.prog X.w (upd H a o) h' a o):
  Inv X aa U (upd H a o) {s with heap:=h',toks:=t'}:=I.un (Un.laid k hp (I.hok.fresh hp)) (I.hok.laid k hp new)
def Inv.write {x e:Addr}{t':Nat}(I:Inv X aa U H s)(mu:Mut (H x))(he:e=x∨H e=some (.own x))(k:∀b u,b≠e->s.heap.get? b=some u->h'.get? b=some u)(ij:∃u,h'.get? e=some u)
  (new:YT X.prog X.w (upd H x o) h' x o):Inv X aa U (upd H x o) {s with heap:=h',toks:=t'}:=I.un (Un.write mu he k ij) (I.hok.write mu he k ij new)
def Inv.weak (I:Inv X aa U H s)(hl:U'.length=U.length)(w:∀(i:Nat) v,U'[i]?=some (some v)->U[i]?=some (some v)):Inv X aa U' H s:=
 ⟨I.ok,I.os,I.bare,I.base,let ⟨m,hn,iU⟩:=I.loc;⟨m,hn,λi x v e1 e2 e3=>iU i x v e1 (w i v e2) e3⟩,I.cell,I.free,I.freeC,I.pin,I.hok,hl.trans I.len⟩
def Inv.pins_of (I:Inv X aa U H s)(h:∀p∈pins',s.heap.get? p.1=some p.2/\H p.1=none/\p.1≠X.env.locals/\p.1∉X.fs/\∀v,p.2.data≠ .cell v):Inv X pins' U H s:=
 ⟨I.ok,I.os,I.bare,I.base,I.loc,I.cell,I.free,I.freeC,λp hp=>(List.mem_append.mp hp).elim (λz=>I.pin p (List.mem_append_left _ z)) (h p),I.hok,I.len⟩
def Hk (hN:N.Nodup)(a:N[i]?=some x)(b:N[j]?=some x):i=j:=by
 obtain⟨h1,e1⟩:=List.getElem?_eq_some_iff.mp a
 obtain⟨h2,e2⟩:=List.getElem?_eq_some_iff.mp b
 exact(List.getElem_inj hN).mp (e1.trans e2.symm)
def DX {Q:Unit->Shared->Prop}(I:Inv X aa U H s)(hN:X.N.Nodup)(hi:X.N[i]?=some x)(hx:Loc X.env.scope x)(r:XW v u)
  (h:∀s',Inv X aa (U.set i (some v)) H s'->(∃a,Heap.SameBut a s.heap s'.heap/\(a=X.env.locals∨X.env.cells.lookup x=some a))->Q () s')(hf:X.fn x=true∨X.env.scope.names.lookup x=some .local:=by first |exact .inl rfl |exact .inr rfl |assumption):wpAny Mqz A (storeName X.env x u) Q E s:=by
 obtain⟨m,hn,hl⟩:=id I.loc
 have hcls:(X.env.scope.kind== .class || (X.env.scope.kind== .module&&X.env.locals !=X.env.globals))=false:=by rw[I.ok.kind];rfl
 have hiσ:i<U.length:=by rw[I.len];exact(List.getElem?_eq_some_iff.mp hi).1
 have cne:=I.cne
 have cA:∀{a:Addr}{h':Heap},(∃o,s.heap.get? a=some o/\H a=none)->Heap.SameBut a s.heap h'->HOk X.prog X.w H h':=fun {a h'} ha hs b ob e=>by
  obtain⟨_,_,cr⟩:=ha
  refine(I.hok b ob e).stay (λc w' hc q=>(hs.2 c ?_).trans q) (λ_ q=>q) λ_ _ q=>q
  rintro rfl
  rcases hc with rfl |hc
  ·rw[cr] at e;cases e
  ·rw[cr] at hc;cases hc
 rcases hx with hk |hk
 ·refine wpAny_storeName_local hk hn (λh' hn' hs=>?_) hcls
  obtain⟨oL,_,_,iV,_⟩:=id hn
  refine h _ ⟨I.ok,I.os,I.bare,⟨λb o e n hb hx=>?_,λb o e n hb hx=>?_,I.base.free,λb o e hx=>?_,I.base.tups,I.base.frzs,I.base.tbls⟩,⟨_,hn',λj y v' e1 e2 e3=>?_⟩,λy c e=>?_,I.free,I.freeC,λp hp=>?_,cA ⟨oL,iV,I.free⟩ hs,by simpa using I.len⟩ ⟨_,hs, .inl rfl⟩
  ·exact(hs.2 b (Nat.ne_of_lt (Nat.lt_of_lt_of_le (Heap.lt_size e) I.ok.above))).trans (I.base.keep b o e n hb hx)
  ·obtain⟨sl,e1⟩:=I.base.slot b o e n hb hx
   exact⟨sl,(hs.2 b (Nat.ne_of_lt (Nat.lt_of_lt_of_le (Heap.lt_size e) I.ok.above))).trans e1⟩
  ·obtain⟨o',e1⟩:=I.base.there b o e hx
   exact⟨o',(hs.2 b (Nat.ne_of_lt (Nat.lt_of_lt_of_le (Heap.lt_size e) I.ok.above))).trans e1⟩
  ·by_cases hj:j=i
   ·subst hj
    rw[hi] at e1;cases e1
    rw[List.getElem?_set_self hiσ] at e2
    cases e2
    exact⟨u,r, .inl ⟨hk,by simp⟩⟩
   ·rw[List.getElem?_set_ne (Ne.symm hj)] at e2
    obtain⟨u',r',q⟩:=hl j y v' e1 e2 e3
    refine⟨u',r',?_⟩
    rcases q with⟨k,e⟩ | ⟨k,c,e,z⟩
    ·refine .inl ⟨k,?_⟩
     have:y≠x:=λe=>hj (Hk hN e1 (e▸hi))
     simp[this,e]
    ·exact .inr ⟨k,c,e,z.sameBut hs (cne y c e)⟩
  ·obtain⟨w',z⟩:=I.cell y c e
   exact⟨w',z.sameBut hs (cne y c e)⟩
  ·obtain⟨e,n,ne,nf,d⟩:=I.pin p hp
   exact⟨(hs.2 p.1 ne).trans e,n,ne,nf,d⟩
 ·have hfn:X.fn x=true:=by
   rcases hf with z |z
   ·exact z
   ·rw[z] at hk;cases hk
  obtain⟨c,hc⟩:=I.ok.has x (.inl hk)
  obtain⟨w',z⟩:=I.cell x c hc
  refine wpAny_storeName_cell I.ok.kind hk hc z (λh' eI hs=>?_)
  obtain⟨oc,hoc,hocd⟩:=id z
  refine h {s with heap:=h'} ⟨I.ok,I.os,I.bare,⟨λb o e n hb hx=>?_,λb o e n hb hx=>?_,I.base.free,λb o e hx=>?_,I.base.tups,I.base.frzs,I.base.tbls⟩,⟨m,hn.sameBut hs (Ne.symm (cne x c hc)),λj y v' e1 e2 e3=>?_⟩,λy c' e=>?_,I.free,I.freeC,λp hp=>?_,cA ⟨oc,hoc,I.freeC x c hc⟩ hs,by simpa using I.len⟩ ⟨c,hs, .inr hc⟩
  ·exact(hs.2 b (Nat.ne_of_lt (Nat.lt_of_lt_of_le (Heap.lt_size e) (I.ok.cab x c hfn hc)))).trans (I.base.keep b o e n hb hx)
  ·obtain⟨sl,e1⟩:=I.base.slot b o e n hb hx
   exact⟨sl,(hs.2 b (Nat.ne_of_lt (Nat.lt_of_lt_of_le (Heap.lt_size e) (I.ok.cab x c hfn hc)))).trans e1⟩
  ·obtain⟨o',e1⟩:=I.base.there b o e hx
   exact⟨o',(hs.2 b (Nat.ne_of_lt (Nat.lt_of_lt_of_le (Heap.lt_size e) (I.ok.cab x c hfn hc)))).trans e1⟩
  ·by_cases hj:j=i
   ·subst hj
    rw[hi] at e1;cases e1
    rw[List.getElem?_set_self hiσ] at e2
    cases e2
    exact⟨u,r, .inr ⟨.inl hk,c,hc,eI⟩⟩
   ·rw[List.getElem?_set_ne (Ne.symm hj)] at e2
    obtain⟨u',r',q⟩:=hl j y v' e1 e2 e3
    refine⟨u',r',?_⟩
    rcases q with q | ⟨k,c',e,z'⟩
    ·exact .inl q
    ·refine .inr ⟨k,c',e,z'.sameBut hs ?_⟩
     rintro rfl
     exact hj (Hk hN e1 (I.ok.inj _ _ _ e hc▸hi))
  ·by_cases hcc:c'=c
   ·subst hcc;exact⟨_,eI⟩
   ·obtain⟨w2,z2⟩:=I.cell y c' e
    exact⟨w2,z2.sameBut hs hcc⟩
  ·obtain⟨e,n,ne,nf,d⟩:=I.pin p hp
   refine⟨(hs.2 p.1 ?_).trans e,n,ne,nf,d⟩
   intro q
   rw[q,hoc] at e
   have q':oc=p.2:=Option.some.inj e
   exact d w' (by rw[←q'];exact hocd)
def Z6 {Q:Unit->Shared->Prop}(I:Inv X aa U H s)(hN:X.N.Nodup)(hi:X.N[i]?=some x)(hx:Loc X.env.scope x)(r:XW v u)
  (h:∀s',Inv X aa (U.set i (some v)) H s'->Q () s')(hf:X.fn x=true∨X.env.scope.names.lookup x=some .local:=by first |exact .inl rfl |exact .inr rfl |assumption):wpAny Mqz A (storeName X.env x u) Q E s:=
 DX I hN hi hx r (λs' I' _=>h s' I') hf
def Inv.call' (I:Inv X aa U H s)(ho:s'.os=s.os)(u:Un (frs X.stack) ch H H' s.heap s'.heap)(hok:HOk X.prog X.w H' s'.heap)(hg:AllBare s'.gens)
  (fj:∀b∈ch,(b∈X.ex∨X.s₀.heap.objs.size<=b)/\b≠X.env.locals/\(∀x c,X.env.cells.lookup x=some c->c≠b)/\∀p∈X.pn++aa,p.1≠b):Inv X aa U H' s':=by
 obtain⟨h',g',d',t',o'⟩:=s'
 have e:o'=s.os:=ho
 subst e
 exact I.call (g':=g') (t':=t') (d':=d') u hok hg fj
end
abbrev XK:=Value->Option Addr->Hp->Prop
abbrev St:=List (Option V)
abbrev VK:=V->Hp->Prop
abbrev TE:=St->Hp->VK->Prop
abbrev TT:=St->Hp->(Bool->Hp->Prop)->Prop
abbrev TA:=St->Hp->(List V->Hp->Prop)->Prop
structure Ends where
 nx:St->Hp->Prop
 rt:VK
 bk:St->Hp->Prop:=λ_ _=>False
 ct:St->Hp->Prop:=λ_ _=>False
abbrev TS:=Ends->St->Hp->Prop
def EP (X:Cx)(aa:List (Addr×Obj))(U:St)(Q:VK)(u:Value)(s':Shared):Prop:=∃ v H',Inv X aa U H' s'/\XW v u/\Q v H'
def TP (X:Cx)(aa:List (Addr×Obj))(U:St)(Q:Bool->Hp->Prop)(b:Bool)(s':Shared):Prop:=∃ H',Inv X aa U H' s'/\Q b H'
def AP (X:Cx)(aa:List (Addr×Obj))(U:St)(Q:List V->Hp->Prop)(us:List Value)(s':Shared):Prop:=∃ vs H',Inv X aa U H' s'/\XX vs us/\Q vs H'
def SP (X:Cx)(aa:List (Addr×Obj))(D:Ends)(f:Flow)(s':Shared):Prop:=
 match f with
 | .next=>∃ U' H',Inv X aa U' H' s'/\D.nx U' H'
 | .brk=>∃ U' H',Inv X aa U' H' s'/\D.bk U' H'
 | .cont=>∃ U' H',Inv X aa U' H' s'/\D.ct U' H'
 | .ret u=>∃ v U' H',Inv X aa U' H' s'/\XW v u/\D.rt v H'
def PE (X:Cx)(e:Expr)(t:TE):Prop:=
 ∀(aa:List (Addr×Obj)) (s:Shared) (U:St) (H:Hp) (Q:VK),Inv X aa U H s->t U H Q->wpAny (model X.prog X.w) X.A (eval e X.env) (EP X aa U Q) X.xe s
def PT (X:Cx)(e:Expr)(t:TT):Prop:=
 ∀(aa:List (Addr×Obj)) (s:Shared) (U:St) (H:Hp) (Q:Bool->Hp->Prop),Inv X aa U H s->t U H Q->wpAny (model X.prog X.w) X.A (isTrue e X.env (eval e X.env)) (TP X aa U Q) X.xe s
def PW (X:Cx)(e:Expr)(t:TT):Prop:=
 ∀(dE:Sem Value) (aa:List (Addr×Obj)) (s:Shared) (U:St) (H:Hp) (Q:Bool->Hp->Prop),Inv X aa U H s->t U H Q->wpAny (model X.prog X.w) X.A (isTrue e X.env dE) (TP X aa U Q) X.xe s
def PW.pt (h:PW X e t):PT X e t:=h _
def PA (X:Cx)(es:List Expr)(t:TA):Prop:=
 ∀(pos:Pos) (aa:List (Addr×Obj)) (s:Shared) (U:St) (H:Hp) (Q:List V->Hp->Prop),Inv X aa U H s->t U H Q->wpAny (model X.prog X.w) X.A (spliced (backTo pos (starEach es X.env))) (AP X aa U Q) X.xe s
def PS (X:Cx)(st:Stmt)(t:TS):Prop:=
 ∀(aa:List (Addr×Obj)) (s:Shared) (U:St) (H:Hp) (D:Ends),Inv X aa U H s->t D U H->wpAny (model X.prog X.w) X.A (exec st X.env) (SP X aa D) X.xe s
def PSs (X:Cx)(st:List Stmt)(t:TS):Prop:=
 ∀(aa:List (Addr×Obj)) (s:Shared) (U:St) (H:Hp) (D:Ends),Inv X aa U H s->t D U H->wpAny (model X.prog X.w) X.A (execs st X.env) (SP X aa D) X.xe s
def thn {Q:M->Shared->Prop}(h:wpAny Mqz A t Q E s)(hQ:∀a s,Q a s->Q' a s):wpAny Mqz A t Q' E s:=wpAny_mono h hQ λ_ _ x=>x
end L2
variable {H H' H1 H2:L2.Hp}{X:L2.Cx}{U:L2.St}{ta tb tc td te:L2.TE}{xs:List L2.V}{kvs:List (L2.Key×L2.V)}{D:L2.Ends}{Fd:L2.Ends->L->L2.Hp->Prop}
namespace L2
open PySem PySem.Spec PyProof.Rows
section
def JP (i:Nat):TE:=λU H Q=>∃ v,U[i]?=some (some v)/\Q v H
def tC (v:V):TE:=λ_ H Q=>Q v H
def WS (hN:X.N[i]?=some x)(hv:Vis X.env.scope x)(hd:(x==("__debug__":Str))=false:=by decide)(eJ:(x==("__classdict__":Str))=false:=by decide):PE X (.Name x pos) (JP i):=by
 intro aa s U H Q I h
 obtain⟨v,e,h⟩:=h
 obtain⟨m,hn,hl⟩:=I.loc
 obtain⟨u,r,l⟩:=hl i x v hN e hv
 have fin:EP X aa U Q u s:=⟨v,H,I,r,h⟩
 rcases l with⟨hk,hm⟩ | ⟨hk,c,hc,cu⟩
 ·exact wpAny_Name (wpAny_loadName_local I.ok.kind hk hn hm fin) hd
 ·rcases hk with hk |hk
  ·exact wpAny_Name (wpAny_loadName_cell I.ok.kind hk hc cu fin) hd
  ·exact wpAny_Name (wpAny_loadName_free I.ok.kind hk hc cu fin eJ) hd
def Xd {i j pos}:PE X (.Constant (.int i) j pos) (tC (.int i)):=λ_ _ _ H _ I h=>wpAny_Constant_int ⟨.int i,H,I.tok _,⟨_,rfl⟩,h⟩
def UN {b j pos}:PE X (.Constant (.bool b) j pos) (tC (.bl b)):=λ_ _ _ H _ I h=>Constant_bool ⟨.bl b,H,I,rfl,h⟩
def Ja {j pos}:PE X (.Constant .none j pos) (tC .non):=λ_ _ _ H _ I h=>Constant_none ⟨.non,H,I,rfl,h⟩
def Yz {x j pos}:PE X (.Constant (.str x) j pos) (tC (.str x)):=λ_ _ _ H _ I h=>Calls.Constant_str ⟨.str x,H,I.tok _,⟨_,rfl⟩,h⟩
def Gl (X:Cx)(x:Str):Prop:=X.env.kindOf x=some .globalImplicit
def Lh (I:Inv X aa U H s)(hg:Gl X x)(hm:X.mg x=some u)(h:Q u s)
  (hd:(x==("__debug__":Str))=false:=by decide):wpAny (model X.prog X.w) X.A (eval (.Name x pos) X.env) Q E s:=
 Calls.Name_function_global I.ok.kind hg (Calls.loadGlobal_global (by rw[I.ok.glob];exact I.mod.glob.keeps I.bk) hm h) hd
def Ju (I:Inv X aa U H s)(hg:Gl X x)(hm:X.mg x=none)(hv:bootBuiltins x=some u)(h:Q u s)
  (hn:x≠ "__name__":=by decide)(hd:(x==("__debug__":Str))=false:=by decide):wpAny (model X.prog X.w) X.A (eval (.Name x pos) X.env) Q E s:=by
 obtain⟨mb,h1,h2⟩:=I.mod.blt
 exact Calls.Name_function_global I.ok.kind hg (Calls.loadGlobal_builtin (by rw[I.ok.glob];exact I.mod.glob.keeps I.bk) hm (by rw[I.ok.blt];exact h1.keeps I.bk) ((h2 x hn).trans hv) h) hd
def R7 (hg:Gl X x)(hm:X.mg x=some u)(r:XW v u)(hd:(x==("__debug__":Str))=false:=by decide):PE X (.Name x pos) (tC v):=
 λ_ _ _ H _ I h=>Lh I hg hm ⟨v,H,I,r,h⟩ hd
def BV (hg:Gl X x)(hm:X.mg x=none)(hv:bootBuiltins x=some u)(r:XW v u)(hn:x≠ "__name__":=by decide)(hd:(x==("__debug__":Str))=false:=by decide):PE X (.Name x pos) (tC v):=
 λ_ _ _ H _ I h=>Ju I hg hm hv ⟨v,H,I,r,h⟩ hn hd
variable {a b:Expr}
def PC (X:Cx)(op:CmpOp)(a b:Expr)(t:TE):Prop:=
 ∀(aa:List (Addr×Obj)) (s:Shared) (U:St) (H:Hp) (Q:VK),Inv X aa U H s->t U H Q->
  wpAny (model X.prog X.w) X.A (eval a X.env) (λv s₁=>wpAny (model X.prog X.w) X.A (eval b X.env) (λu s₂=>wpAny (model X.prog X.w) X.A (compareOp op v u) (EP X aa U Q) X.xe s₂) X.xe s₁) X.xe s
def EN (b:Expr)(h:op≠ .In)(h2:op≠ .NotIn):behindInMarks op b=false:=by
 have e1:(op==CmpOp.In)=false:=by cases op<;> first |rfl |exact absurd rfl h
 have e2:(op==CmpOp.NotIn)=false:=by cases op<;> first |rfl |exact absurd rfl h2
 cases b<;> simp[behindInMarks,e1,e2]
def tB (t:TE):TT:=λU H Q=>t U H λx H1=>∃ c,x= .bl c/\Q c H1
def Py (h:PC X op a b t)(h1:behindInMarks op b=false:=by first |exact EN _ (by decide) (by decide) |rfl):PE X (.Compare a [op] [b] pos) t:=λaa s U H Q I hw=>wpAny_Compare1 (h aa s U H Q I hw) h1
def Ww (h:PC X op a b t)(h1:behindInMarks op b=false:=by first |exact EN _ (by decide) (by decide) |rfl):PT X (.Compare a [op] [b] pos) (tB t):=by
 intro aa s U H Q I hw
 refine wpAny_isTrue_Compare1 (thn (h aa s U H _ I hw) λv s1 h1=>thn h1 λu s2 h2=>thn h2 λc s3 r9=>?_) h1
 obtain⟨x,H1,I1,r1,q1⟩:=r9
 obtain⟨d,rfl,q⟩:=q1
 cases r1
 exact wpAny_truthy_bool ⟨H1,I1,q⟩
def Q9 (h:PE X e t)(he:∀dE,isTrue e X.env dE=(do let v ←dE;standAt e.pos;holding [v] (truthy v)):=by intro _;rfl):PT X e (tB t):=by
 intro aa s U H Q I hw
 refine isTrue_plain (thn (h aa s U H _ I hw) λv s1 r9=>?_) (he _)
 obtain⟨x,H1,I1,r1,q1⟩:=r9
 obtain⟨d,rfl,q⟩:=q1
 cases r1
 exact wpAny_truthy_bool ⟨H1,I1,q⟩
variable {tA tB':TT}{ZI:List Expr}
def AS (t u:TT):TT:=λU H Q=>t U H λc H1=>if c=true then u U H1 Q else Q false H1
def tOr (t u:TT):TT:=λU H Q=>t U H λc H1=>if c=true then Q true H1 else u U H1 Q
def A0 (t:TT):TT:=λU H Q=>t U H λc H1=>Q (!c) H1
def BL (ha:PT X a tA):PW X (.BoolOp .And [a] pos) tA:=by
 intro wh aa s U H Q I h
 refine isTrue_and (thn (ha aa s U H Q I h) λc s1 e=>?_)
 cases c with
 |true=>exact isTrue_and_nil e
 |false=>exact e
def Et (ha:PT X a tA):PW X (.BoolOp .Or [a] pos) tA:=by
 intro wh aa s U H Q I h
 refine isTrue_or (thn (ha aa s U H Q I h) λc s1 e=>?_)
 cases c with
 |false=>exact isTrue_or_nil e
 |true=>exact e
def Ls (ha:PT X a tA)(hb:PW X (.BoolOp .And (b::ZI) pos) tB'):PW X (.BoolOp .And (a::b::ZI) pos) (AS tA tB'):=by
 intro wh aa s U H Q I h
 refine isTrue_and (thn (ha aa s U H _ I h) λc s1 r9=>?_)
 obtain⟨H1,I1,q1⟩:=r9
 cases c with
 |true=>exact hb wh aa s1 U H1 Q I1 q1
 |false=>exact⟨H1,I1,q1⟩
def L8 (ha:PT X a tA)(hb:PW X (.BoolOp .Or (b::ZI) pos) tB'):PW X (.BoolOp .Or (a::b::ZI) pos) (tOr tA tB'):=by
 intro wh aa s U H Q I h
 refine isTrue_or (thn (ha aa s U H _ I h) λc s1 r9=>?_)
 obtain⟨H1,I1,q1⟩:=r9
 cases c with
 |true=>exact⟨H1,I1,q1⟩
 |false=>exact hb wh aa s1 U H1 Q I1 q1
def DV (ha:PT X a tA):PT X (.UnaryOp .Not a pos) (A0 tA):=by
 intro aa s U H Q I h
 exact isTrue_not (ha aa s U H (λc H1=>Q (!c) H1) I h)
def S6 (ta tb:TE):TE:=λU H Q=>ta U H λx H1=>∃ c,x= .bl c/\if c=true then tb U H1 Q else Q (.bl false) H1
def IX {op}(h:PE X a t):PE X (.BoolOp op [a] pos) t:=λaa s U H Q I hw=>BoolOp_one (h aa s U H Q I hw)
def Le (ha:PE X a ta)(hb:PE X (.BoolOp .And (b::ZI) pos) tb):PE X (.BoolOp .And (a::b::ZI) pos) (S6 ta tb):=by
 intro aa s U H Q I h
 refine BoolOp_and (thn (ha aa s U H _ I h) λv s1 r9=>?_)
 obtain⟨x,H1,I1,r1,q1⟩:=r9
 obtain⟨c,rfl,q1⟩:=q1
 cases r1
 refine wpAny_truthy_bool ?_
 cases c with
 |true=>exact hb aa s1 U H1 Q I1 q1
 |false=>exact⟨.bl false,H1,I1,rfl,q1⟩
def tIf (t:TT)(ta tb:TE):TE:=λU H Q=>t U H λc H1=>if c=true then ta U H1 Q else tb U H1 Q
def ED (hc:PT X c tA)(ha:PE X a ta)(hb:PE X b tb):PE X (.IfExp c a b pos) (tIf tA ta tb):=by
 intro aa s U H Q I h
 refine wpAny_IfExp (thn (hc aa s U H _ I h) λd s1 r9=>?_)
 obtain⟨H1,I1,q1⟩:=r9
 cases d with
 |true=>exact ha aa s1 U H1 Q I1 q1
 |false=>exact hb aa s1 U H1 Q I1 q1
end
def SqL (K:W.Frag)(H:Hp)(a:Addr)(xs:List V):Prop:=
 Rd H a (.lst xs)∨
  ∃(o:Obj) (its:Array Value) (n:Nat),K.lookup a=some o/\o.cls= .type "list" /\o.dict=none/\o.data= .seq its n/\its.size<=sizeLine/\XX xs its.toList
def SqT (K:W.Frag)(H:Hp)(a:Addr)(xs:List V):Prop:=
 Rd H a (.tup xs)∨
  ∃(o:Obj) (its:Array Value) (n:Nat),K.lookup a=some o/\o.cls= .type "tuple" /\o.data= .seq its n/\its.size<=sizeLine/\XX xs its.toList
def jq:Value->Option V
 | .none=>some .non
 | .bool b=>some (.bl b)
 | .int i _=>some (.int i)
 | .str x _=>some (.str x)
 | .bytes b _=>some (.byt b)
 | .float b _=>some (.flt b)
 | .ref a=>some (.ref a)
 | .type n=>some (.ty n)
 |_=>none
def XW.abs {x:V}(r:XW x u):jq u=some x:=by
 cases x with
 |non=>cases r;rfl
 |bl _=>cases r;rfl
 |int _=>obtain⟨t,rfl⟩:=r;rfl
 |str _=>obtain⟨t,rfl⟩:=r;rfl
 |byt _=>obtain⟨t,rfl⟩:=r;rfl
 |flt _=>obtain⟨t,rfl⟩:=r;rfl
 |ref _=>cases r;rfl
 |ty _=>cases r;rfl
def XW.inj {x y:V}(r:XW x u)(q:XW y u):x=y:=Option.some.inj (r.abs.symm.trans q.abs)
def XX.inj:∀{xs ys:List V}{us:List Value},XX xs us->XX ys us->xs=ys:=fun {xs ys us} p=>by
 induction p generalizing ys with
 |nil=>intro q;cases q;rfl
 |cons r _ ih=>intro q;cases q with |cons r' t'=>rw[r.inj r',ih t']
section
variable {ys:List V}
def SqL.of (h:H a=some (.lst xs)):SqL K H a xs:=.inl (.inl h)
def SqT.of (h:H a=some (.tup xs)):SqT K H a xs:=.inl (.inl h)
def Inv.list (I:Inv X aa U H s)(h:SqL X.K H a xs):∃its:List Value,XX xs its/\PlainL s.heap a its.toArray/\xs.length<=sizeLine:=by
 rcases h with h | ⟨o,its,n,hk,hc,hd,hs,hz,r⟩
 ·obtain⟨z,its,n,r,e⟩:=h.ok I.hok
  exact⟨its,r,⟨_,n,e,rfl,rfl,rfl⟩,z⟩
 ·refine⟨its.toList,r,⟨o,n,I.kIn a o hk,hc,hd,by simpa using hs⟩,?_⟩
  have e:=r.length
  simp only[Array.length_toList] at e
  omega
def Inv.tuple (I:Inv X aa U H s)(h:SqT X.K H a xs):∃its:List Value,XX xs its/\IsTup s.heap a its.toArray/\xs.length<=sizeLine:=by
 rcases h with h | ⟨o,its,n,hk,hc,hs,hz,r⟩
 ·obtain⟨z,its,r,p⟩:=h.ok I.hok
  exact⟨its,r,p.t,z⟩
 ·refine⟨its.toList,r,⟨o,I.kIn a o hk,hc,n,by simpa using hs⟩,?_⟩
  have e:=r.length
  simp only[Array.length_toList] at e
  omega
def Inv.list_inj (I:Inv X aa U H s)(h:SqL X.K H a xs)(h':SqL X.K H a ys):xs=ys:=by
 obtain⟨its,r,⟨o,n,e,_,_,d⟩,_⟩:=I.list h
 obtain⟨its',r',⟨o',n',e',_,_,d'⟩,_⟩:=I.list h'
 rw[e] at e';cases e'
 rw[d] at d'
 injection d' with d1 _
 have:its=its':=by simpa using congrArg Array.toList d1
 subst this
 exact r.inj r'
def Inv.tuple_inj (I:Inv X aa U H s)(h:SqT X.K H a xs)(h':SqT X.K H a ys):xs=ys:=by
 obtain⟨its,r,⟨o,e,_,n,d⟩,_⟩:=I.tuple h
 obtain⟨its',r',⟨o',e',_,n',d'⟩,_⟩:=I.tuple h'
 rw[e] at e';cases e'
 rw[d] at d'
 injection d' with d1 _
 have:its=its':=by simpa using congrArg Array.toList d1
 subst this
 exact r.inj r'
end
abbrev Cx.wish (X:Cx)(E:Value->Shared->Prop):Cx:={X with xe:=E}
abbrev Cx.nox (X:Cx):Cx:=X.wish λ_ _=>False
def Cx.Ok.wish (ok:X.Ok)(E:Value->Shared->Prop):(X.wish E).Ok:=
 ⟨ok.mod,ok.kind,ok.glob,ok.blt,ok.above,ok.inj,ok.has,ok.cab,ok.hd,ok.frames,ok.stk,ok.exf,ok.bs,ok.bsz,ok.noex,ok.exfs,ok.funs,ok.frf⟩
def Cx.Ok.unwish (ok:(X.wish E).Ok):X.Ok:=
 ⟨ok.mod,ok.kind,ok.glob,ok.blt,ok.above,ok.inj,ok.has,ok.cab,ok.hd,ok.frames,ok.stk,ok.exf,ok.bs,ok.bsz,ok.noex,ok.exfs,ok.funs,ok.frf⟩
section
def Inv.wish (I:Inv X aa U H s)(E:Value->Shared->Prop):Inv (X.wish E) aa U H s:=⟨I.ok.wish E,I.os,I.bare,I.base,I.loc,I.cell,I.free,I.freeC,I.pin,I.hok,I.len⟩
def Inv.unwish (I:Inv (X.wish E) aa U H s):Inv X aa U H s:=⟨I.ok.unwish,I.os,I.bare,I.base,I.loc,I.cell,I.free,I.freeC,I.pin,I.hok,I.len⟩
def SP.unwish (h:SP (X.wish E) aa D f s'):SP X aa D f s':=by
 cases f with
 |next=>obtain⟨U',H',I,q⟩:=h;exact⟨U',H',I.unwish,q⟩
 |brk=>obtain⟨U',H',I,q⟩:=h;exact⟨U',H',I.unwish,q⟩
 |cont=>obtain⟨U',H',I,q⟩:=h;exact⟨U',H',I.unwish,q⟩
 |ret u=>obtain⟨v,U',H',I,r,q⟩:=h;exact⟨v,U',H',I.unwish,r,q⟩
def PSs.nox {st:List Stmt}{t:TS}(h:PSs X.nox st t):PSs X st t:=λaa s U H D I hw=>
 wpAny_mono (h aa s U H D (I.wish _) hw) (λ_ _ q=>q.unwish) λ_ _ z=>False.elim z
end
section
variable {st:Stmt}{ZI:List Stmt}{t u:TS}
def Bb:TS:=λD U H=>D.nx U H
def Zf (t u:TS):TS:=λD U H=>t {D with nx:=u D} U H
def Xe:PSs X [] Bb:=λ_ _ U H _ I h=>wpAny_execs_nil ⟨U,H,I,h⟩
def Xb (h1:PS X st t)(h2:PSs X ZI u):PSs X (st::ZI) (Zf t u):=by
 intro aa s U H D I h
 refine wpAny_execs_cons (thn (h1 aa s U H {D with nx:=u D} I h) λf s1 q=>?_)
 cases f with
 |next=>
  obtain⟨U',H',I',q⟩:=q
  exact h2 aa s1 U' H' D I' q
 |ret v=>exact q
 |brk=>exact q
 |cont=>exact q
def Inv.quiet (I:Inv X aa U H s):interactive X.env=false:=by simp[interactive,I.ok.kind]
def Gh (te:TE):TS:=λD U H=>te U H λ_ H1=>D.nx U H1
def Xy (he:PE X e te)(hs:swapsWith e none pos.line X.env=pure false:=by rfl):PS X (.Expr e pos) (Gh te):=by
 intro aa s U H D I h
 exact wpAny_Expr_any (thn (he aa s U H _ I h) λv s1 r9=>by obtain⟨x,H1,I1,r1,q1⟩:=r9;exact⟨U,H1,I1,q1⟩) I.quiet hs
def AA (te:TE):TS:=λD U H=>te U H D.rt
def Xq (he:PE X e te):PS X (.Return (some e) pos) (AA te):=by
 intro aa s U H D I h
 exact wpAny_Return_some (thn (he aa s U H _ I h) λv s1 r9=>by obtain⟨x,H1,I1,r1,q1⟩:=r9;exact⟨x,U,H1,I1,r1,q1⟩)
def Wb (c:TT)(t u:TS):TS:=λD U H=>c U H λb H1=>if b=true then t D U H1 else u D U H1
def XV {a b:List Stmt}{tc:TT}(hc:PT X c tc)(ha:PSs X a t)(hb:PSs X b u):PS X (.If c a b pos) (Wb tc t u):=by
 intro aa s U H D I h
 refine wpAny_If (thn (hc aa s U H _ I h) λd s1 r9=>?_)
 obtain⟨H1,I1,q1⟩:=r9
 cases d with
 |true=>exact ha aa s1 U H1 D I1 q1
 |false=>exact hb aa s1 U H1 D I1 q1
def T0:TS:=λ_ _ _=>False
def GZ:PS X st T0:=λ_ _ _ _ _ _ h=>h.elim
end
abbrev TG:=V->St->Hp->(St->Hp->Prop)->Prop
abbrev TGs:=List V->St->Hp->(St->Hp->Prop)->Prop
def PG (X:Cx)(cB:Expr)(t:TG):Prop:=
 ∀(aa:List (Addr×Obj)) (s:Shared) (U:St) (H:Hp) (v:V) (u:Value) (Q:St->Hp->Prop),Inv X aa U H s->XW v u->t v U H Q->
  wpAny (model X.prog X.w) X.A (assign cB X.env u) (λ_ s'=>∃ U' H',Inv X aa U' H' s'/\Q U' H') X.xe s
def PGs (X:Cx)(ts:List Expr)(t:TGs):Prop:=
 ∀(aa:List (Addr×Obj)) (s:Shared) (U:St) (H:Hp) (vs:List V) (us:List Value) (Q:St->Hp->Prop),Inv X aa U H s->XX vs us->t vs U H Q->
  wpAny (model X.prog X.w) X.A (assignInOrder ((assignEach ts X.env).map (·.2)) us) (λ_ s'=>∃ U' H',Inv X aa U' H' s'/\Q U' H') X.xe s
abbrev jg:=V->V->V->Hp->(Hp->Prop)->Prop
def qQ (X:Cx)(t:jg):Prop:=
 ∀(aa:List (Addr×Obj)) (s:Shared) (U:St) (H:Hp) (o i v:V) (ov iv u:Value) (Q:Hp->Prop),Inv X aa U H s->XW o ov->XW i iv->XW v u->t o i v H Q->
  wpAny (model X.prog X.w) X.A (setItem ov iv u) (λ_ s'=>∃ H',Inv X aa U H' s'/\Q H') X.xe s
abbrev TIp:=V->V->Hp->VK->Prop
def PIp (X:Cx)(op:Operator)(t:TIp):Prop:=
 ∀(aa:List (Addr×Obj)) (s:Shared) (U:St) (H:Hp) (x y:V) (v u:Value) (Q:VK),Inv X aa U H s->XW x v->XW y u->t x y H Q->
  wpAny (model X.prog X.w) X.A (inplaceOp op v u) (EP X aa U Q) X.xe s
section
def Yr (i:Nat):TG:=λv U H Q=>Q (U.set i (some v)) H
def XB (hN:X.N.Nodup)(hi:X.N[i]?=some x)(hx:Loc X.env.scope x)(hf:X.fn x=true∨X.env.scope.names.lookup x=some .local:=by first |exact .inl rfl |exact .inr rfl |assumption):PG X (.Name x pos) (Yr i):=by
 intro aa s U H v u Q I r h
 exact wpAny_assign_Name (Z6 I hN hi hx r (λs' I'=>⟨_,H,I',h⟩) hf)
def Pl:TGs:=λvs U H Q=>vs=[]/\Q U H
def Z3 (t:TG)(u:TGs):TGs:=λvs U H Q=>∃ v r,vs=v::r/\t v U H λU' H'=>u r U' H' Q
def YJ:PGs X [] Pl:=by
 intro aa s U H vs us Q I r h
 obtain⟨e,h⟩:=h
 subst e
 cases r
 exact assignInOrder_nil ⟨U,H,I,h⟩
def Xt {u:TGs}(h1:PG X e t)(h2:PGs X es u)
  (hs:(assignEach (e::es) X.env).map (·.2)=assign e X.env::(assignEach es X.env).map (·.2):=by rfl):PGs X (e::es) (Z3 t u):=by
 intro aa s U H vs us Q I r h
 obtain⟨v,vr,e1,h⟩:=h
 subst e1
 cases r with
 |cons r rr=>
  rw[hs]
  refine assignInOrder_cons (thn (h1 aa s U H _ _ _ I r h) λ_ s1 r9=>?_)
  obtain⟨σ1,H1,I1,q1⟩:=r9
  exact h2 aa s1 σ1 H1 _ _ Q I1 rr q1
def OG (K:W.Frag)(n:Nat)(t:TGs):TG:=λv U H Q=>∃ a xs,v= .ref a/\SqT K H a xs/\xs.length=n/\t xs U H Q
def ZM (hc:X.calm=true)(h:PGs X es t)
  (hn:(assignEach es X.env).length=n:=by rfl)(ga:(assignEach es X.env).findIdx? (·.1)=none:=by rfl):PG X (.Tuple es k pos) (OG X.K n t):=by
 intro aa s U H v u Q I r hw
 obtain⟨a,xs,e1,hq,hl,hw⟩:=hw
 subst e1
 cases r
 obtain⟨its,rv,ht,hz⟩:=I.tuple hq
 refine assign_Tuple_tuple (I.ok.hd hc) ht (by simp[hn, ←hl,rv.length]) ga λh' hx=>?_
 have I1:Inv X aa U H {s with heap:=h'}:=I.kept (t':=s.toks) λb o e=>hx b o (Nat.ne_of_lt (Heap.lt_size e)) e
 exact h aa _ U H xs _ Q I1 (by simpa using rv) hw
def AJ (to ti:TE)(t:jg):TG:=λv U H Q=>to U H λo H1=>ti U H1 λi H2=>t o i v H2 λH3=>Q U H3
def Uw (ho:PE X o to)(hi:PE X i ti)(hs:qQ X t)
  (ha:∀v,assign (.Subscript o i pos) X.env v=(do
   let ov ←holding [v] (eval o X.env)
   let iv ←holding [v,ov] (eval i X.env)
   standAt pos
   holding [v,ov,iv] (setItem ov iv v)
   release [v,ov,iv] []):=by intro _;rfl):PG X (.Subscript o i pos) (AJ to ti t):=by
 intro aa s U H v u Q I r h
 rw[ha]
 refine wpAny_bind (wpAny_holding (thn (ho aa s U H _ I h) λov s1 r9=>?_))
 obtain⟨x,H1,I1,r1,q1⟩:=r9
 refine wpAny_bind (wpAny_holding (thn (hi aa s1 U H1 _ I1 q1) λiv s2 r9=>?_))
 obtain⟨y,H2,I2,r2,q2⟩:=r9
 refine wpAny_bind (wpAny_standAt (wpAny_bind (wpAny_holding (thn (hs aa s2 U H2 x y v ov iv u _ I2 r1 r2 r q2) λ_ s3 r9=>?_))))
 obtain⟨H3,I3,q3⟩:=r9
 exact wpAny_release ⟨U,H3,I3,q3⟩
def DW (te:TE)(g:TG):TS:=λD U H=>te U H λx H1=>g x U H1 D.nx
def Jb (he:PE X e te)(hg:PG X tg g)(hs:swapsWithSole [tg] e pos.line X.env=pure false:=by rfl)(hw:swappedStores [tg] e X.env=pure none:=by rfl)
  (h1:(assignEach [tg] X.env).map (·.2)=[assign tg X.env]:=by rfl):PS X (.Assign [tg] e pos) (DW te g):=by
 intro aa s U H D I h
 refine wpAny_Assign_stores (thn (he aa s U H _ I h) λv s1 r9=>?_) hs hw
 obtain⟨x,H1,I1,r1,q1⟩:=r9
 rw[h1]
 exact thn (hg aa s1 U H1 x v _ I1 r1 q1) λ_ s2 q=>q
def UI (hN:X.N.Nodup)(hi:X.N[i]?=some x)(hx:Loc X.env.scope x)(he:PE X e te)(hs:swapsWith e (some (.Name x cC)) pos.line X.env=pure false:=by rfl)(hf:X.fn x=true∨X.env.scope.names.lookup x=some .local:=by first |exact .inl rfl |exact .inr rfl |assumption):
  PS X (.Assign [.Name x cC] e pos) (DW te (Yr i)):=by
 intro aa s U H D I h
 refine wpAny_Assign_Name (thn (he aa s U H _ I h) λv s1 r9=>?_) hs
 obtain⟨y,H1,I1,r1,q1⟩:=r9
 exact Z6 I1 hN hi hx r1 (λs2 I2=>⟨_,H1,I2,q1⟩) hf
def jb (i j:Nat)(ta:TA):TS:=λD U H=>ta U H λvs H1=>∃ v w,vs=[v,w]/\D.nx ((U.set i (some v)).set j (some w)) H1
def EY {y:Str}{a b:Expr}{ta:TA}{kt k2 pt2}(hc:X.calm=true)(hN:X.N.Nodup)(hi:X.N[i]?=some x)(hj:X.N[j]?=some y)(cT:i≠j)
  (hx:X.env.scope.names.lookup x=some .local)(hy:X.env.scope.names.lookup y=some .local)(ha:PA X [a,b] ta)
  (hw:swappedStores [.Tuple [.Name x px, .Name y py] kt pt] (.Tuple [a,b] k2 pt2) X.env=pure (some [x,y]))
  (hs:swapsWithSole [.Tuple [.Name x px, .Name y py] kt pt] (.Tuple [a,b] k2 pt2) pos.line X.env=pure false:=by rfl):
  PS X (.Assign [.Tuple [.Name x px, .Name y py] kt pt] (.Tuple [a,b] k2 pt2) pos) (jb i j ta):=by
 intro aa s U H D I h
 rw[exec_Assign_arm]
 refine wpAny_bind (wpAny_standAt ?_)
 rw[hs]
 refine wpAny_bind (wpAny_pure ?_)
 rw[if_neg (by decide)]
 refine wpAny_bind (Tuple_ (thn (ha _ aa s U H _ I h) λus s1 r9=>?_))
 obtain⟨vs,H1,I1,r1,q1⟩:=r9
 obtain⟨v,w,e1,q1⟩:=q1
 subst e1
 obtain⟨u1,u2,rfl,rv,cD⟩:∃u1 u2,us=[u1,u2]/\XW v u1/\XW w u2:=by
  cases r1 with
  |cons p q=>
   cases q with
   |cons p' q'=>
    cases q'
    exact⟨_,_,rfl,p,p'⟩
 refine wpAny_newObj_type ?_ (by show 2<=sizeLine;decide)
 have I2:Inv X aa U H1 {s1 with heap:=s1.heap.push {cls:=.type "tuple",data:=.seq [u1,u2].toArray}}:=I1.kept (t':=s1.toks) λb o e=>Heap.get?_push_of_some _ e
 rw[hw]
 refine wpAny_bind (wpAny_pure ?_)
 show wpAny (model X.prog X.w) X.A (do rule "assign.swapped-stores";let items ←unpackItems (.ref s1.heap.objs.size) 2 none;assignInOrder [λv=>bindName X.env y v,λv=>bindName X.env x v] items.reverse;pure Flow.next) _ _ _
 refine wpAny_bind (wpAny_rule (wpAny_bind (unpackItems_tuple (items:=#[u1,u2]) (I.ok.hd hc) (IsTup.new s1.heap _) λh' eK=>?_)))
 have I3:=I2.kept (h':=h') (t':=s1.toks) λb o e=>eK b o (Nat.ne_of_lt (Heap.lt_size e)) e
 show wpAny _ _ (assignInOrder [λv=>bindName X.env y v,λv=>bindName X.env x v] [u2,u1] >>= λ_=>pure Flow.next) _ _ _
 refine wpAny_bind (assignInOrder_cons (wpAny_bindName (Z6 I3 hN hj (.inl hy) cD (λs2 I4=>?_) (.inr hy))))
 refine assignInOrder_cons (wpAny_bindName (Z6 I4 hN hi (.inl hx) rv (λs3 I5=>assignInOrder_nil (wpAny_pure ?_)) (.inr hx)))
 rw[List.set_comm _ _ (Ne.symm cT)] at I5
 exact⟨_,H1,I5,q1⟩
def AF (i:Nat)(te:TE)(ti:TIp):TS:=λD U H=>∃ x,U[i]?=some (some x)/\te U H λy H1=>ti x y H1 λz H2=>D.nx (U.set i (some z)) H2
def LV (hN:X.N.Nodup)(hi:X.N[i]?=some x)(hx:Loc X.env.scope x)(he:PE X e te)(ho:PIp X op ti)(hf:X.fn x=true∨X.env.scope.names.lookup x=some .local:=by first |exact .inl rfl |exact .inr rfl |assumption):
  PS X (.AugAssign (.Name x cC) op e pos) (AF i te ti):=by
 intro aa s U H D I h
 obtain⟨v,e1,h⟩:=h
 obtain⟨m,hn,hl⟩:=I.loc
 have vis:Vis X.env.scope x:=by rcases hx with k |k;exact .inl k;exact .inr (.inl k)
 obtain⟨u,r,l⟩:=hl i x v hi e1 vis
 refine wpAny_AugAssign_Name ?_
 have go:wpAny (model X.prog X.w) X.A (eval e X.env) (λw s₂=>wpAny (model X.prog X.w) X.A (inplaceOp op u w) (λr s₃=>wpAny (model X.prog X.w) X.A (storeName X.env x r) (λ_=>SP X aa D .next) X.xe s₃) X.xe s₂) X.xe s:=by
  refine thn (he aa s U H _ I h) λw s1 r9=>?_
  obtain⟨y,H1,I1,r1,q1⟩:=r9
  refine thn (ho aa s1 U H1 v y u w _ I1 r r1 q1) λz s2 r9=>?_
  obtain⟨zv,H2,I2,r2,q2⟩:=r9
  exact Z6 I2 hN hi hx r2 (λs3 I3=>⟨_,H2,I3,q2⟩) hf
 rcases l with⟨hk,hm⟩ | ⟨hk,c,hc,cu⟩
 ·exact wpAny_loadName_local I.ok.kind hk hn hm go
 ·rcases hk with hk |hk
  ·exact wpAny_loadName_cell I.ok.kind hk hc cu go
  ·rcases hx with k |k
   ·have:X.env.scope.names.lookup x=some .free:=hk
    rw[k] at this;cases this
   ·have:X.env.scope.names.lookup x=some .free:=hk
    rw[k] at this;cases this
def ipI (f:Int->Int->Int):TIp:=λx y H Q=>∃ i j,x= .int i/\y= .int j/\Q (.int (f i j)) H
def Pz:PIp X .Add (ipI λi j=>i+j):=by
 intro aa s U H x y v u Q I r1 r2 h
 obtain⟨i,j,e1,e2,q⟩:=h
 subst e1;subst e2
 obtain⟨t,rfl⟩:=r1
 obtain⟨t',rfl⟩:=r2
 exact iadd_int ⟨.int _,H,I.tok _,⟨_,rfl⟩,q⟩
end
section
def Du (c:TT)(tb:TS):TS:=λD U H=>∃ W:Nat->St->Hp->Prop,(∃m,W m U H)/\∀m U H,W m U H->
 c U H λb H1=>if b=true then ∃N:St->Hp->Prop,(∀U' H',N U' H'->∃m',m'<m/\W m' U' H')/\tb {D with nx:=N,ct:=N,bk:=D.nx} U H1 else D.nx U H1
def GY {tc:TT}{tb:TS}(hp:PassesOwn (model X.prog X.w) X.A X.env X.xe)(hc:PT X c tc)(hb:PSs X body tb):PS X (.While c body [] pos) (Du tc tb):=by
 intro aa s U H D I h
 obtain⟨W,⟨m0,w0⟩,turn⟩:=h
 refine wpAny_While (codeAny_whileLoop (λn s'=>∃ U' H',Inv X aa U' H' s'/\W n U' H') ?_ m0 ⟨U,H,I,w0⟩)
 rintro n s1 ⟨σ1,H1,I1,w1⟩
 refine wpAny_passesOwn hp (thn (hc aa s1 σ1 H1 _ I1 (turn n σ1 H1 w1)) λb s2 r9=>?_)
 obtain⟨H2,I2,q2⟩:=r9
 cases b with
 |true=>
  obtain⟨N,hN,q2⟩:=q2
  rw[if_pos rfl]
  refine wpAny_passesOwn hp (thn (hb aa s2 σ1 H2 _ I2 q2) λf s3 q3=>?_)
  cases f with
  |next=>
   obtain⟨σ3,H3,I3,n3⟩:=q3
   obtain⟨m',hm,w3⟩:=hN σ3 H3 n3
   exact⟨m',hm,σ3,H3,I3,w3⟩
  |cont=>
   obtain⟨σ3,H3,I3,n3⟩:=q3
   obtain⟨m',hm,w3⟩:=hN σ3 H3 n3
   exact⟨m',hm,σ3,H3,I3,w3⟩
  |brk=>exact q3
  |ret v=>exact q3
 |false=>
  rw[if_neg Bool.false_ne_true]
  exact wpAny_execs_nil ⟨σ1,H2,I2,q2⟩
end
structure It where
 go:Nat->Hp->Prop
 yld:Nat->Hp->V->Hp->Prop
 stop:Nat->Hp->Prop
def CZ (X:Cx)(aa:List (Addr×Obj))(H:Hp)(b:Addr):Prop:=
 H b=none/\b≠X.env.locals/\b∉X.fs/\(b∈X.ex∨X.s₀.heap.objs.size<=b)/\(∀x c,X.env.cells.lookup x=some c->c≠b)/\∀p∈X.pn++aa,p.1≠b
def Inv.fpOk (I:Inv X aa U H s)(hb:s.heap.objs.size<=b)(hn:H' b=none):CZ X aa H' b:=by
 refine⟨hn,Nat.ne_of_gt (Nat.lt_of_lt_of_le I.lt hb),I.nofs hb, .inr (Nat.le_trans I.sz hb),λx c e z=>?_,λp hp z=>?_⟩
 ·obtain⟨v,q⟩:=I.cell x c e
  exact absurd (Nat.lt_of_lt_of_le q.lt (by rw[z];exact hb)) (Nat.lt_irrefl _)
 ·exact absurd (Nat.lt_of_lt_of_le (Heap.lt_size (I.pin p hp).1) (by rw[z];exact hb)) (Nat.lt_irrefl _)
structure Turn (P:Program)(w:World)(K:W.Frag)(tg:Expr)(J:It)(fp:List Addr)(it:Addr)(tn:Nat->Heap->Prop):Prop where
 mem:it∈fp
 obj:∀i h,tn i h->∀b∈fp,∃o,h.get? b=some o/\∀v,o.data≠ .cell v
 keep:∀i h h',tn i h->(∀b∈fp,∀o,h.get? b=some o->h'.get? b=some o)->tn i h'
 item:∀(X:Cx),X.prog=P->X.w=w->X.K=K->X.calm=true->∀(i:Nat) (aa:List (Addr×Obj)) (s:Shared) (U:St) (H:Hp) (E:Value->Shared->Prop),Inv X aa U H s->(∀b∈fp,CZ X aa H b)->tn i s.heap->J.go i H->
  wpAny (model P w) X.A (pyNext (.ref it)) (λr s1=>∃ u,r=some u/\
   wpAny (model P w) X.A (letOwnedTupleGo tg (.ref it) u) (λ_ s2=>∃ x H',Inv X aa U H' s2/\XW x u/\J.yld i H x H'/\tn (i+1) s2.heap/\∀b∈fp,H' b=none) E s1) E s
 done:∀(X:Cx),X.prog=P->X.w=w->X.K=K->X.calm=true->∀(i:Nat) (aa:List (Addr×Obj)) (s:Shared) (U:St) (H:Hp) (E:Value->Shared->Prop),Inv X aa U H s->(∀b∈fp,CZ X aa H b)->tn i s.heap->J.stop i H->
  wpAny (model P w) X.A (pyNext (.ref it)) (λr s1=>r=none/\Inv X aa U H s1) E s
 self:∀(A:Around) (i:Nat) (s:Shared) (Q:Value->Shared->Prop) (E:Value->Shared->Prop),tn i s.heap->Q (.ref it) s->wpAny (model P w) A (pyIter (.ref it)) Q E s
abbrev TI:=St->Hp->(It->Hp->Prop)->Prop
def PIE (X:Cx)(aa:List (Addr×Obj))(U:St)(tg:Expr)(R:It->Hp->Prop)(gB:Value)(s2:Shared):Prop:=
 ∃(it:Addr) (fp:List Addr) (tn:Nat->Heap->Prop) (J:It) (H':Hp),gB= .ref it/\Inv X aa U H' s2/\Turn X.prog X.w X.K tg J fp it tn/\tn 0 s2.heap/\(∀b∈fp,CZ X aa H' b)/\R J H'
def PI (X:Cx)(tg iter:Expr)(wi:TI):Prop:=
 ∀(aa:List (Addr×Obj)) (s:Shared) (U:St) (H:Hp) (R:It->Hp->Prop),Inv X aa U H s->wi U H R->
  wpAny (model X.prog X.w) X.A (eval iter X.env) (λv s1=>wpAny (model X.prog X.w) X.A (pyIter v) (PIE X aa U tg R) X.xe s1) X.xe s
def Sd {n:String}{Q:Unit->Shared->Prop}(ho:s.heap.get? it=some o)(hc:o.cls= .type n)(hd:o.data= .fields vs)
    (hn: ["enumerate","zip","dict_itemiterator","dict_reverseitemiterator","odict_iterator","itertools.zip_longest","itertools.pairwise"].contains n=false)(hQ:Q () s):wpAny Mqz A (letOwnedTupleGo tg (.ref it) u) Q E s:=by
  unfold letOwnedTupleGo
  cases tg<;> first
    |exact wpAny_pure hQ
    | (cases u<;> first
        |exact wpAny_pure hQ
        | (refine wpAny_bind (wpAny_load ho ?_)
           rw[hc,hd]
           show wpAny Mqz A (if(["enumerate","zip","dict_itemiterator","dict_reverseitemiterator","odict_iterator","itertools.zip_longest","itertools.pairwise"].contains n&&vs[0]?==some (rawInt _))=true then _ else _) Q E s
           rw[if_neg (by intro h;rw[hn,Bool.false_and] at h;cases h)]
           exact wpAny_pure hQ))
def Itl (K:W.Frag)(a:Addr):It:=
 ⟨λi H=>∃ xs x,SqL K H a xs/\xs[i]?=some x,λi H x H'=>H'=H/\∀xs,SqL K H a xs->xs[i]?=some x,λi H=>∃ xs,SqL K H a xs/\xs.length<=i⟩
def Itr (lo:Int)(n:Nat):It:=⟨λi _=>i<n,λi H x H'=>H'=H/\x= .int (lo+i),λi _=>n<=i⟩
def LF (a it:Addr):Turn P w K tg (Itl K a) [it] it (λi h=>h.IsListIter it a i) where
 mem:=by simp
 obj:=λi h st b hb=>by
  have e:b=it:=by simpa using hb
  subst e
  obtain⟨o,e,c,d⟩:=st
  exact⟨o,e,λv z=>by rw[d] at z;cases z⟩
 keep:=λi h h' st k=>st.at λo e=>k it (by simp) o e
 item:=by
  intro X hP hw hK hc i aa s U H E I hf st hg
  subst hP hw hK
  obtain⟨xs,x,hq,hx⟩:=hg
  obtain⟨its,rv,p,hz⟩:=I.list hq
  obtain⟨u,hu,ru⟩:=rv.get hx
  obtain⟨f0,f1,f2,f3,f4,f5⟩:=hf it (by simp)
  refine wpAny_pyNext_list_item st p.isList (x:=u) (by simpa using hu) λh' fk sb=>?_
  have I1:Inv X aa U H {s with heap:=h'}:=I.turned (t':=s.toks) (λb o hb e=>(sb.2 b hb).trans e) f0 f1 f3 f4 f5
  obtain⟨o,e,c,d⟩:=id fk
  exact⟨u,rfl,Sd (s:={s with heap:=h'}) e c d (by decide) ⟨x,H,I1,ru,⟨rfl,λys hy=>by rw[I.list_inj hy hq];exact hx⟩,fk,λb hb=>(hf b hb).1⟩⟩
 done:=by
  intro X hP hw hK hc i aa s U H E I hf st hg
  subst hP hw hK
  obtain⟨xs,hq,hx⟩:=hg
  obtain⟨its,rv,p,hz⟩:=I.list hq
  obtain⟨f0,f1,f2,f3,f4,f5⟩:=hf it (by simp)
  have hl:=rv.length
  exact wpAny_pyNext_list_end (I.ok.hd hc) st p.isList (by simp;omega) λh' eb=>⟨rfl,I.turned (t':=s.toks) (λb o hb e=>eb b o hb e) f0 f1 f3 f4 f5⟩
 self:=λ_ _ _ _ _ st h=>wpAny_pyIter_listiter st h
def HX (it:Addr)(lo:Int)(n:Nat):Turn P w K tg (Itr lo n) [it] it (λi h=>IsRangeIter h it (lo+(i:Nat)*1) ((n:Int)-(i:Nat)) 1) where
 mem:=by simp
 obj:=λi h st b hb=>by
  have e:b=it:=by simpa using hb
  subst e
  exact⟨_,st,λv z=>by
   have z':Data.fields _=Data.cell v:=z
   cases z'⟩
 keep:=λi h h' st k=>k it (by simp) _ st
 item:=by
  intro X hP hw hK hc i aa s U H E I hf st hg
  subst hP hw hK
  obtain⟨f0,f1,f2,f3,f4,f5⟩:=hf it (by simp)
  have W:=Walks.range (prog:=X.prog) (w:=X.w) (I.ok.hd hc) it lo 1 n
  refine W.item i s _ _ hg st λv h' tk hv fk kk=>?_
  obtain⟨t,rfl⟩:=hv
  have I1:Inv X aa U H {s with heap:=h',toks:=tk}:=I.turned (λb o hb e=>kk b o (by simpa using hb) e) f0 f1 f3 f4 f5
  refine⟨_,rfl,Sd (s:={s with heap:=h',toks:=tk}) (n:="range_iterator") fk rfl rfl (by decide) ⟨.int (lo+i),H,I1,⟨t,?_⟩,⟨rfl,rfl⟩,fk,λb hb=>(hf b hb).1⟩⟩
  rw[Int.mul_one]
 done:=by
  intro X hP hw hK hc i aa s U H E I hf st hg
  subst hP hw hK
  obtain⟨f0,f1,f2,f3,f4,f5⟩:=hf it (by simp)
  exact wpAny_pyNext_range_end (I.ok.hd hc) st (by have:n<=i:=hg;omega) λh' eb=>⟨rfl,I.turned (t':=s.toks) (λb o hb e=>eb b o hb e) f0 f1 f3 f4 f5⟩
 self:=λ_ _ _ _ _ st h=>wpAny_pyIter_rangeiter st h
section
def Ft (K:W.Frag)(tl:TE):TI:=λU H R=>tl U H λx H1=>∃ a,x= .ref a/\(∃xs,SqL K H1 a xs)/\R (Itl K a) H1
def SU (hl:PE X l tl):PI X tg l (Ft X.K tl):=by
 intro aa s U H R I h
 refine thn (hl aa s U H _ I h) λv s1 r9=>?_
 obtain⟨x,H1,I1,r1,q1⟩:=r9
 obtain⟨a,e,⟨xs,hq⟩,q⟩:=q1
 subst e
 cases r1
 obtain⟨its,rv,p,hz⟩:=I1.list hq
 refine wpAny_pyIter_list p.isList ?_
 refine⟨s1.heap.objs.size,[s1.heap.objs.size],_,_,H1,rfl,I1.kept (t':=s1.toks) λb o e=>Heap.get?_push_of_some _ e,LF a _,⟨_,Heap.get?_push_size _ rfl,rfl,rfl⟩,λb hb=>?_,q⟩
 have e:b=s1.heap.objs.size:=by simpa using hb
 subst e
 exact I1.fpOk (Nat.le_refl _) (I1.hok.fresh (Nat.le_refl _))
def Ht {R:It->Hp->Prop}{lo hi:Int}{t u v:Tok}{tk:Nat}(I:Inv X aa U H s)(h1: -(2^62)<=lo)(h2:lo<2^62)(h3: -(2^62)<=hi)(h4:hi<2^62)
  (q:R (Itr lo (hi-lo).toNat) H):wpAny (model X.prog X.w) X.A (pyIter (.ref s.heap.objs.size)) (PIE X aa U tg R) E {s with heap:=s.heap.push {cls:=.type "range",data:=.fields #[.int lo t, .int hi u, .int 1 v]},toks:=tk}:=by
 refine wpAny_pyIter_range (IsRange.new ..) (small_one h1 h2 h3 h4) ?_
 have I1:Inv X aa U H {s with heap:=s.heap.push {cls:=.type "range",data:=.fields #[.int lo t, .int hi u, .int 1 v]},toks:=tk}:=I.kept λb o e=>Heap.get?_push_of_some _ e
 refine⟨(s.heap.push {cls:=.type "range",data:=.fields #[.int lo t, .int hi u, .int 1 v]}).objs.size,[(s.heap.push {cls:=.type "range",data:=.fields #[.int lo t, .int hi u, .int 1 v]}).objs.size],_,_,H,rfl,
  I1.kept (t':=tk) λb o e=>Heap.get?_push_of_some _ e,HX _ lo (hi-lo).toNat,?_,λb hb=>?_,q⟩
 ·have e1:lo+((0:Nat):Int)*1=lo:=by simp
  have e2:(((hi-lo).toNat:Nat):Int)-((0:Nat):Int)=Builtin.Range.rangeSize lo hi 1:=by rw[rangeSize_one];split<;> omega
  show IsRangeIter _ _ (lo+((0:Nat):Int)*1) ((((hi-lo).toNat:Nat):Int)-((0:Nat):Int)) 1
  rw[e1,e2]
  exact Heap.get?_push_size _ rfl
 ·have e:b=(s.heap.push {cls:= .type "range",data:= .fields #[.int lo t, .int hi u, .int 1 v]}).objs.size:=by simpa using hb
  subst e
  exact I1.fpOk (Nat.le_refl _) (I1.hok.fresh (Nat.le_refl _))
def TL (ta:TA):TI:=λU H R=>ta U H λvs H1=>∃ j:Int,vs=[.int j]/\ -(2^62)<=j/\j<2^62/\R (Itr 0 j.toNat) H1
def Td (ta:TA):TI:=λU H R=>ta U H λvs H1=>∃ i j:Int,vs=[.int i, .int j]/\(-(2^62)<=i/\i<2^62/\ -(2^62)<=j/\j<2^62)/\R (Itr i (j-i).toNat) H1
def Xx {a:Expr}{ta:TA}{p:Pos}(hg:Gl X "range")(hm:X.mg "range" =none)(ha:PA X [a] ta)(hs:starEach [a] X.env=[(false,eval a X.env)]:=by rfl):PI X tg (.Call (.Name "range" p) [a] [] pos) (TL ta):=by
 intro aa s U H R I h
 refine Call_ (Ju I hg hm boot_range (callWith_type1 (thn (ha pos aa s U H _ I h) λus s1 r9=>?_) hs rfl))
 obtain⟨vs,H1,I1,r1,q1⟩:=r9
 obtain⟨j,e,q1,q2,q⟩:=q1
 subst e
 cases r1 with
 |cons r rr=>
  cases rr
  obtain⟨t,rfl⟩:=r
  exact call_range_1 (Ht I1 (by omega) (by omega) q1 q2 (by simpa using q))
def Ke {a b:Expr}{ta:TA}{p:Pos}(hg:Gl X "range")(hm:X.mg "range" =none)(ha:PA X [a,b] ta)(hs:starEach [a,b] X.env=[(false,eval a X.env),(false,eval b X.env)]:=by rfl)(fm:starEach [b] X.env=[(false,eval b X.env)]:=by rfl):
  PI X tg (.Call (.Name "range" p) [a,b] [] pos) (Td ta):=by
 intro aa s U H R I h
 refine Call_ (Ju I hg hm boot_range (callWith_type1 (thn (ha pos aa s U H _ I h) λus s1 r9=>?_) (by rw[hs,fm]) (by rw[fm];rfl)))
 obtain⟨vs,H1,I1,r1,q1⟩:=r9
 obtain⟨i,j,e,⟨q1,q2,q3,q4⟩,q⟩:=q1
 subst e
 cases r1 with
 |cons r rr=>
  cases rr with
  |cons r' rr=>
   cases rr
   obtain⟨t,rfl⟩:=r
   obtain⟨t',rfl⟩:=r'
   exact call_range_2 (Ht I1 q1 q2 q3 q4 q)
def Il (wi:TI)(g:TG)(tb:TS):TS:=λD U H=>wi U H λJ H1=>∃ W:Nat->Nat->St->Hp->Prop,(∃m,W 0 m U H1)/\∀i m U H,W i m U H->
 (J.stop i H/\D.nx U H)∨(J.go i H/\∃N:St->Hp->Prop,(∀U' H',N U' H'->∃m',m'<m/\W (i+1) m' U' H')/\∀x H',J.yld i H x H'->g x U H' λσ2 H2=>tb {D with nx:=N,ct:=N,bk:=D.nx} σ2 H2)
def Dh (fp:List Addr)(h:Heap):List (Addr×Obj):=fp.filterMap λb=>(h.get? b).map λo=>(b,o)
def Uk (hb:b∈fp)(e:h.get? b=some o):(b,o)∈Dh fp h:=List.mem_filterMap.mpr ⟨b,hb,by rw[e];rfl⟩
def II {p:Addr×Obj}(hp:p∈Dh fp h):p.1∈fp/\h.get? p.1=some p.2:=by
 obtain⟨b,hb,e⟩:=List.mem_filterMap.mp hp
 cases q:h.get? b with
 |none=>rw[q] at e;cases e
 |some o=>
  rw[q] at e
  have e':(b,o)=p:=Option.some.inj e
  subst e'
  exact⟨hb,q⟩
def Inv.pinned (I:Inv X aa U H s)(hf:∀b∈fp,CZ X aa H b)(ho:∀b∈fp,∃o,s.heap.get? b=some o/\∀v,o.data≠ .cell v):Inv X (aa++Dh fp s.heap) U H s:=
 I.pins_of λp hp=>(List.mem_append.mp hp).elim (λz=>I.pin p (List.mem_append_right _ z)) λz=>by
  obtain⟨hb,e⟩:=II z
  obtain⟨f0,f1,f2,_⟩:=hf p.1 hb
  obtain⟨o,e',d⟩:=ho p.1 hb
  rw[e] at e';cases e'
  exact⟨e,f0,f1,f2,d⟩
def Inv.unpinned (I:Inv X (aa++pl) U H s):Inv X aa U H s:=I.pins_of λp hp=>I.pin p (List.mem_append_right _ (List.mem_append_left _ hp))
def Ab {tb:TS}(hp:PassesOwn (model X.prog X.w) X.A X.env X.xe)(hc:X.calm=true)(hi:PI X tg iter wi)(hg:PG X tg g)(hb:PSs X body tb)
  (hs:∀x,foldedSetIterable iter X.env x=pure x:=by intro _;rfl):PS X (.For tg iter body [] pos) (Il wi g tb):=by
 intro aa s U H D I h
 refine wpAny_For (thn (hi aa s U H _ I h) λv s1 h1=>thn h1 λgB s2 h2=>?_) hs
 obtain⟨it,fp,tn,J,H2,e,I2,T,iW,f2,W,⟨m0,w0⟩,turn⟩:=h2
 subst e
 -- what stays true of dC iterator's objects through dC di
 have gC:∀{H':Hp},(∀b∈fp,H' b=none)->∀b∈fp,CZ X aa H' b:=λhn b hb=>⟨hn b hb,(f2 b hb).2⟩
 refine codeAny_forLoop_any (λn s'=>∃ i U' H',Inv X aa U' H' s'/\tn i s'.heap/\(∀b∈fp,H' b=none)/\W i n U' H') ?_ m0 ⟨0,U,H2,I2,iW,λb hb=>(f2 b hb).1,w0⟩
 rintro n s3 ⟨i,σ3,H3,I3,st3,fr3,w3⟩
 rcases turn i n σ3 H3 w3 with⟨stop,qn⟩ | ⟨go,N,hN,step⟩
 ·refine wpAny_passesOwn hp (thn (T.done X rfl rfl rfl hc i aa s3 σ3 H3 X.xe I3 (gC fr3) st3 stop) λr s4 r9=>?_)
  obtain⟨hr,I4⟩:=r9
  subst hr
  exact wpAny_execs_nil ⟨σ3,H3,I4,qn⟩
 ·refine wpAny_passesOwn hp (thn (T.item X rfl rfl rfl hc i aa s3 σ3 H3 X.xe I3 (gC fr3) st3 go) λr s4 r9=>?_)
  obtain⟨u,hr,h4⟩:=r9
  subst hr
  refine wpAny_passesOwn hp (thn h4 λ_ s5 r9=>?_)
  obtain⟨x,H5,I5,r5,y5,st5,fr5⟩:=r9
  have I5':=I5.pinned (gC fr5) (T.obj _ _ st5)
  refine wpAny_passesOwn hp (thn (hg _ s5 σ3 H5 x u _ I5' r5 (step x H5 y5)) λ_ s6 r9=>?_)
  obtain⟨σ6,H6,I6,q6⟩:=r9
  refine wpAny_passesOwn hp (thn (hb _ s6 σ6 H6 _ I6 q6) λf s7 q7=>?_)
  have again:∀{σ7:St}{H7:Hp},Inv X (aa++Dh fp s5.heap) σ7 H7 s7->N σ7 H7->∃m,m<n/\∃i U' H',Inv X aa U' H' s7/\tn i s7.heap/\(∀b∈fp,H' b=none)/\W i m U' H':=fun {σ7 H7} I7 n7=>by
   obtain⟨m',hm,w7⟩:=hN σ7 H7 n7
   refine⟨m',hm,i+1,σ7,H7,I7.unpinned,T.keep _ _ _ st5 λb hb o e=>(I7.pin (b,o) (List.mem_append_right _ (List.mem_append_right _ (Uk hb e)))).1,λb hb=>?_,w7⟩
   obtain⟨o,e,d⟩:=T.obj _ _ st5 b hb
   exact(I7.pin (b,o) (List.mem_append_right _ (List.mem_append_right _ (Uk hb e)))).2.1
  cases f with
  |next=>obtain⟨σ7,H7,I7,n7⟩:=q7;exact again I7 n7
  |cont=>obtain⟨σ7,H7,I7,n7⟩:=q7;exact again I7 n7
  |brk=>obtain⟨σ7,H7,I7,q7⟩:=q7;exact⟨σ7,H7,I7.unpinned,q7⟩
  |ret v=>obtain⟨x7,σ7,H7,I7,r7,q7⟩:=q7;exact⟨x7,σ7,H7,I7.unpinned,r7,q7⟩
end
abbrev R2:=V->V->Hp->VK->Prop
def OpR (X:Cx)(f:Value->Value->Sem Value)(r:R2):Prop:=
 ∀(aa:List (Addr×Obj)) (s:Shared) (U:St) (H:Hp) (x y:V) (v u:Value) (Q:VK),Inv X aa U H s->XW x v->XW y u->r x y H Q->
  wpAny (model X.prog X.w) X.A (f v u) (EP X aa U Q) X.xe s
def UnR (X:Cx)(f:Value->Sem Value)(r:V->Hp->VK->Prop):Prop:=
 ∀(aa:List (Addr×Obj)) (s:Shared) (U:St) (H:Hp) (x:V) (v:Value) (Q:VK),Inv X aa U H s->XW x v->r x H Q->
  wpAny (model X.prog X.w) X.A (f v) (EP X aa U Q) X.xe s
def Qv (X:Cx)(f:Value)(r:List V->Hp->VK->Prop):Prop:=
 ∀(aa:List (Addr×Obj)) (s:Shared) (U:St) (H:Hp) (xs:List V) (us:List Value) (Q:VK),Inv X aa U H s->XX xs us->r xs H Q->
  wpAny (model X.prog X.w) X.A (call f us) (EP X aa U Q) X.xe s
def tOp (r:R2)(ta tb:TE):TE:=λU H Q=>ta U H λx H1=>tb U H1 λy H2=>r x y H2 Q
def tUn (r:V->Hp->VK->Prop)(ta:TE):TE:=λU H Q=>ta U H λx H1=>r x H1 Q
def rI (C:Int->Int->Prop)(g:Int->Int->V):R2:=λx y H Q=>∃ i j,x= .int i/\y= .int j/\C i j/\Q (g i j) H
def rI0 (g:Int->Int->V):R2:=λx y H Q=>∃ i j,x= .int i/\y= .int j/\Q (g i j) H
def rU (g:Int->V):V->Hp->VK->Prop:=λx H Q=>∃ i,x= .int i/\Q (g i) H
section
variable {a b c:Expr}
def AL (ha:PE X a ta)(hb:PE X b tb){R:V->V->Hp->Prop}(I:Inv X aa U H s)
  (h:ta U H λx H1=>tb U H1 λy H2=>R x y H2){f:Value->Value->Sem Value}
  (hf:∀v u s2 x y H2,Inv X aa U H2 s2->XW x v->XW y u->R x y H2->wpAny (model X.prog X.w) X.A (f v u) Q X.xe s2):
  wpAny (model X.prog X.w) X.A (eval a X.env) (λv s₁=>wpAny (model X.prog X.w) X.A (eval b X.env) (λu s₂=>wpAny (model X.prog X.w) X.A (f v u) Q X.xe s₂) X.xe s₁) X.xe s:=by
 refine thn (ha aa s U H _ I h) λv s1 r9=>?_
 obtain⟨x,H1,I1,r1,q1⟩:=r9
 refine thn (hb aa s1 U H1 _ I1 q1) λu s2 r9=>?_
 obtain⟨y,H2,I2,r2,q2⟩:=r9
 exact hf v u s2 x y H2 I2 r1 r2 q2
def Xi (ho:OpR X (binaryOp op) r)(ha:PE X a ta)(hb:PE X b tb):PE X (.BinOp a op b pos) (tOp r ta tb):=by
 intro aa s U H Q I h
 exact wpAny_BinOp (AL ha hb I h λv u s2 x y H2 I2 rx ry q=>ho aa s2 U H2 x y v u Q I2 rx ry q)
def Zx (ho:UnR X (unaryOp op) r)(ha:PE X a ta):PE X (.UnaryOp op a pos) (tUn r ta):=by
 intro aa s U H Q I h
 exact UnaryOp_ (thn (ha aa s U H _ I h) λv s1 r9=>by obtain⟨x,H1,I1,r1,q1⟩:=r9;exact ho aa s1 U H1 x v Q I1 r1 q1)
def opI {f:Value->Value->Sem Value}{C:Int->Int->Prop}{g:Int->Int->Int}
  (rule:∀(i j:Int) (t u:Tok) (s:Shared) (Q:Value->Shared->Prop) (E:Value->Shared->Prop),C i j->Q (.int (g i j) s.toks) {s with toks:=s.toks+1}->wpAny (model X.prog X.w) X.A (f (.int i t) (.int j u)) Q E s):
  OpR X f (rI C λi j=>.int (g i j)):=by
 intro aa s U H x y v u Q I rx ry h
 obtain⟨i,j,rfl,rfl,hc,q⟩:=h
 obtain⟨t,rfl⟩:=rx
 obtain⟨t',rfl⟩:=ry
 exact rule i j t t' s _ _ hc ⟨.int (g i j),H,I.tok _,⟨_,rfl⟩,q⟩
def qW {f:Value->Value->Sem Value}{g:Int->Int->Int}
  (rule:∀(i j:Int) (t u:Tok) (s:Shared) (Q:Value->Shared->Prop) (E:Value->Shared->Prop),Q (.int (g i j) s.toks) {s with toks:=s.toks+1}->wpAny (model X.prog X.w) X.A (f (.int i t) (.int j u)) Q E s):
  OpR X f (rI0 λi j=>.int (g i j)):=by
 intro aa s U H x y v u Q I rx ry h
 obtain⟨i,j,rfl,rfl,q⟩:=h
 obtain⟨t,rfl⟩:=rx
 obtain⟨t',rfl⟩:=ry
 exact rule i j t t' s _ _ ⟨.int (g i j),H,I.tok _,⟨_,rfl⟩,q⟩
def A6 {f:Value->Value->Sem Value}{g:Int->Int->Bool}
  (rule:∀(i j:Int) (t u:Tok) (s:Shared) (Q:Value->Shared->Prop) (E:Value->Shared->Prop),Q (.bool (g i j)) s->wpAny (model X.prog X.w) X.A (f (.int i t) (.int j u)) Q E s):
  OpR X f (rI0 λi j=>.bl (g i j)):=by
 intro aa s U H x y v u Q I rx ry h
 obtain⟨i,j,rfl,rfl,q⟩:=h
 obtain⟨t,rfl⟩:=rx
 obtain⟨t',rfl⟩:=ry
 exact rule i j t t' s _ _ ⟨.bl (g i j),H,I,rfl,q⟩
def qx (i j:Int):Prop:=0<=j/\j<=1000000/\i.natAbs<2^64
def TV (i j:Int):Prop:=(-(2^64)<i/\i<2^64)∨(-(2^64)<j/\j<2^64)
def TV.ok {j:Int}(h:TV i j):IntMulOk i j:=by
 rcases h with⟨h1,h2⟩ | ⟨h1,h2⟩
 ·exact .of_left (intBits_le_64 h1 h2)
 ·exact .of_right (intBits_le_64 h1 h2)
def XA:OpR X (binaryOp .Add) (rI0 λi j=>.int (i+j)):=qW λ_ _ _ _ _ _ _ q=>add_int q
def Qj:OpR X (binaryOp .Sub) (rI0 λi j=>.int (i-j)):=qW λ_ _ _ _ _ _ _ q=>sub_int q
def Yb:OpR X (binaryOp .Mult) (rI TV λi j=>.int (i*j)):=opI λ_ _ _ _ _ _ _ hc q=>mul_int q hc.ok
def Yd:OpR X (binaryOp .Mod) (rI (λ_ j=>0<j) λi j=>.int (i % j)):=opI λi j _ _ _ _ _ hc q=>by
 have h1:(0:Int)<j:=hc
 exact mod_int' (by omega) (by rw[Int.fmod_eq_emod_of_nonneg i (by omega)];exact q)
def VM:OpR X (binaryOp .Pow) (rI qx λi j=>.int (i^j.toNat)):=opI λ_ _ _ _ _ _ _ hc q=>pow_int_small hc.1 hc.2.1 hc.2.2 q
def unI {f:Value->Sem Value}{g:Int->Int}
  (rule:∀(i:Int) (t:Tok) (s:Shared) (Q:Value->Shared->Prop) (E:Value->Shared->Prop),Q (.int (g i) s.toks) {s with toks:=s.toks+1}->wpAny (model X.prog X.w) X.A (f (.int i t)) Q E s):
  UnR X f (rU λi=>.int (g i)):=by
 intro aa s U H x v Q I rx h
 obtain⟨i,rfl,q⟩:=h
 obtain⟨t,rfl⟩:=rx
 exact rule i t s _ _ ⟨.int (g i),H,I.tok _,⟨_,rfl⟩,q⟩
def Yx:UnR X (unaryOp .USub) (rU λi=>.int (-i)):=unI λ_ _ _ _ _ q=>neg_int q
end
def qm:V->V->Bool
 | .non, .non=>true | .non, .int _=>true | .int _, .non=>true | .non, .bl _=>true | .bl _, .non=>true | .non, .str _=>true | .str _, .non=>true
 | .int _, .int _=>true | .bl _, .bl _=>true | .str _, .str _=>true | .byt _, .byt _=>true
 | .int _, .str _=>true | .str _, .int _=>true | .bl _, .str _=>true | .str _, .bl _=>true
 |_,_=>false
def rEq:R2:=λx y H Q=>qm x y=true/\Q (.bl (decide (x=y))) H
def rNe:R2:=λx y H Q=>qm x y=true/\Q (.bl (!decide (x=y))) H
def MA {j:Int}:decide (V.int i=V.int j)=(i==j):=by
 rw[Bool.eq_iff_iff]
 simp
def O7 {j:Bool}:decide (V.bl i=V.bl j)=(i==j):=by
 rw[Bool.eq_iff_iff]
 simp
def La {j:Str}:decide (V.str i=V.str j)=(i==j):=by
 rw[Bool.eq_iff_iff]
 simp
def MX {j:Array UInt8}:decide (V.byt i=V.byt j)=(i.toList==j.toList):=by
 rw[Bool.eq_iff_iff]
 cases i
 cases j
 simp
section
variable {a b c:Expr}
def X5 {Q:VK}{k:Bool}(I:Inv X aa U H s)(q:Q (.bl k) H)(e:k=k'):EP X aa U Q (.bool k') s:=by
 subst e
 exact⟨.bl k,H,I,rfl,q⟩
def YL:OpR X (compareOp .Eq) rEq:=by
 intro aa s U H x y v u Q I rx ry h
 obtain⟨hs,q⟩:=h
 cases x with
 |non=>
  cases rx
  cases y with
  |non=>cases ry;exact PySem.EqNone.eq_none_none (X5 I q (by simp))
  |bl j=>cases ry;exact PySem.EqNone.eq_none_bool (X5 I q (by simp))
  |int j=>obtain⟨t',rfl⟩:=ry;exact PySem.EqNone.eq_none_int (X5 I q (by simp))
  |str j=>obtain⟨t',rfl⟩:=ry;exact PySem.EqNone.eq_none_str (X5 I q (by simp))
  |_=>exact absurd (show false=true from hs) Bool.false_ne_true
 |bl i=>
  cases rx
  cases y with
  |non=>cases ry;exact PySem.EqNone.eq_bool_none (X5 I q (by simp))
  |bl j=>cases ry;exact eq_bool (X5 I q O7)
  |str j=>obtain⟨t',rfl⟩:=ry;exact PySem.EqMixed.eq_bool_str (X5 I q (by simp))
  |_=>exact absurd (show false=true from hs) Bool.false_ne_true
 |int i=>
  obtain⟨t,rfl⟩:=rx
  cases y with
  |non=>cases ry;exact PySem.EqNone.eq_int_none (X5 I q (by simp))
  |int j=>obtain⟨t',rfl⟩:=ry;exact eq_int (X5 I q MA)
  |str j=>obtain⟨t',rfl⟩:=ry;exact PySem.EqMixed.eq_int_str (X5 I q (by simp))
  |_=>exact absurd (show false=true from hs) Bool.false_ne_true
 |str i=>
  obtain⟨t,rfl⟩:=rx
  cases y with
  |non=>cases ry;exact PySem.EqNone.eq_str_none (X5 I q (by simp))
  |bl j=>cases ry;exact PySem.EqMixed.eq_str_bool (X5 I q (by simp))
  |int j=>obtain⟨t',rfl⟩:=ry;exact PySem.EqMixed.eq_str_int (X5 I q (by simp))
  |str j=>obtain⟨t',rfl⟩:=ry;exact eq_str (X5 I q La)
  |_=>exact absurd (show false=true from hs) Bool.false_ne_true
 |byt i=>
  obtain⟨t,rfl⟩:=rx
  cases y with
  |byt j=>obtain⟨t',rfl⟩:=ry;exact PySem.W.eq_bytes (X5 I q MX)
  |_=>exact absurd (show false=true from hs) Bool.false_ne_true
 |_=>cases y<;> exact absurd (show false=true from hs) Bool.false_ne_true
def HV:OpR X (compareOp .NotEq) rNe:=by
 intro aa s U H x y v u Q I rx ry h
 obtain⟨hs,q⟩:=h
 cases x with
 |non=>
  cases rx
  cases y with
  |non=>cases ry;exact PySem.EqNone.ne_none_none (X5 I q (by simp))
  |bl j=>cases ry;exact PySem.EqNone.ne_none_bool (X5 I q (by simp))
  |int j=>obtain⟨t',rfl⟩:=ry;exact PySem.EqNone.ne_none_int (X5 I q (by simp))
  |str j=>obtain⟨t',rfl⟩:=ry;exact PySem.EqNone.ne_none_str (X5 I q (by simp))
  |_=>exact absurd (show false=true from hs) Bool.false_ne_true
 |bl i=>
  cases rx
  cases y with
  |non=>cases ry;exact PySem.EqNone.ne_bool_none (X5 I q (by simp))
  |bl j=>cases ry;exact ne_bool (X5 I q (congrArg not O7))
  |str j=>obtain⟨t',rfl⟩:=ry;exact PySem.EqMixed.ne_bool_str (X5 I q (by simp))
  |_=>exact absurd (show false=true from hs) Bool.false_ne_true
 |int i=>
  obtain⟨t,rfl⟩:=rx
  cases y with
  |non=>cases ry;exact PySem.EqNone.ne_int_none (X5 I q (by simp))
  |int j=>obtain⟨t',rfl⟩:=ry;exact ne_int (X5 I q (congrArg not MA))
  |str j=>obtain⟨t',rfl⟩:=ry;exact PySem.EqMixed.ne_int_str (X5 I q (by simp))
  |_=>exact absurd (show false=true from hs) Bool.false_ne_true
 |str i=>
  obtain⟨t,rfl⟩:=rx
  cases y with
  |non=>cases ry;exact PySem.EqNone.ne_str_none (X5 I q (by simp))
  |bl j=>cases ry;exact PySem.EqMixed.ne_str_bool (X5 I q (by simp))
  |int j=>obtain⟨t',rfl⟩:=ry;exact PySem.EqMixed.ne_str_int (X5 I q (by simp))
  |str j=>obtain⟨t',rfl⟩:=ry;exact ne_str (X5 I q (congrArg not La))
  |_=>exact absurd (show false=true from hs) Bool.false_ne_true
 |byt i=>
  obtain⟨t,rfl⟩:=rx
  cases y with
  |byt j=>obtain⟨t',rfl⟩:=ry;exact PySem.W.ne_bytes (X5 I q (congrArg not MX))
  |_=>exact absurd (show false=true from hs) Bool.false_ne_true
 |_=>cases y<;> exact absurd (show false=true from hs) Bool.false_ne_true
def UR:OpR X (compareOp .Lt) (rI0 λi j=>.bl (decide (i<j))):=A6 λ_ _ _ _ _ _ _ q=>lt_int q
def Wo:OpR X (compareOp .LtE) (rI0 λi j=>.bl (decide (i<=j))):=A6 λ_ _ _ _ _ _ _ q=>le_int q
def Fb:OpR X (compareOp .Gt) (rI0 λi j=>.bl (decide (j<i))):=A6 λ_ _ _ _ _ _ _ q=>gt_int q
def Hb:OpR X (compareOp .Is) (λx y H Q=>y= .non/\Q (.bl (decide (x= .non))) H):=by
 intro aa s U H x y v u Q I rx ry h
 obtain⟨rfl,q⟩:=h
 cases ry
 refine is_none_gen (X5 I q ?_)
 cases x<;> first
  | (cases rx;rfl)
  | (obtain⟨t,rfl⟩:=rx;rfl)
def Lw:OpR X (compareOp .IsNot) (λx y H Q=>y= .non/\Q (.bl (!decide (x= .non))) H):=by
 intro aa s U H x y v u Q I rx ry h
 obtain⟨rfl,q⟩:=h
 cases ry
 refine isnot_none_gen (X5 I q ?_)
 cases x<;> first
  | (cases rx;rfl)
  | (obtain⟨t,rfl⟩:=rx;rfl)
def Xr (b:Expr)(h:op≠ .In:=by decide)(h2:op≠ .NotIn:=by decide):behindInMarks op b=false:=by
 have e1:(op==CmpOp.In)=false:=by cases op<;> first |rfl |exact absurd rfl h
 have e2:(op==CmpOp.NotIn)=false:=by cases op<;> first |rfl |exact absurd rfl h2
 cases b<;> simp[behindInMarks,e1,e2]
def Y2 (ho:OpR X (compareOp op) r)(ha:PE X a ta)(hb:PE X b tb)(hm:behindInMarks op b=false):PE X (.Compare a [op] [b] pos) (tOp r ta tb):=by
 intro aa s U H Q I h
 exact wpAny_Compare1 (AL ha hb I h λv u s2 x y H2 I2 rx ry q=>ho aa s2 U H2 x y v u Q I2 rx ry q) hm
def OD (t:TE):TT:=λU H Q=>t U H λx H'=>∃ k,x= .bl k/\Q k H'
def Xl (ho:OpR X (compareOp op) r)(ha:PE X a ta)(hb:PE X b tb)(hm:behindInMarks op b=false):PT X (.Compare a [op] [b] pos) (OD (tOp r ta tb)):=by
 intro aa s U H Q I h
 refine wpAny_isTrue_Compare1 (thn (ha aa s U H _ I h) λv s1 ⟨x,H1,I1,r1,q1⟩=>thn (hb aa s1 U H1 _ I1 q1) λu s2 ⟨y,H2,I2,r2,q2⟩=>
  thn (ho aa s2 U H2 x y v u _ I2 r1 r2 q2) λc s3 ⟨z,H3,I3,r3,k,e,q3⟩=>?_) hm
 subst e
 cases r3
 exact wpAny_truthy_bool ⟨H3,I3,q3⟩
def O9 (r r':R2)(ta tb tc:TE):TE:=λU H Q=>ta U H λx H1=>tb U H1 λy H2=>r x y H2 λz H3=>∃ k,z= .bl k/\
 (if k=true then tc U H3 λw' H4=>r' y w' H4 Q else Q (.bl false) H3)
def Ol (ho:OpR X (compareOp op) r)(cN:OpR X (compareOp op') r')(ha:PE X a ta)(hb:PE X b tb)(hc:PE X c tc)
  (hm:lastMarks [op,op'] [b,c]=false:=by with_unfolding_all rfl):PT X (.Compare a [op,op'] [b,c] pos) (OD (O9 r r' ta tb tc)):=by
 intro aa s U H Q I h
 refine isTrue_chain (thn (ha aa s U H _ I h) λv s1 ⟨x,H1,I1,r1,q1⟩=>test_link (thn (hb aa s1 U H1 _ I1 q1) λu s2 ⟨y,H2,I2,r2,q2⟩=>
  thn (ho aa s2 U H2 x y v u _ I2 r1 r2 q2) λd s3 ⟨z,H3,I3,r3,k,e,q3⟩=>?_)) hm
 subst e
 cases r3
 refine wpAny_truthy_bool ?_
 cases k with
 |false=>
  obtain⟨k',e',q'⟩:=q3
  cases e'
  exact ite_ff ⟨H3,I3,q'⟩
 |true=>
  refine ite_tt (test_last (thn (hc aa s3 U H3 _ I3 q3) λw' s4 ⟨z',H4,I4,r4,q4⟩=>thn (cN aa s4 U H4 y z' u w' _ I4 r2 r4 q4) λd' s5 r9=>?_))
  obtain⟨z2,H5,I5,r5,k2,e2,q5⟩:=r9
  subst e2
  cases r5
  exact wpAny_truthy_bool ⟨H5,I5,q5⟩
def Ew:(sizeLine:Nat)<2^63:=by rw[sizeLine_eq];decide
def Uh {x:V}(r:XX [x] us):∃u,us=[u]/\XW x u:=by
 cases r with
 |cons r1 r2=>cases r2;exact⟨_,rfl,r1⟩
def WP {x y:V}(r:XX [x,y] us):∃u w',us=[u,w']/\XW x u/\XW y w':=by
 cases r with
 |cons r1 r2=>
  cases r2 with
  |cons r3 r4=>cases r4;exact⟨_,_,rfl,r1,r3⟩
def OM:Qv X (.builtin "abs") (λxs H Q=>∃ i,xs=[.int i]/\Q (.int (if i<0 then-i else i)) H):=by
 intro aa s U H xs us Q I r h
 obtain⟨i,rfl,q⟩:=h
 obtain⟨u,rfl,t,rfl⟩:=Uh r
 exact call_abs_int λu tk=>⟨.int (if i<0 then-i else i),H,I.tok _,⟨_,rfl⟩,q⟩
def VU (hc:X.calm=true):Qv X (.builtin "max") (λxs H Q=>∃ i j,xs=[.int i, .int j]/\Q (.int (if j > i then j else i)) H):=by
 intro aa s U H xs us Q I r h
 obtain⟨i,j,rfl,q⟩:=h
 obtain⟨u,w',rfl,⟨t,rfl⟩,⟨t',rfl⟩⟩:=WP r
 refine max_two_ints (I.ok.hd hc) λh' tk k=>⟨_,H,I.kept k,?_,q⟩
 by_cases hj:j > i
 ·rw[if_pos hj,if_pos hj];exact⟨_,rfl⟩
 ·rw[if_neg hj,if_neg hj];exact⟨_,rfl⟩
def K8 (hc:X.calm=true):Qv X (.builtin "min") (λxs H Q=>∃ i j,xs=[.int i, .int j]/\Q (.int (if j<i then j else i)) H):=by
 intro aa s U H xs us Q I r h
 obtain⟨i,j,rfl,q⟩:=h
 obtain⟨u,w',rfl,⟨t,rfl⟩,⟨t',rfl⟩⟩:=WP r
 refine min_two_ints (I.ok.hd hc) λh' tk k=>⟨_,H,I.kept k,?_,q⟩
 by_cases hj:j<i
 ·rw[if_pos hj,if_pos hj];exact⟨_,rfl⟩
 ·rw[if_neg hj,if_neg hj];exact⟨_,rfl⟩
def QF:Qv X (.type "int") (λxs H Q=>(∃i,xs=[.int i]/\Q (.int i) H)∨∃k,xs=[.bl k]/\Q (.int (if k then 1 else 0)) H):=by
 intro aa s U H xs us Q I r h
 rcases h with⟨i,rfl,q⟩ | ⟨k,rfl,q⟩
 ·obtain⟨u,rfl,t,rfl⟩:=Uh r
  exact call_int_int ⟨.int i,H,I,⟨_,rfl⟩,q⟩
 ·obtain⟨u,rfl,r1⟩:=Uh r
  cases r1
  exact call_int_bool ⟨.int (if k then 1 else 0),H,I.tok _,⟨_,rfl⟩,q⟩
end
structure ObjM (h:Heap)(x dx C:Addr)(mA:Str->Option Value):Prop where
 obj:h.get? x=some (W.instObj C dx)
 ns:h.Ns1 dx mA
 ne:dx≠x
def Nb {h:Heap}{dx:Addr}{mA:Str->Option Value}(n:h.Ns1 dx mA):∃od,h.get? dx=some od/\∀name,W.lookIn name od=some (mA name):=by
 obtain⟨o,es,ep,ho,hd,hk,_,hm⟩:=n
 refine⟨o,ho,λname=>?_⟩
 have e:=hm name
 unfold nsFind findBy at e
 rw[←Array.find?_toList] at e
 unfold W.lookIn
 rw[hd]
 dsimp only
 split
 ·rename_i y q
  rw[q] at e
  exact congrArg some e
 ·rename_i q
  rw[q] at e
  have a:es.toList.any (·.refKey)=false:=by
   rw[List.any_eq_false]
   intro y hy
   obtain⟨z,t,gD⟩:=hk y (Array.mem_toList_iff.mp hy)
   simp[DictEntry.refKey,gD]
  have a':¬es.toList.any (·.refKey)=true:=by rw[a];exact Bool.false_ne_true
  rw[if_neg a']
  exact congrArg some e
def ObjM.look {x:Addr}(I:ObjM h x dx C mA):∃od,PySem.W.InstAt h x (W.instObj C dx) C (some od)/\∀name,W.lookIn name od=some (mA name):=
 let ⟨od,ho,hl⟩:=Nb I.ns
 ⟨od,⟨I.obj,rfl,rfl,ho⟩,hl⟩
section
variable {x dx C f:Addr}{mA:Str->Option Value}{name:Str}{v:Value}
end
def Ik.some_of (r:Ik (some v) o):∃u,o=some u/\XW v u:=by
 cases o with
 |none=>exact(show False from r).elim
 |some u=>exact⟨u,rfl,r⟩
section
variable {h:Heap}{C dx:Addr}{fs fs':List (Str×V)}
def Tu (hok:HOk P w H h)(e:H a=some (.ins C dx fs)):∃mA,ObjM h a dx C mA/\(∀f,Ik (fs.lookup f) (mA f))/\PySem.Within mA (fs.map (·.1))/\fs.length<=1000/\H dx=some (.own a):=by
 obtain⟨d,z,ne,ob,mA,n,r,q⟩:=(show YT P w H h a (.ins C dx fs) from hok a _ e)
 exact⟨mA,⟨ob,n,ne⟩,r,q,z,d⟩
end
structure Cls (K:W.Frag)(C:Addr):Prop where
 pg:W.plainGet K C Str.empty=true
 hd:PySem.W.hasDictIn K C=true
 po:PySem.W.plainOver K C=true
 sa:W.findIn K (.ref C) "__setattr__" =some (some (.builtin "object.__setattr__"))
def Cls.get (c:Cls K C)(f:Str):W.plainGet K C f=true:=c.pg
section
variable {C dx:Addr}{fs:List (Str×V)}{f:Str}{v:V}
end
section
variable {o value:Expr}{f:Str}{cC tpos:Pos}{tv:TE}
end
section
variable {c:Value}{b:Bool}
inductive TyOf (K:W.Frag)(H:Hp):V->Value->Prop where
 |non:TyOf K H .non (.type "NoneType")
 |bl (x:Bool):TyOf K H (.bl x) (.type "bool")
 |int (i:Int):TyOf K H (.int i) (.type "int")
 |str (x:Str):TyOf K H (.str x) (.type "str")
 |flt (x:UInt64):TyOf K H (.flt x) (.type "float")
 |lst {a:Addr}{xs:List V} (e:H a=some (.lst xs)):TyOf K H (.ref a) (.type "list")
 |frz {a:Addr}{o:Obj}{xs:List V} (e:H a=some (.frz o (.lst xs))):TyOf K H (.ref a) (.type "list")
 |tup {a:Addr}{xs:List V} (e:H a=some (.tup xs)):TyOf K H (.ref a) (.type "tuple")
 |dK {a:Addr}{kvs:List (Key×V)} (e:H a=some (.dK kvs)):TyOf K H (.ref a) (.type "dict")
 |dT {a:Addr}{kvs:List (List Key×V)} (e:H a=some (.dT kvs)):TyOf K H (.ref a) (.type "dict")
 |ins {a C dx:Addr}{fs:List (Str×V)} (e:H a=some (.ins C dx fs)) (cl:Cls K C) (ha:W.findIn K (.ref C) "__class__" =some (some (.builtin "object.__class__")))
   (hn:PySem.W.specialIn K (.builtin "object.__class__") "__get__" =some (some (.builtin "getset_descriptor.__get__"))) (htk:PySem.W.takesIn K (.builtin "object.__class__")=some true)
   (hm:PySem.W.mroIn K C (.type "object")=some true):TyOf K H (.ref a) (.ref C)
def MV {x:V}(I:Inv X aa U H s)(rx:XW x u)(ty:TyOf X.K H x t)(e:W.kitOne X.K t c=some b)(h:∀tk,Q (.bool b) {s with toks:=tk}):
  wpAny (model X.prog X.w) A (call (.builtin "isinstance") [u,c]) Q E s:=by
 cases ty with
 |non=>cases(show u=Value.none from rx);exact W.kia_one PySem.W.kitx_none I.kIn True.intro e (λz=>nomatch z) h
 |bl y=>cases(show u=Value.bool y from rx);exact W.kia_one PySem.W.kitx_bool I.kIn True.intro e (λz=>nomatch z) h
 |int i=>obtain⟨t,q⟩:=(show ∃t,u=Value.int i t from rx);cases q;exact W.kia_one PySem.W.kitx_int I.kIn True.intro e (λz=>nomatch z) h
 |str y=>obtain⟨t,q⟩:=(show ∃t,u=Value.str y t from rx);cases q;exact W.kia_one PySem.W.kitx_str I.kIn True.intro e (λz=>nomatch z) h
 |flt y=>obtain⟨t,q⟩:=(show ∃t,u=Value.float y t from rx);cases q;exact W.kia_one PySem.W.kitx_float I.kIn True.intro e (λz=>nomatch z) h
 | @lst a xs ea=>
  cases(show u=Value.ref a from rx)
  obtain⟨_,_,n,_,h1⟩:=(show YT X.prog X.w H s.heap a (.lst xs) from I.hok a _ ea)
  exact W.kia_one PySem.W.kitx_list I.kIn ⟨_,h1,rfl⟩ e (λz=>nomatch z) h
 | @frz a ob xs ea=>
  cases(show u=Value.ref a from rx)
  obtain⟨_,_,_,n,_,h1⟩:=(show YT X.prog X.w H s.heap a (.frz ob (.lst xs)) from I.hok a _ ea)
  exact W.kia_one PySem.W.kitx_list I.kIn ⟨_,h1,rfl⟩ e (λz=>nomatch z) h
 | @tup a xs ea=>
  cases(show u=Value.ref a from rx)
  obtain⟨_,_,_,p⟩:=(show YT X.prog X.w H s.heap a (.tup xs) from I.hok a _ ea)
  obtain⟨o,h1,h2,_⟩:=p
  exact W.kia_one PySem.W.kitx_tuple I.kIn ⟨o,h1,h2.1⟩ e (λz=>nomatch z) h
 | @dK a kvs ea=>
  cases(show u=Value.ref a from rx)
  obtain⟨_,_,vs,_,p⟩:=(show YT X.prog X.w H s.heap a (.dK kvs) from I.hok a _ ea)
  obtain⟨o,es,ep,h1,h2,_⟩:=p
  exact W.kia_one PySem.W.kitx_dict I.kIn ⟨o,h1,h2.1⟩ e (λz=>nomatch z) h
 | @dT a kvs ea=>
  cases(show u=Value.ref a from rx)
  obtain⟨_,_,xs,_,o,es,ep,h1,h2,_⟩:=(show YT X.prog X.w H s.heap a (.dT kvs) from I.hok a _ ea)
  exact W.kia_one PySem.W.kitx_dict I.kIn ⟨o,h1,h2.1⟩ e (λz=>nomatch z) h
 | @ins a C dx fs ea cl ha hn htk hm=>
  cases(show u=Value.ref a from rx)
  obtain⟨mA,O,_⟩:=Tu I.hok ea
  obtain⟨od,J,_⟩:=O.look
  exact W.kia_one (PySem.W.kitx_own (cl.get _) cl.hd ha hn htk hm) I.kIn J e (λz=>nomatch z) h
end
structure Room (k:Nat)(A:Around):Prop where
 hd:A.handled=none
 dp:A.depth+3*k+5<recursionLimit
 un:A.units+16*k+200<cLine
def Room.mono (r:Room k A)(h:j<=k):Room j A:=⟨r.hd,by have:=r.dp;omega,by have:=r.un;omega⟩
def Room.deeper (r:Room (k+1) A)(env:Env):Room k (A.deeper env):=
 ⟨r.hd,by have:=r.dp;show A.depth+1+3*k+5<_;omega,by have:=r.un;show A.units+3+16*k+200<_;omega⟩
def Room.depth (r:Room k A):A.depth<recursionLimit:=by have:=r.dp;omega
def Room.units (r:Room k A):A.units+64<cLine:=by have:=r.un;omega
def YD:TA:=λ_ H Q=>Q [] H
def Xk (ta:TE)(tr:TA):TA:=λU H Q=>ta U H λx H1=>tr U H1 λxs H2=>Q (x::xs) H2
section
variable {t:TA}
def Xc:PA X [] YD:=λ_ _ _ _ H Q I h=>Calls.spliced_nil ⟨[],H,I, .nil,h⟩
def Xa (ha:PE X e te)(hr:PA X es t)(hs:starEach (e::es) X.env=(false,eval e X.env)::starEach es X.env:=by rfl):PA X (e::es) (Xk te t):=by
 intro pos aa s U H Q I h
 rw[hs]
 show wpAny _ _ (spliced ((false,eval e X.env)::backTo pos (starEach es X.env))) _ _ s
 refine Calls.spliced_cons (thn (ha aa s U H _ I h) λu s1 r9=>?_)
 obtain⟨x,H1,I1,r1,q1⟩:=r9
 exact thn (hr pos aa s1 U H1 _ I1 q1) λus s2 r9=>by obtain⟨xs,H2,I2,r2,q2⟩:=r9;exact⟨x::xs,H2,I2, .cons r1 r2,q2⟩
def Po (t:TA):TE:=λU H Q=>t U H λxs H1=>xs.length<=sizeLine/\∀p,H1 p=none->Q (.ref p) (upd H1 p (.tup xs))
def Nd (t:TA):TE:=λU H Q=>t U H λxs H1=>xs.length<=sizeLine/\∀p,H1 p=none->Q (.ref p) (upd H1 p (.lst xs))
def Yk {x1}(h:PA X es t):PE X (.Tuple es x1 pos) (Po t):=by
 intro aa s U H Q I hq
 refine wpAny_Tuple_spliced (thn (h pos aa s U H _ I hq) λus s1 ⟨xs,H1,I1,r,z,q⟩=>⟨by rw[←r.length];exact z,?_⟩)
 have hf:H1 s1.heap.objs.size=none:=I1.hok.fresh (Nat.le_refl _)
 refine⟨.ref s1.heap.objs.size,upd H1 s1.heap.objs.size (.tup xs),I1.laid (t':=s1.toks) (λb u e=>Heap.get?_push_of_some _ e) (Nat.le_refl _) ?_,rfl,q _ hf⟩
 exact⟨z,us,r,⟨_,Heap.get?_push_size _ rfl,⟨rfl,rfl⟩,_,rfl⟩⟩
def Xs (h:PA X es t):PE X (.List es pos) (Nd t):=by
 intro aa s U H Q I hq
 refine wpAny_List_spliced (thn (h pos aa s U H _ I hq) λus s1 ⟨xs,H1,I1,r,z,q⟩=>⟨by rw[←r.length];exact z,?_⟩)
 have hf:H1 s1.heap.objs.size=none:=I1.hok.fresh (Nat.le_refl _)
 refine⟨.ref s1.heap.objs.size,upd H1 s1.heap.objs.size (.lst xs),I1.laid (t':=s1.toks) (λb u e=>Heap.get?_push_of_some _ e) (Nat.le_refl _) ?_,rfl,q _ hf⟩
 exact⟨z,us,0,r,Heap.get?_push_size _ rfl⟩
end
abbrev Sp:=List V->Hp->VK->XK->Prop
abbrev CXT:=List Env->Hp->Shared->XK->Value->Shared->Prop
structure Env0 (P:Program)(w:World)(K:W.Frag)(mg:Str->Option Value)(base:Heap)(A:Around)(outer:List Env)(s:Shared)(H:Hp):Prop where
 frames:A.frames=some outer
 mod:Mod K mg base
 bs:∀b o,base.get? b=some o->s.heap.get? b=some o/\H b=none
 bsz:base.objs.size<=s.heap.objs.size
 funs:s.heap.FunFrames base outer
 frf:∀b∈frs outer,H b=none
 hok:HOk P w H s.heap
 bare:AllBare s.gens
def CE (outer:List Env)(P:Program)(w:World)(H:Hp)(s:Shared)(Q:VK)(u:Value)(s':Shared):Prop:=
 ∃v H',s'.os=s.os/\AllBare s'.gens/\Un (frs outer) [] H H' s.heap s'.heap/\HOk P w H' s'.heap/\XW v u/\Q v H'
def CR (CX:CXT)(outer:List Env)(P:Program)(w:World)(H:Hp)(s:Shared)(Q:VK)(E:XK)(r:Result)(s':Shared):Prop:=
 match r with
 | .ok (.ret u)=>CE outer P w H s Q u s'
 | .ok _=>False
 | .error e=>CX outer H s E e s'
structure FnOk (P:Program)(w:World)(K:W.Frag)(mg:Str->Option Value)(base:Heap)(CX:CXT)(k:Nat)(f:Addr)(fd:FuncData)(ps:List Str)(sp:Sp):Prop where
 len:∀vs H Q E,sp vs H Q E->vs.length=ps.length
 run:∀(A:Around) (outer:List Env) (s:Shared) (H:Hp) (args:Args) (us:List Value) (vs:List V) (Q:VK) (E:XK),Room k A->Env0 P w K mg base A outer s H->BindsTo s fd args (ps.zip us)->XX vs us->sp vs H Q E->
  codeAny (model P w) A (.call (.ref f) args) (CR CX outer P w H s Q E) s
section
variable {s':Shared}
def Inv.env0 (I:Inv X aa U H s):Env0 X.prog X.w X.K X.mg X.base X.A X.stack s H:=
 ⟨I.ok.frames,I.ok.mod,I.bs,Nat.le_trans I.ok.bsz I.sz,I.stack,I.stkFree,I.hok,I.bare⟩
def Inv.after {Q:VK}(I:Inv X aa U H s)(h:CE X.stack X.prog X.w H s Q u s'):EP X aa U Q u s':=by
 obtain⟨v,H',os,bare,un,hok,r,q⟩:=h
 obtain⟨hh,g,d,t,os'⟩:=s'
 obtain rfl:os'=s.os:=os
 exact⟨v,H',I.call (h':=hh) (g':=g) (d':=d) (t':=t) (ch:=[]) un hok bare (λb z=>absurd z (by simp)),r,q⟩
end
def Jd (sp:Sp)(gb:List V)(E:XK)(t:TA):TE:=λU H Q=>t U H λvs H1=>sp (vs++gb) H1 Q E
def BP (K:W.Frag)(fd:FuncData)(ps:List Str)(ds:List Value):Prop:=
 ∀(s:Shared) (us:List Value),K.In s.heap->(us++ds).length=ps.length->BindsTo s fd ⟨us,[]⟩ (ps.zip (us++ds))
def BP.all (h:∀us:List Value,us.length=ps.length->bindArgs fd ⟨us,[]⟩=pure (ps.zip us)):BP K fd ps []:=λs us _ hl=>by
 rw[List.append_nil] at hl⊢
 exact .of_eq (h us hl)
def MO (CX:CXT)(X:Cx)(E:XK):Prop:=∀ (aa:List (Addr×Obj)) (U:St) (H:Hp) (s:Shared) (e:Value) (s':Shared),Inv X aa U H s->CX X.stack H s E e s'->X.xe e s'
section
variable {CX:CXT}{f C:Addr}{sp:Sp}{gb:List V}{ds:List Value}{E:XK}{m:Str}{p aB:Pos}{o:Expr}{t:TA}
def WH {Q:VK}(F:FnOk X.prog X.w X.K X.mg X.base CX k f fd ps sp)(hr:Room k X.A)(hb:BP X.K fd ps ds)(hd:XX gb ds)(hx:MO CX X E)
  (I:Inv X aa U H s)(r:XX vs us)(h:sp (vs++gb) H Q E):wpAny (model X.prog X.w) X.A (call (.ref f) us) (EP X aa U Q) X.xe s:=by
 have r2:XX (vs++gb) (us++ds):=r.append hd
 have hl:(us++ds).length=ps.length:=by rw[←r2.length];exact F.len _ _ _ _ h
 refine wpAny_call (codeAny_mono (F.run X.A X.stack s H ⟨us,[]⟩ (us++ds) (vs++gb) Q E hr I.env0 (hb s us I.kIn hl) r2 h) λr s' hq=>?_)
 cases r with
 |error e=>exact hx aa U H s e s' I hq
 |ok fl=>
  cases fl with
  |ret u=>exact I.after hq
  |next=>exact False.elim hq
  |brk=>exact False.elim hq
  |cont=>exact False.elim hq
def Rk (F:FnOk X.prog X.w X.K X.mg X.base CX k f fd ps sp)(hr:Room k X.A)(hg:Gl X x)(hm:X.mg x=some (.ref f))(hk:W.keepIn X.K (.ref f)=true)(hb:BP X.K fd ps ds)(hd:XX gb ds)(hx:MO CX X E)
  (ha:PA X (e::es) t)(fD:(x==("__debug__":Str))=false:=by decide)(he:starEach (e::es) X.env=(false,eval e X.env)::starEach es X.env:=by rfl)(hpl:(backTo pos (starEach es X.env)).any (·.1)=false:=by rfl):
  PE X (.Call (.Name x p) (e::es) [] pos) (Jd sp gb E t):=by
 intro aa s U H Q I h
 refine wpAny_Call_Name_kw (Lh I hg hm ?_ fD)
 refine PySem.W.callWith_K (h₀:=X.base) I.ok.mod.kin hk (thn (ha pos aa s U H _ I h) λus s1 ⟨vs,H1,I1,r,q⟩=>⟨I1.kIn,?_⟩) he hpl
 exact WH F hr hb hd hx I1 r q
end
section
variable {CX:CXT}{f C:Addr}{ks:List Str}{sp:Sp}{E:XK}{m:Str}{p aB kpos:Pos}{o:Expr}{kws:List Keyword}{t tk:TA}{nm:Option Str}
variable {g:List Value->List Value->List Value}{gV:List V->List V->List V}
end
structure FnScope (N P:List Str)(sc:Scope):Prop where
 kind:sc.kind= .function:=by rfl
 co:sc.isCoroutine=false:=by rfl
 gen:sc.isGenerator=false:=by rfl
 nd:N.Nodup:=by decide+kernel
 pre:N.take P.length=P:=by rfl
 par:∀x∈P,sc.names.lookup x=some .local∨sc.names.lookup x=some .cell:=by decide+kernel
 nofree:∀y∈sc.names,y.2≠ .free:=by decide+kernel
def Co {kindOf:Str->Option NameKind}:∀{binds:List (Str×Value)}{m:Str->Option Value},(∀v,(x,v)∉binds)->bindL kindOf binds m x=m x
 | [],_,_=>rfl
 | (n,v)::r,m,h=>by
  unfold bindL
  rw[Co λw hw=>h w (List.mem_cons_of_mem _ hw)]
  split
  ·have:x≠n:=by rintro rfl;exact h v List.mem_cons_self
   simp[this]
  ·rfl
def Cb {kindOf:Str->Option NameKind}:∀{binds:List (Str×Value)}{m:Str->Option Value},(∀v,(x,v)∉binds)->bindC kindOf binds m x=m x
 | [],_,_=>rfl
 | (n,v)::r,m,h=>by
  unfold bindC
  rw[Cb λw hw=>h w (List.mem_cons_of_mem _ hw)]
  split
  ·rfl
  ·have:x≠n:=by rintro rfl;exact h v List.mem_cons_self
   simp[this]
def DZ {kindOf:Str->Option NameKind}{v:Value}:∀{P:List Str}{vs:List Value}{i:Nat}{m:Str->Option Value},P.Nodup->P[i]?=some x->vs[i]?=some v->kindOf x=some .local->
  bindL kindOf (P.zip vs) m x=some v
 | [],_,_,_,_,h,_,_=>by simp at h
 |_::_,[],_,_,_,_,h,_=>by simp at h
 |p::P,w::vs,0,m,nd,h1,h2,hk=>by
  simp at h1 h2;subst h1;subst h2
  show bindL kindOf ((p,w)::P.zip vs) m p=_
  unfold bindL
  rw[Co λv hv=>(List.nodup_cons.mp nd).1 (List.of_mem_zip hv).1,if_pos hk]
  simp
 |p::P,w::vs,i+1,m,nd,h1,h2,hk=>by
  show bindL kindOf ((p,w)::P.zip vs) m x=_
  unfold bindL
  exact DZ (i:=i) (List.nodup_cons.mp nd).2 (by simpa using h1) (by simpa using h2) hk
def CH {kindOf:Str->Option NameKind}{v:Value}:∀{P:List Str}{vs:List Value}{i:Nat}{m:Str->Option Value},P.Nodup->P[i]?=some x->vs[i]?=some v->kindOf x≠some .local->
  bindC kindOf (P.zip vs) m x=some v
 | [],_,_,_,_,h,_,_=>by simp at h
 |_::_,[],_,_,_,_,h,_=>by simp at h
 |p::P,w::vs,0,m,nd,h1,h2,hk=>by
  simp at h1 h2;subst h1;subst h2
  show bindC kindOf ((p,w)::P.zip vs) m p=_
  unfold bindC
  rw[Cb λv hv=>(List.nodup_cons.mp nd).1 (List.of_mem_zip hv).1,if_neg hk]
  simp
 |p::P,w::vs,i+1,m,nd,h1,h2,hk=>by
  show bindC kindOf ((p,w)::P.zip vs) m x=_
  unfold bindC
  exact CH (i:=i) (List.nodup_cons.mp nd).2 (by simpa using h1) (by simpa using h2) hk
def Kg (N:List Str)(vs:List V):St:=vs.map some++List.replicate (N.length-vs.length) none
def Ih (CX:CXT)(P:Program)(w:World)(K:W.Frag)(mg:Str->Option Value)(base:Heap)(N:List Str)(qual:Str)(scope:Scope)(f:Addr)(cd:Value)(A:Around)(outer:List Env)(s:Shared)(H:Hp)(E:XK):Cx where
 prog:=P
 w:=w
 K:=K
 mg:=mg
 base:=base
 A:=A.deeper (envOfC qual scope s.heap.objs.size f cd)
 N:=N
 s₀:=s
 H₀:=H
 env:=envOfC qual scope s.heap.objs.size f cd
 outer:=outer
 stack:=envOfC qual scope s.heap.objs.size f cd::outer
 ex:=[]
 calm:=true
 fn:=λ_=>true
 pn:=[]
 xe:=λe s'=>wpAny (model P w) (A.deeper (envOfC qual scope s.heap.objs.size f cd)) (leaving (envOfC qual scope s.heap.objs.size f cd) e) (λ_ s''=>CX outer H s E e s'') (λe' s''=>CX outer H s E e' s'') s'
def Hs {sc:Scope}(h:sc.names.lookup x=some .cell):∃c,(cellsFrom n sc.names []).lookup x=some c:=by
 have q:=PySem.W.cellsFrom_some sc.names n [] (.inl h)
 exact Option.isSome_iff_exists.mp q
def M7 {CX:CXT}{qual:Str}{f:Addr}{cd:Value}{outer:List Env}{s1:Shared}{E:XK}{vs:List V}
  (S:FnScope N ps scope)(hd:A.handled=none)(e0:Env0 P w K mg base A outer s H)(hl:vs.length=ps.length)(r:XX vs us)
  (x:InCallC s s.heap.objs.size (bindL (envOfC qual scope s.heap.objs.size f cd).kindOf (ps.zip us) λ_=>none) (cellsFrom (s.heap.objs.size+1) scope.names []) (bindC (envOfC qual scope s.heap.objs.size f cd).kindOf (ps.zip us) λ_=>none) s1):
  Inv (Ih CX P w K mg base N qual scope f cd A outer s H E) [] (Kg N vs) H s1:=by
 have hpl:ps.length<=N.length:=by have:=congrArg List.length S.pre;rw[List.length_take] at this;omega
 obtain⟨h1,tk,rfl,hk⟩:=x.done
 have iX:∀b:Addr,b∉(Ih CX P w K mg base N qual scope f cd A outer s H E).ex:=λb z=>absurd (show b∈([]:List Addr) from z) (by simp)
 refine⟨⟨e0.mod,S.kind,rfl,rfl,Nat.le_refl _,λy z c h1 h2=>?_,λy hy=>?_,λy c _ h=>?_,λ_=>hd,Around.frames_deeper e0.frames, .inr ⟨rfl,rfl⟩,λb z=>absurd z (iX b),e0.bs,e0.bsz,λb _ _=>iX b,λb z=>absurd z (iX b),e0.funs,e0.frf⟩,
  rfl,e0.bare,Un.kept hk,⟨_,x.toInCall.ns,λi y v h1 h2 h3=>?_⟩,λy c h=>⟨_,x.cell y c h⟩,e0.hok.fresh (Nat.le_refl _),λy c h=>?_,λp hp=>absurd (show p∈([]:List (Addr×Obj)) from hp) (by simp),e0.hok.kept hk,?_⟩
 ·exact name_of_addr x.apart (mem_of_lookup h1) (mem_of_lookup h2)
 ·have hy:scope.names.lookup y=some .cell∨scope.names.lookup y=some .free:=hy
  rcases hy with hy |hy
  ·exact Hs hy
  ·exact absurd rfl (S.nofree _ (mem_of_lookup hy))
 ·exact Nat.le_of_lt (x.above y c (mem_of_lookup h))
 ·have hi:i<vs.length:=by
   unfold Kg at h2
   by_cases hi:i<vs.length
   ·exact hi
   ·rw[List.getElem?_append_right (by simpa using hi)] at h2
    rw[List.getElem?_replicate] at h2
    split at h2<;> cases h2
  have ha:vs[i]?=some v:=by
   unfold Kg at h2
   rw[List.getElem?_append_left (by simpa using hi),List.getElem?_map] at h2
   cases e:vs[i]? with
   |none=>rw[e] at h2;cases h2
   |some a=>rw[e] at h2;cases h2;rfl
  obtain⟨u,hu,rv⟩:=r.get ha
  have hp:ps[i]?=some y:=by
   rw[←S.pre,List.getElem?_take_of_lt (by omega)];exact h1
  have ndP:ps.Nodup:=by rw[←S.pre];exact S.nd.sublist (List.take_sublist _ _)
  refine⟨u,rv,?_⟩
  rcases S.par y (List.mem_of_getElem? hp) with k |k
  ·exact .inl ⟨k,DZ ndP hp hu k⟩
  ·obtain⟨c,e⟩:=Hs (n:=s.heap.objs.size+1) k
   refine .inr ⟨.inl k,c,e,?_⟩
   have q:=x.cell y c e
   rw[CH ndP hp hu (by show scope.names.lookup y≠_;rw[k];decide)] at q
   exact q
 ·exact e0.hok.fresh (Nat.le_of_lt (x.above y c (mem_of_lookup h)))
 ·unfold Kg
  show _=N.length
  rw[List.length_append,List.length_map,List.length_replicate]
  omega
def AN {CX:CXT}{f:Addr}{name qual:Str}{params:Arguments}{body:List Stmt}{dV kV doc pm aj ct oc:Value}{an od:Option Addr}
  {cO:Array (Option Value)}{sp:Sp}(lk:K.lookup f=some ⟨oc,od, .func (W.fnOf name qual params body scope dV kV doc pm an aj ct),cO⟩)(eJ:W.codeIn K aj qual=true)(S:FnScope N ps scope)
  (len:∀vs H Q E,sp vs H Q E->vs.length=ps.length)
  (cU:∀(A:Around) (outer:List Env) (s:Shared) (H:Hp) (vs:List V) (Q:VK) (E:XK),Room k (A.deeper (envOfC qual scope s.heap.objs.size f aj))->sp vs H Q E->
   ∃t,PSs (Ih CX P w K mg base N qual scope f aj A outer s H E) body t/\t {nx:=λ_ H'=>Q .non H',rt:=Q} (Kg N vs) H):
  FnOk P w K mg base CX (k+1) f (W.fnOf name qual params body scope dV kV doc pm an aj ct) ps sp:=by
 refine⟨len,λA outer s H args us vs Q E hr e0 hb r cV=>?_⟩
 have hl:=len _ _ _ _ cV
 have KX:K.In s.heap:=e0.mod.kin.keeps λb o e=>(e0.bs b o e).1
 have lim:s.heap.NoLimit:=e0.mod.nolimit.keeps λb o e=>(e0.bs b o e).1
 have eL:∀y∈ps.zip us,scope.names.lookup y.1=some .local∨(scope.names.lookup y.1=some .cell/\((cellsFrom (s.heap.objs.size+1) scope.names []).lookup y.1).isSome=true):=λ⟨n,v⟩ hy=>by
  rcases S.par n (List.of_mem_zip hy).1 with q |q
  ·exact .inl q
  ·exact .inr ⟨q,PySem.W.cellsFrom_some _ _ _ (.inl q)⟩
 refine codeAny_call_function hr.depth (KX _ _ lk) rfl S.co S.gen rfl (PySem.W.codeRec_of KX eJ) (hb _ _ _ _ ?_)
 refine wpAny_newFunctionEnv_cells S.kind eL λenv he s1 x=>?_
 subst he
 refine⟨lim.keeps x.toInCall.keep,codeAny_func ?_⟩
 obtain⟨t,ht,hq⟩:=cU A outer s H vs Q E (hr.deeper _) cV
 have I:Inv (Ih CX P w K mg base N qual scope f aj A outer s H E) [] (Kg N vs) H s1:=M7 S hr.hd e0 hl r x
 refine wpAny_mono (ht [] s1 (Kg N vs) H _ I hq) (λfl s' hs=>?_) λe s' hs=>hs
 have fin:∀{U':St}{H':Hp}{v:V}{u:Value},Inv (Ih CX P w K mg base N qual scope f aj A outer s H E) [] U' H' s'->XW v u->Q v H'->CE outer P w H s Q u s':=
  fun {U' H' v u} J rv q=>⟨v,H',J.os,J.bare,J.base,J.hok,rv,q⟩
 cases fl with
 |ret u=>
  obtain⟨v,U',H',J,rv,q⟩:=hs
  exact fin J rv q
 |next=>
  obtain⟨U',H',J,q⟩:=hs
  exact fin (v:=V.non) (u:=Value.none) J rfl q
 |brk=>
  obtain⟨_,_,_,q⟩:=hs
  exact False.elim q
 |cont=>
  obtain⟨_,_,_,q⟩:=hs
  exact False.elim q
section
variable {p:Pos}{t:TA}{id T:String}{r:List V->Hp->VK->Prop}
def tCB (r:List V->Hp->VK->Prop)(t:TA):TE:=λU H Q=>t U H λvs H1=>r vs H1 Q
def XF (hc:Qv X (.builtin id) r)(hg:Gl X x)(hm:X.mg x=none)(hv:bootBuiltins x=some (.builtin id))(ha:PA X (e::es) t)(hn:x≠ "__name__":=by decide)(fD:(x==("__debug__":Str))=false:=by decide)
  (he:starEach (e::es) X.env=(false,eval e X.env)::starEach es X.env:=by rfl)(hpl:(backTo pos (starEach es X.env)).any (·.1)=false:=by rfl):PE X (.Call (.Name x p) (e::es) [] pos) (tCB r t):=by
 intro aa s U H Q I h
 refine wpAny_Call_Name_kw (Ju I hg hm hv ?_ hn fD)
 exact callWith_builtin1 (thn (ha pos aa s U H _ I h) λus s1 r9=>by obtain⟨vs,H1,I1,r1,q1⟩:=r9;exact hc aa s1 U H1 vs us Q I1 r1 q1) he hpl
def Yg (hc:Qv X (.type T) r)(hg:Gl X x)(hm:X.mg x=none)(hv:bootBuiltins x=some (.type T))(ha:PA X (e::es) t)(hn:x≠ "__name__":=by decide)(fD:(x==("__debug__":Str))=false:=by decide)
  (he:starEach (e::es) X.env=(false,eval e X.env)::starEach es X.env:=by rfl)(hpl:(backTo pos (starEach es X.env)).any (·.1)=false:=by rfl):PE X (.Call (.Name x p) (e::es) [] pos) (tCB r t):=by
 intro aa s U H Q I h
 refine wpAny_Call_Name_kw (Ju I hg hm hv ?_ hn fD)
 exact callWith_type1 (thn (ha pos aa s U H _ I h) λus s1 r9=>by obtain⟨vs,H1,I1,r1,q1⟩:=r9;exact hc aa s1 U H1 vs us Q I1 r1 q1) he hpl
end
end L2
namespace HT
open PySem PyProof.Rows
section
open PySem.SeqAt
open PySem.AutoSeq1 (wpAny_loadPart')
open PySem.MeetsSeq PySem.MeetsSeq2 PySem.MeetsSeq3
end
section
def cat_tup (ht:IsTup s.heap t vs.toArray)(hb:IsTup s.heap b ws.toArray)(hv:vs≠ [])
  (h1:ws=[]->Q (.ref t) s)(h2:ws≠ []->Q (.ref s.heap.objs.size) {s with heap:=s.heap.push {cls:=.type "tuple",data:=.seq (vs++ws).toArray}})
  (hsz:vs.length+ws.length<=sizeLine):wpAny (model prog w) A (binaryOp .Add (.ref t) (.ref b)) Q E s:=by
 obtain⟨⟨cls,dd,data,sl⟩,ho,hc,n,hd⟩:=id ht
 obtain⟨⟨cls2,dd2,data2,sl2⟩,d9,eM,n2,fE⟩:=id hb
 simp only at hc hd eM fE
 subst hc hd eM fE
 have e:vs.toArray++ws.toArray=(vs++ws).toArray:=by simp
 by_cases hw:ws=[]
 ·exact concat_meets ⟨_,ho,rfl⟩ ⟨_,d9,rfl⟩ noFill_tuple_add seq_tuple_add PySem.F.slot_tuple_add PySem.F.entry_tuple_add (PySem.F.args_tuple_add_2 _ _)
   (tuple_addW1 t b vs.toArray ws.toArray n n2 dd dd2 sl sl2 (by simpa using hv) (by simp[hw])) ⟨ho,d9,h1 hw⟩
 ·refine concat_meets ⟨_,ho,rfl⟩ ⟨_,d9,rfl⟩ noFill_tuple_add seq_tuple_add PySem.F.slot_tuple_add PySem.F.entry_tuple_add (PySem.F.args_tuple_add_2 _ _)
   (tuple_addW2 t b vs.toArray ws.toArray n n2 dd dd2 sl sl2 (by simpa using hv) (by simpa using hw) (by rw[List.size_toArray,List.size_toArray];exact hsz)) ⟨ho,d9,?_⟩
  rw[e]
  exact h2 hw
def sIx (n d:Nat):Option Int->Nat
 |none=>d
 |some v=>if v<0 then(v+(n:Int)).toNat else min v.toNat n
def sIx_none (n d:Nat):sIx n d none=d:=rfl
def sIx_nat (n d k:Nat):sIx n d (some (k:Int))=min k n:=by
 show(if(k:Int)<0 then((k:Int)+(n:Int)).toNat else min (k:Int).toNat n)=min k n
 rw[if_neg (by omega),Int.toNat_natCast]
def sIx_le (n d:Nat)(hd:d<=n)(o:Option Int):sIx n d o<=n:=by
 cases o with
 |none=>exact hd
 |some v=>
  show(if v<0 then(v+(n:Int)).toNat else min v.toNat n)<=n
  by_cases hv:v<0
  ·rw[if_pos hv];omega
  ·rw[if_neg hv];exact Nat.min_le_right _ _
def Lg (v:Int)(n d:Nat):(if v<0 then max (v+(n:Int)) 0 else min v (n:Int))=((sIx n d (some v):Nat):Int):=by
 show(if v<0 then max (v+(n:Int)) 0 else min v (n:Int))=(((if v<0 then(v+(n:Int)).toNat else min v.toNat n):Nat):Int)
 by_cases hv:v<0
 ·simp only[if_pos hv];omega
 ·simp only[if_neg hv];omega
def HH (lo hi:Option Int)(n:Nat):Builtin.Slice.sliceAdjust lo hi 1 (n:Int)=(((sIx n 0 lo:Nat):Int),((sIx n n hi:Nat):Int)):=by
 have h1:¬((1:Int)<0):=by omega
 unfold Builtin.Slice.sliceAdjust
 simp only[h1,if_false]
 refine Prod.ext ?_ ?_
 ·cases lo with
  |none=>rfl
  |some v=>exact Lg v n 0
 ·cases hi with
  |none=>rfl
  |some v=>exact Lg v n n
def HG (i j:Nat):Builtin.Slice.slicePlaces (i:Int) (j:Int) 1=j-i:=by
 unfold Builtin.Slice.slicePlaces
 have h1:(1:Int) > 0:=by omega
 simp only[h1,if_true,Int.ediv_one]
 split<;> omega
def Gs {Q:Option Int->Shared->Prop}(p:IsPart v o)(h:Q o s):wpAny (model prog w) A (Builtin.Slice.slicePartIndex v) Q E s:=by
 cases p with
 |none=>exact slicePart_none h
 |int i t=>exact slicePart_int h
def UO {sl:Addr}{vl vu:Value}{lo hi:Option Int}{Q:Int×Int×Nat->Shared->Prop}(hs:s.heap.IsSliceOf sl vl vu .none)(pl:IsPart vl lo)(pu:IsPart vu hi)
  (h:Q (((sIx n 0 lo:Nat):Int),1,sIx n n hi-sIx n 0 lo) s):wpAny (model prog w) A (Builtin.Slice.sliceApplied (.ref sl) (pure (n:Int))) Q E s:=by
 obtain⟨os,ed,fo,gc⟩:=id hs
 unfold Builtin.Slice.sliceApplied Builtin.Slice.sliceFields
 refine wpAny_bind (wpAny_bind (wpAny_field ed gc (x:=vl) rfl (wpAny_bind (wpAny_field ed gc (x:=vu) rfl (wpAny_bind (wpAny_field ed gc (x:=.none) rfl (wpAny_pure ?_)))))))
 refine wpAny_bind (slicePart_none ?_)
 show wpAny _ _ (if((1:Int)==0)=true then _ else _) _ _ s
 rw[if_neg (by decide)]
 refine wpAny_bind (Gs pl (wpAny_bind (Gs pu (wpAny_bind (wpAny_pure ?_)))))
 show wpAny _ _ (match Builtin.Slice.sliceAdjust lo hi 1 (n:Int) with | (lo,hi)=>pure (lo,(1:Int),Builtin.Slice.slicePlaces lo hi 1)) _ _ s
 rw[HH lo hi n]
 show wpAny _ _ (pure (((sIx n 0 lo:Nat):Int),(1:Int),Builtin.Slice.slicePlaces ((sIx n 0 lo:Nat):Int) ((sIx n n hi:Nat):Int) 1)) _ _ s
 rw[HG]
 exact wpAny_pure h
def O3 (xs:Array Value)(i k:Nat):((List.range k).filterMap λ(m:Nat)=>xs[((i:Int)+(m:Int)*1).toNat]?).toArray=((xs.toList.drop i).take k).toArray:=by
 have e:(λ(m:Nat)=>xs[((i:Int)+(m:Int)*1).toNat]?)=λm=>xs[i+m]?:=by
  funext m
  have:((i:Int)+(m:Int)*1).toNat=i+m:=by omega
  rw[this]
 rw[e]
 have:=pick_run xs i k
 rw[List.filterMap_map] at this
 have e2:((λx=>xs[x]?)∘λx=>i+x)=λm=>xs[i+m]?:=rfl
 rw[e2] at this
 rw[this]
def getItem_tuple_cut {t sl:Addr}{items:Array Value}{vl vu:Value}{lo hi:Option Int}(ht:IsTup s.heap t items)(hs:s.heap.IsSliceOf sl vl vu .none)(pl:IsPart vl lo)(pu:IsPart vu hi)
  (hw:¬(sIx items.size 0 lo=0/\sIx items.size items.size hi=items.size))
  (h:Q (.ref s.heap.objs.size) {s with heap:=s.heap.push {cls:=.type "tuple",data:=.seq ((items.toList.drop (sIx items.size 0 lo)).take (sIx items.size items.size hi-sIx items.size 0 lo)).toArray}})
  (hsz:items.size<=sizeLine):wpAny (model prog w) A (getItem (.ref t) (.ref sl)) Q E s:=by
 have dF:sizeOk (.seq ((items.toList.drop (sIx items.size 0 lo)).take (sIx items.size items.size hi-sIx items.size 0 lo)).toArray):=by
  show((items.toList.drop (sIx items.size 0 lo)).take (sIx items.size items.size hi-sIx items.size 0 lo)).toArray.size<=sizeLine
  rw[List.size_toArray,List.length_take,List.length_drop,Array.length_toList]
  omega
 have hj:sIx items.size items.size hi<=items.size:=sIx_le _ _ (Nat.le_refl _) hi
 obtain⟨os,ed,fo,gc⟩:=id hs
 have hTs:s.TypeIs (.ref sl) "slice":=⟨os,ed,fo⟩
 unfold getItem
 try with_reducible refine wpAny_holding ?_
 first |refine wpAny_bind (wpAny_pure ?_) |skip
 refine wpAny_bind (wpAny_sequenceKey ht.typeIs (by decide) ?_)
 refine wpAny_bind (wpAny_callSpecial?_slot (name:=Str.ofString "__getitem__") ht.typeIs PyProof.Rows.slot_tuple_getitem
  (wpAny_call_entry PyProof.Rows.slot_tuple_getitem ht.typeIs entry_tuple_getitem ?_ (args_tuple_getitem _ _)))
 show wpAny _ _ (Builtin.Tuple.tupleItemsOf (.ref t) >>= _) _ _ s
 refine wpAny_bind (tupleItemsOf_ ht ?_)
 refine wpAny_bind (wpAny_typeOf hTs ?_)
 rw[if_pos (by decide)]
 refine wpAny_bind (UO hs pl pu ?_)
 have hno:¬((((sIx items.size 0 lo:Nat):Int)==0&&(1:Int)==1&&(sIx items.size items.size hi-sIx items.size 0 lo)==items.size)=true):=by
  intro q
  rw[Bool.and_eq_true,Bool.and_eq_true] at q
  have q1:((sIx items.size 0 lo:Nat):Int)=0:=eq_of_beq q.1.1
  have q2:sIx items.size items.size hi-sIx items.size 0 lo=items.size:=eq_of_beq q.2
  exact hw ⟨by omega,by omega⟩
 show wpAny _ _ (if(((sIx items.size 0 lo:Nat):Int)==0&&(1:Int)==1&&(sIx items.size items.size hi-sIx items.size 0 lo)==items.size)=true then _ else _) _ _ s
 rw[if_neg hno,O3]
 first
  |exact wpAny_bind (m:=Builtin.Tuple.tupleExact _) (wpAny_newObj_type (wpAny_pure ⟨_,rfl,wpAny_pure h⟩) dF)
  |exact wpAny_bind (m:=Builtin.Tuple.tupleExact _) (wpAny_newObj_type (wpAny_bind (wpAny_pure (wpAny_pure ⟨_,rfl,wpAny_pure h⟩))) dF)
  |exact wpAny_bind (wpAny_bind (m:=Builtin.Tuple.tupleExact _) (wpAny_newObj_type (wpAny_pure (wpAny_pure ⟨_,rfl,wpAny_pure h⟩)) dF))
  |exact wpAny_bind (wpAny_bind (m:=Builtin.Tuple.tupleExact _) (wpAny_newObj_type (wpAny_pure ⟨_,rfl,wpAny_pure h⟩) dF))
end
end HT
namespace L2
open PySem PySem.Spec PyProof.Rows
abbrev TO:=St->Hp->(Option Int->Hp->Prop)->Prop
def PO (X:Cx)(e:Option Expr)(t:TO):Prop:=
 ∀(aa:List (Addr×Obj)) (s:Shared) (U:St) (H:Hp) (Q:Option Int->Hp->Prop),Inv X aa U H s->t U H Q->
  wpAny (model X.prog X.w) X.A (evalPart e X.env) (λu s'=>∃ o H',Inv X aa U H' s'/\IsPart u o/\Q o H') X.xe s
def BS:TO:=λ_ H Q=>Q none H
def Sc (t:TE):TO:=λU H Q=>t U H λx H1=>∃ i,x= .int i/\Q (some i) H1
def HB:∀{us:List Value},XX (ns.map V.int) us->IntsAre us ns:=by
 induction ns with
 |nil=>intro us r;rw[List.map_nil] at r;cases r;exact .nil
 |cons n ns ih=>
  intro us r
  rw[List.map_cons] at r
  cases r with
  |cons r1 r2=>
   obtain⟨t,e⟩:=r1
   subst e
   exact .cons n t (ih r2)
section
variable {lo hi:Option Expr}{tl th:TO}{p2:Pos}
def Yj:PO X none BS:=by
 intro aa s U H Q I h
 rw[evalPart_none]
 exact wpAny_pure ⟨none,H,I, .none,h⟩
def XO (h:PE X e te):PO X (some e) (Sc te):=by
 intro aa s U H Q I hw
 rw[evalPart_some]
 refine thn (h aa s U H _ I hw) λu s1 r9=>?_
 obtain⟨x,H1,I1,r1,q1⟩:=r9
 obtain⟨i,rfl,q⟩:=q1
 obtain⟨t,rfl⟩:=r1
 exact⟨some i,H1,I1, .int i t,q⟩
def SlR (X:Cx)(r:V->Option Int->Option Int->Hp->VK->Prop):Prop:=
 ∀(aa:List (Addr×Obj)) (s:Shared) (U:St) (H:Hp) (x:V) (v vl vu:Value) (lo hi:Option Int) (sl:Addr) (Q:VK),Inv X aa U H s->XW x v->s.heap.IsSliceOf sl vl vu .none->IsPart vl lo->IsPart vu hi->r x lo hi H Q->
  ∃T id,typeLookup (.type T) "__getitem__" =pure (some (.builtin id))/\s.TypeIs v T/\wpAny (model X.prog X.w) X.A (getItem v (.ref sl)) (EP X aa U Q) X.xe s
def tSl (r:V->Option Int->Option Int->Hp->VK->Prop)(te:TE)(tl th:TO):TE:=λU H Q=>te U H λx H1=>tl U H1 λl H2=>th U H2 λu H3=>r x l u H3 Q
def XM (hr:SlR X r)(he:PE X e te)(hl:PO X lo tl)(hu:PO X hi th):PE X (.Subscript e (.Slice lo hi none p2) pos) (tSl r te tl th):=by
 intro aa s U H Q I h
 refine Subscript_ (thn (he aa s U H _ I h) λv s1 r9=>?_)
 obtain⟨x,H1,I1,r1,q1⟩:=r9
 refine wpAny_Slice (thn (hl aa s1 U H1 _ I1 q1) λvl s2 ⟨l,H2,I2,pl,q2⟩=>thn (hu aa s2 U H2 _ I2 q2) λvu s3 r9=>?_)
 obtain⟨u,H3,I3,pu,q3⟩:=r9
 rw[evalPart_none]
 refine wpAny_pure ?_
 have I4:Inv X aa U H3 {s3 with heap:=s3.heap.push {cls:=.type "slice",data:=.fields #[vl,vu, .none]}}:=I3.kept (t':=s3.toks) λb ob q=>Heap.get?_push_of_some _ q
 obtain⟨T,id,hT,ht,hg⟩:=hr aa {s3 with heap:=s3.heap.push {cls:=.type "slice",data:=.fields #[vl,vu, .none]}} U H3 x v vl vu l u s3.heap.objs.size Q I4 r1 (Heap.IsSliceOf.new ..) pl pu q3
 show wpAny (model X.prog X.w) X.A (subscriptTail e (.Slice lo hi none p2) v (.ref s3.heap.objs.size)) (EP X aa U Q) X.xe {s3 with heap:=s3.heap.push {cls:=.type "slice",data:=.fields #[vl,vu, .none]}}
 exact tail_any (ops:=[.ref s3.heap.objs.size,v]) ht hT hg (by with_unfolding_all rfl)
def Pp (xs:List V)(lo hi:Option Int):List V:=(xs.drop (HT.sIx xs.length 0 lo)).take (HT.sIx xs.length xs.length hi-HT.sIx xs.length 0 lo)
def KQ (xs:List V)(lo hi:Option Int):(Pp xs lo hi).length<=xs.length:=by
 unfold Pp
 rw[List.length_take,List.length_drop]
 omega
def AE (K:W.Frag):V->Option Int->Option Int->Hp->VK->Prop:=λx lo hi H Q=>∃ a xs,x= .ref a/\SqT K H a xs/\
 ¬(HT.sIx xs.length 0 lo=0/\HT.sIx xs.length xs.length hi=xs.length)/\∀p,H p=none->Q (.ref p) (upd H p (.tup (Pp xs lo hi)))
def WR:SlR X (AE X.K):=by
 intro aa s U H x v vl vu lo hi sl Q I rx hs pl pu h
 obtain⟨a,xs,rfl,hx,hw,q⟩:=h
 cases rx
 obtain⟨its,r,ht,hz⟩:=I.tuple hx
 have ae:its.toArray.size=xs.length:=by rw[List.size_toArray];exact r.length.symm
 refine⟨"tuple",_,PyProof.Rows.slot_tuple_getitem.lookup,ht.typeIs,?_⟩
 refine HT.getItem_tuple_cut ht hs pl pu (by rw[ae];exact hw) ?_ (by rw[ae];exact hz)
 rw[ae]
 refine⟨.ref s.heap.objs.size,_,I.laid (t':=s.toks) (o:=.tup (Pp xs lo hi)) (λb ob q=>Heap.get?_push_of_some _ q) (Nat.le_refl _) ?_,rfl,q _ (I.hok.fresh (Nat.le_refl _))⟩
 exact⟨Nat.le_trans (KQ xs lo hi) hz,_,(r.drop (HT.sIx xs.length 0 lo)).take (HT.sIx xs.length xs.length hi-HT.sIx xs.length 0 lo),UF.new _ _⟩
def AY (K:W.Frag):R2:=λx y H Q=>∃ a b xs ys,x= .ref a/\y= .ref b/\SqT K H a xs/\SqT K H b ys/\xs≠ []/\xs.length+ys.length<=sizeLine/\
 (ys=[]->Q (.ref a) H)/\(ys≠ []->∀p,H p=none->Q (.ref p) (upd H p (.tup (xs++ys))))
def XX.nil_iff (r:XX xs us):us=[]↔xs=[]:=by
 cases r with
 |nil=>simp
 |cons _ _=>simp
def Rh:OpR X (binaryOp .Add) (AY X.K):=by
 intro aa s U H x y v u Q I rx ry h
 obtain⟨a,b,xs,ys,rfl,rfl,ha,hb,hx,hz,q1,q2⟩:=h
 cases rx
 cases ry
 obtain⟨its,r1,p1,_⟩:=I.tuple ha
 obtain⟨aC,r2,p2,_⟩:=I.tuple hb
 refine HT.cat_tup p1 p2 (λz=>hx (r1.nil_iff.mp z)) (λz=>⟨.ref a,H,I,rfl,q1 (r2.nil_iff.mp z)⟩) (λz=>?_) (by rw[←r1.length, ←r2.length];exact hz)
 refine⟨.ref s.heap.objs.size,_,I.laid (t':=s.toks) (o:=.tup (xs++ys)) (λb ob q=>Heap.get?_push_of_some _ q) (Nat.le_refl _) ?_,rfl,q2 (λw=>z (r2.nil_iff.mpr w)) _ (I.hok.fresh (Nat.le_refl _))⟩
 exact⟨by rw[List.length_append];exact hz,_,r1.append r2,UF.new _ _⟩
end
def ixN (n:Nat)(i:Int):Option Nat:=if 0<=i then(if i<n then some i.toNat else none) else if-(n:Int)<=i then some (i+n).toNat else none
def atI (xs:List M)(i:Int):Option M:=(ixN xs.length i).bind λj=>xs[j]?
def Mv (h:ixN n i=some j):seqIndex? i n=some j/\j<n/\ -(n:Int)<=i/\i<n:=by
 unfold ixN at h
 by_cases h0:0<=i
 ·rw[if_pos h0] at h
  by_cases h1:i<n
  ·rw[if_pos h1] at h
   have e:i.toNat=j:=Option.some.inj h
   exact⟨by rw[seqIndex_of h0 h1,e],by omega,by omega,h1⟩
  ·rw[if_neg h1] at h;cases h
 ·rw[if_neg h0] at h
  by_cases h1: -(n:Int)<=i
  ·rw[if_pos h1] at h
   have e:(i+n).toNat=j:=Option.some.inj h
   exact⟨by rw[seqIndex_neg (by omega) h1,e],by omega,h1,by omega⟩
  ·rw[if_neg h1] at h;cases h
def LW {xs:List M}(h:atI xs i=some v):∃j,seqIndex? i xs.length=some j/\xs[j]?=some v/\j<xs.length/\ -(xs.length:Int)<=i/\i<xs.length:=by
 unfold atI at h
 cases e:ixN xs.length i with
 |none=>rw[e] at h;cases h
 |some j=>
  rw[e] at h
  obtain⟨h1,h2,h3,h4⟩:=Mv e
  exact⟨j,h1,h,h2,h3,h4⟩
def LJ (b:Expr):Prop:=∀ o i,subscripted b false o i=operate [o,i] (getItem o i)
def IxR (X:Cx)(r:R2):Prop:=
 ∀(value slice:Expr) (aa:List (Addr×Obj)) (s:Shared) (U:St) (H:Hp) (x y:V) (v u:Value) (Q:VK),Inv X aa U H s->XW x v->XW y u->r x y H Q->
  subscripted slice false v u=operate [v,u] (getItem v u)->wpAny (model X.prog X.w) X.A (subscriptTail value slice v u) (EP X aa U Q) X.xe s
def MtR (X:Cx)(id:String)(r:V->List V->Hp->VK->Prop):Prop:=
 ∀(aa:List (Addr×Obj)) (s:Shared) (U:St) (H:Hp) (x:V) (xs:List V) (v:Value) (us:List Value) (Q:VK),Inv X aa U H s->XW x v->XX xs us->r x xs H Q->
  wpAny (model X.prog X.w) X.A (call (.builtin id) (v::us)) (EP X aa U Q) X.xe s
section
variable {a b:Expr}
def RZ (hr:IxR X r)(ha:PE X a ta)(hb:PE X b tb)(hs:LJ b):PE X (.Subscript a b pos) (tOp r ta tb):=by
 intro aa s U H Q I h
 exact Subscript_ (AL ha hb I h λv u s2 x y H2 I2 rx ry q=>hr a b aa s2 U H2 x y v u Q I2 rx ry q (hs _ _))
def Ij (K:W.Frag):R2:=λx y H Q=>∃ p xs i v,x= .ref p/\y= .int i/\SqL K H p xs/\atI xs i=some v/\Q v H
def CY (K:W.Frag):R2:=λx y H Q=>∃ p xs i v,x= .ref p/\y= .int i/\SqT K H p xs/\atI xs i=some v/\Q v H
def R9:IxR X (Ij X.K):=by
 intro value slice aa s U H x y v u Q I rx ry h hs
 obtain⟨p,xs,i,z,rfl,rfl,hq,he,q⟩:=h
 cases rx
 obtain⟨t,rfl⟩:=ry
 obtain⟨its,r,pl,hz⟩:=I.list hq
 obtain⟨j,h1,h2,h3,h4,h5⟩:=LW he
 obtain⟨w,ew,cD⟩:=r.get h2
 have hl:=r.length
 have hn:=Ew
 have fin:EP X aa U Q w s:=⟨z,H,I,cD,q⟩
 by_cases h0:0<=i
 ·have hj:i.toNat=j:=by
   rw[seqIndex_of h0 h5] at h1
   exact Option.some.inj h1
  exact item_listR pl.isList h0 (by omega) (by rw[hj];simpa using ew) fin hs
 ·have hj:(i+(its.toArray.size:Int)).toNat=j:=by
   rw[seqIndex_neg (by omega) h4] at h1
   rw[List.size_toArray, ←hl]
   exact Option.some.inj h1
  exact subscriptTail_builtinR (x:=w) pl.isList.typeIs slot_list_getitem.lookup
   (wpAny_getItem_list_neg (Q:=λr s'=>r=w/\EP X aa U Q r s') pl.isList (by omega) (by rw[List.size_toArray]<;> omega) (by omega) (by rw[hj];simpa using ew) ⟨rfl,fin⟩) hs
def W0:IxR X (CY X.K):=by
 intro value slice aa s U H x y v u Q I rx ry h hs
 obtain⟨p,xs,i,z,rfl,rfl,hq,he,q⟩:=h
 cases rx
 obtain⟨t,rfl⟩:=ry
 obtain⟨its,r,pl,hz⟩:=I.tuple hq
 obtain⟨j,h1,h2,h3,h4,h5⟩:=LW he
 obtain⟨w,ew,cD⟩:=r.get h2
 have hl:=r.length
 have hn:=Ew
 have fin:EP X aa U Q w s:=⟨z,H,I,cD,q⟩
 exact subscriptTail_builtinR (x:=w) pl.typeIs slot_tuple_getitem.lookup
  (getItem_tuple (j:=j) (Q:=λr s'=>r=w/\EP X aa U Q r s') pl (by omega) (by omega) (by rw[List.size_toArray, ←hl];exact h1) (by simpa using ew) ⟨rfl,fin⟩) hs
def HS (its:List Value)(n j:Nat)(u:Value):Obj.mapSeq (·.setIfInBounds j u) {cls:=.type "list",data:=.seq its.toArray n}={cls:=.type "list",data:=.seq (its.set j u).toArray n}:=by
 simp[Obj.mapSeq]
def Inv.lst (I:Inv X aa U H s)(h:H p=some (.lst xs)):
  ∃(its:List Value) (n:Nat),XX xs its/\s.heap.get? p=some {cls:=.type "list",data:=.seq its.toArray n}/\xs.length<=sizeLine:=by
 obtain⟨z,its,n,r,e⟩:=I.hok p _ h
 exact⟨its,n,r,e,z⟩
def Inv.lstUpd (I:Inv X aa U H s)(h:H p=some (.lst xs))
  (ho:s.heap.get? p=some {cls:=.type "list",data:=.seq its.toArray n})(hf:f {cls:=.type "list",data:=.seq its.toArray n}={cls:=.type "list",data:=.seq its'.toArray n'})(r:XX ys its')(hz:ys.length<=sizeLine)(t:Nat):
  Inv X aa U (upd H p (.lst ys)) {s with heap:=s.heap.update p f,toks:=t}:=by
 have e:(s.heap.update p f).get? p=some {cls:=.type "list",data:=.seq its'.toArray n'}:=by
  rw[Heap.get?_update_self f ho (by rw[hf]<;> rfl),hf]
 refine I.write (x:=p) (e:=p) (by rw[h];trivial) (.inl rfl) (λb u hb q=>(Heap.get?_update_other _ _ (Ne.symm hb)).trans q) ⟨_,e⟩ ?_
 exact⟨hz,its',n',r,e⟩
def N7:V->V->V->Hp->(Hp->Prop)->Prop:=λo i v H Q=>∃ p xs k j,o= .ref p/\i= .int k/\H p=some (.lst xs)/\ixN xs.length k=some j/\Q (upd H p (.lst (xs.set j v)))
def Qd:qQ X N7:=by
 intro aa s U H o i v ov iv u Q I ro ri rv h
 obtain⟨p,xs,k,j,rfl,rfl,hp,hj,q⟩:=h
 cases ro
 obtain⟨t,rfl⟩:=ri
 obtain⟨its,n,r,ho,hz⟩:=I.lst hp
 obtain⟨h1,h2,h3,h4⟩:=Mv hj
 have hl:=r.length
 have hn:=Ew
 have I':Inv X aa U (upd H p (.lst (xs.set j v))) {s with heap:=s.heap.update p (Obj.mapSeq (·.setIfInBounds j u))}:=
  I.lstUpd hp ho (HS its n j u) (r.set rv j) (by rw[List.length_set];exact hz) s.toks
 by_cases h0:0<=k
 ·have hk:k.toNat=j:=by
   rw[seqIndex_of h0 h4] at h1
   exact Option.some.inj h1
  exact PySem.W.ki_setAt ho h0 (by omega) (by rw[List.size_toArray, ←hl];exact h4) (by rw[hk];exact⟨_,I',q⟩)
 ·have hk:(k+(its.toArray.size:Int)).toNat=j:=by
   rw[seqIndex_neg (by omega) h3] at h1
   rw[List.size_toArray, ←hl]
   exact Option.some.inj h1
  exact PySem.W.ki_setBack ho (by omega) (by rw[List.size_toArray, ←hl];exact h3) (by omega) (by rw[hk];exact⟨_,I',q⟩)
def Us (lo hi:Option Int)(n:Nat):(sliceBounds lo hi none n).1=((HT.sIx n 0 lo:Nat):Int)/\(sliceBounds lo hi none n).2.1=((HT.sIx n n hi:Nat):Int)/\(sliceBounds lo hi none n).2.2=1:=by
 refine⟨?_,?_,rfl⟩
 ·cases lo with
  |none=>simp[sliceBounds,HT.sIx]
  |some i=>
   simp only[sliceBounds,HT.sIx,Option.getD_none,show(1:Int) > 0 by decide,if_true]
   by_cases h:i<0
   ·simp only[h,if_true]<;> omega
   ·simp only[h,if_false]<;> omega
 ·cases hi with
  |none=>simp[sliceBounds,HT.sIx]
  |some i=>
   simp only[sliceBounds,HT.sIx,Option.getD_none,show(1:Int) > 0 by decide,if_true]
   by_cases h:i<0
   ·simp only[h,if_true]<;> omega
   ·simp only[h,if_false]<;> omega
def F5 (its:List Value)(lo hi:Option Int):slicePick its.toArray lo hi none=((its.drop (HT.sIx its.length 0 lo)).take (HT.sIx its.length its.length hi-HT.sIx its.length 0 lo)).toArray:=by
 obtain⟨h1,h2,h3⟩:=Us lo hi its.toArray.size
 unfold slicePick
 rw[h1,h2,h3]
 simp only[sliceRange_one,pick_run,List.size_toArray]<;> rfl
def Aq (K:W.Frag):V->Option Int->Option Int->Hp->VK->Prop:=λx lo hi H Q=>∃ a xs,x= .ref a/\SqL K H a xs/\∀p,H p=none->Q (.ref p) (upd H p (.lst (Pp xs lo hi)))
def S3:SlR X (Aq X.K):=by
 intro aa s U H x v vl vu lo hi sl Q I rx hs pl pu h
 obtain⟨a,xs,rfl,hx,q⟩:=h
 cases rx
 obtain⟨its,r,ht,hz⟩:=I.list hx
 have ae:=r.length
 refine⟨"list",_,slot_list_getitem.lookup,ht.isList.typeIs,?_⟩
 refine wpAny_getItem_list_slice ht.isList hs pl pu .none (by simp) ?_ (by rw[List.size_toArray]<;> omega)
 rw[F5, ←ae]
 refine⟨.ref s.heap.objs.size,_,I.laid (t':=s.toks) (o:=.lst (Pp xs lo hi)) (λb ob q=>Heap.get?_push_of_some _ q) (Nat.le_refl _) ?_,rfl,q _ (I.hok.fresh (Nat.le_refl _))⟩
 exact⟨Nat.le_trans (KQ xs lo hi) hz,_,0,(r.drop (HT.sIx xs.length 0 lo)).take (HT.sIx xs.length xs.length hi-HT.sIx xs.length 0 lo),Heap.get?_push_size _ rfl⟩
def Vy:V->Bool
 | .non=>true
 | .bl _=>true
 | .int _=>true
 | .str _=>true
 |_=>false
def eqV:V->V->Bool
 | .non, .non=>true
 | .bl a, .bl b=>a==b
 | .bl a, .int b=>(if a then 1 else 0)==b
 | .int a, .bl b=>a==(if b then 1 else 0)
 | .int a, .int b=>a==b
 | .str a, .str b=>a==b
 |_,_=>false
def Wn {y x:V}(ry:XW y u)(rx:XW x v)(fy:Vy y=true)(fx:Vy x=true):SeqAt.EqAt A s u v (eqV y x):=by
 cases y with
 |non=>
  cases ry
  cases x with
  |non=>cases rx;exact SeqAt.EqAt.same _
  |bl b=>cases rx;exact SeqAt.EqAt.none_bool b
  |int b=>obtain⟨t,rfl⟩:=rx;exact SeqAt.EqAt.none_int b t
  |str b=>obtain⟨t,rfl⟩:=rx;exact SeqAt.EqAt.none_str b t
  |_=>exact absurd (show false=true from fx) Bool.false_ne_true
 |bl a=>
  cases ry
  cases x with
  |non=>cases rx;exact SeqAt.EqAt.bool_none a
  |bl b=>cases rx;exact SeqAt.EqAt.bool_bool a b
  |int b=>obtain⟨t,rfl⟩:=rx;exact SeqAt.EqAt.bool_int a b t
  |str b=>obtain⟨t,rfl⟩:=rx;exact SeqAt.EqAt.bool_str a b t
  |_=>exact absurd (show false=true from fx) Bool.false_ne_true
 |int a=>
  obtain⟨t',rfl⟩:=ry
  cases x with
  |non=>cases rx;exact SeqAt.EqAt.int_none a t'
  |bl b=>cases rx;exact SeqAt.EqAt.int_bool a t' b
  |int b=>obtain⟨t,rfl⟩:=rx;exact SeqAt.EqAt.int_int a t' b t
  |str b=>obtain⟨t,rfl⟩:=rx;exact SeqAt.EqAt.int_str a t' b t
  |_=>exact absurd (show false=true from fx) Bool.false_ne_true
 |str a=>
  obtain⟨t',rfl⟩:=ry
  cases x with
  |non=>cases rx;exact SeqAt.EqAt.str_none a t'
  |bl b=>cases rx;exact SeqAt.EqAt.str_bool a t' b
  |int b=>obtain⟨t,rfl⟩:=rx;exact SeqAt.EqAt.str_int a t' b t
  |str b=>obtain⟨t,rfl⟩:=rx;exact SeqAt.EqAt.str_str a t' b t
  |_=>exact absurd (show false=true from fx) Bool.false_ne_true
 |_=>exact absurd (show false=true from fy) Bool.false_ne_true
def eqU (x:V)(u:Value):Bool:=match u with
 | .none=>eqV .non x
 | .bool b=>eqV (.bl b) x
 | .int i _=>eqV (.int i) x
 | .str z _=>eqV (.str z) x
 |_=>false
def Hg {x y:V}(r:XW y u)(f:Vy y=true):eqU x u=eqV y x:=by
 cases y with
 |non=>cases r;rfl
 |bl b=>cases r;rfl
 |int i=>obtain⟨t,rfl⟩:=r;rfl
 |str z=>obtain⟨t,rfl⟩:=r;rfl
 |_=>exact absurd (show false=true from f) Bool.false_ne_true
def Kz {x:V}:∀{xs:List V}{us:List Value},XX xs us->xs.all Vy=true->us.any (eqU x)=xs.any λy=>eqV y x
 |_,_, .nil,_=>rfl
 |y::xs,u::us, .cons r t,f=>by
  rw[List.all_cons,Bool.and_eq_true] at f
  rw[List.any_cons,List.any_cons,Hg r f.1,Kz t f.2]
def QM {x:V}(rx:XW x v)(fx:Vy x=true):∀{xs:List V}{us:List Value},XX xs us->xs.all Vy=true->∀u∈us,SeqAt.EqAt A s u v (eqU x u)
 |_,_, .nil,_=>λu hu=>by cases hu
 |y::xs,u::us, .cons r t,f=>λu' hu=>by
  rw[List.all_cons,Bool.and_eq_true] at f
  rcases List.mem_cons.mp hu with rfl |hu
  ·rw[Hg r f.1];exact Wn r rx f.1 fx
  ·exact QM rx fx t f.2 u' hu
def inV (x:V)(xs:List V):Bool:=xs.any λy=>eqV y x
def rIn (K:W.Frag)(neg:Bool):R2:=λx y H Q=>∃ p xs,y= .ref p/\(SqL K H p xs∨SqT K H p xs)/\Vy x=true/\xs.all Vy=true/\Q (.bl (if neg then !inV x xs else inV x xs)) H
def Kx:OpR X (compareOp .In) (rIn X.K false):=by
 intro aa s U H x y v u Q I rx ry h
 obtain⟨p,xs,rfl,hq,fx,fs,q⟩:=h
 cases ry
 rcases hq with hq |hq
 ·obtain⟨its,r,pl,hz⟩:=I.list hq
  refine SeqAt.in_listAt (eqU x) pl.isList (λw hw=>QM rx fx r fs w (by simpa using hw)) ⟨.bl _,H,I,rfl,?_⟩
  rw[show its.toArray.any (eqU x)=its.any (eqU x) by simp,Kz r fs]
  exact q
 ·obtain⟨its,r,pl,hz⟩:=I.tuple hq
  refine SeqAt.in_tupleAt (eqU x) pl (λw hw=>QM rx fx r fs w (by simpa using hw)) ⟨.bl _,H,I,rfl,?_⟩
  rw[show its.toArray.any (eqU x)=its.any (eqU x) by simp,Kz r fs]
  exact q
def Jm:OpR X (compareOp .NotIn) (rIn X.K true):=by
 intro aa s U H x y v u Q I rx ry h
 obtain⟨p,xs,rfl,hq,fx,fs,q⟩:=h
 cases ry
 rcases hq with hq |hq
 ·obtain⟨its,r,pl,hz⟩:=I.list hq
  refine SeqAt.notIn_listAt (eqU x) pl.isList (λw hw=>QM rx fx r fs w (by simpa using hw)) ⟨.bl _,H,I,rfl,?_⟩
  rw[show its.toArray.any (eqU x)=its.any (eqU x) by simp,Kz r fs]
  exact q
 ·obtain⟨its,r,pl,hz⟩:=I.tuple hq
  refine SeqAt.notIn_tupleAt (eqU x) pl (λw hw=>QM rx fx r fs w (by simpa using hw)) ⟨.bl _,H,I,rfl,?_⟩
  rw[show its.toArray.any (eqU x)=its.any (eqU x) by simp,Kz r fs]
  exact q
def CG:Qv X (.builtin "len") (λxs H Q=>∃ p ys,xs=[.ref p]/\(SqL X.K H p ys∨SqT X.K H p ys)/\Q (.int ys.length) H):=by
 intro aa s U H xs us Q I r h
 obtain⟨p,ys,rfl,hq,q⟩:=h
 obtain⟨u,rfl,rx⟩:=Uh r
 cases rx
 have hn:=Ew
 rcases hq with hq |hq
 ·obtain⟨its,r',pl,hz⟩:=I.list hq
  have ae:=r'.length
  exact Calls.call_len_list pl.isList (by simp only[List.size_toArray]<;> omega) ⟨.int ys.length,H,I.tok _,⟨s.toks+1,by rw[List.size_toArray,ae]⟩,q⟩
 ·obtain⟨its,r',pl,hz⟩:=I.tuple hq
  have ae:=r'.length
  exact len_tuple pl (by simp only[List.size_toArray]<;> omega) ⟨.int ys.length,H,I.tok _,⟨s.toks+1,by rw[List.size_toArray,ae]⟩,q⟩
def Dg:Qv X (.type "list") (λxs H Q=>∃ p ys,xs=[.ref p]/\(SqL X.K H p ys∨SqT X.K H p ys)/\∀l,H l=none->Q (.ref l) (upd H l (.lst ys))):=by
 intro aa s U H xs us Q I r h
 obtain⟨p,ys,rfl,hq,q⟩:=h
 obtain⟨u,rfl,rx⟩:=Uh r
 cases rx
 have fin:∀(its:List Value),XX ys its->ys.length<=sizeLine->∀(h':Heap) (c':Nat),(∀b o',s.heap.get? b=some o'->h'.get? b=some o')->
   h'.get? s.heap.objs.size=some {cls:=.type "list",dict:=none,data:=.seq its.toArray c',slots:=#[]}->EP X aa U Q (.ref s.heap.objs.size) {s with heap:=h'}:=λits r' hz h' c' kp e=>
  ⟨.ref s.heap.objs.size,_,I.laid (t':=s.toks) kp (Nat.le_refl _) (show YT X.prog X.w _ h' _ (.lst ys) from⟨hz,its,c',r',e⟩),rfl,q _ (I.hok.fresh (Nat.le_refl _))⟩
 rcases hq with hq |hq
 ·obtain⟨its,r',pl,hz⟩:=I.list hq
  have ae:=r'.length
  obtain⟨o,ho,hc,n,hd⟩:=pl.isList
  exact call_list_seq p (.inl rfl) ho hc hd (λh' c' kp e=>fin its r' hz h' c' kp e) (by simp only[List.size_toArray]<;> omega)
 ·obtain⟨its,r',pl,hz⟩:=I.tuple hq
  have ae:=r'.length
  obtain⟨o,ho,hc,n,hd⟩:=pl
  exact call_list_seq p (.inr rfl) ho hc hd (λh' c' kp e=>fin its r' hz h' c' kp e) (by simp only[List.size_toArray]<;> omega)
def tyV (K:W.Frag)(T:String)(x:V)(H:Hp):Prop:=match x with
 | .str _=>T= "str"
 | .int _=>T= "int"
 | .ref p=>(T= "list" /\∃xs,SqL K H p xs)∨(T= "tuple" /\∃o,K.lookup p=some o/\o.cls= .type "tuple" /\o.dict=none)∨
   (T= "dict" /\((∃kvs,H p=some (.dK kvs))∨∃kvs,H p=some (.dT kvs)))∨(T= "set" /\∃S n,H p=some (.set S n))
 |_=>False
def Px {x:V}(I:Inv X aa U H s)(r:XW x v)(ty:tyV X.K T x H):
  s.TypeIs v T/\∀a,v= .ref a->∃ob,s.heap.get? a=some ob/\ob.dict=none:=by
 cases x with
 |str z=>
  obtain⟨t,rfl⟩:=r
  cases(show T= "str" from ty)
  exact⟨typeIs_str s z t,λ_ e=>nomatch e⟩
 |int i=>
  obtain⟨t,rfl⟩:=r
  cases(show T= "int" from ty)
  exact⟨typeIs_int s i t,λ_ e=>nomatch e⟩
 |ref p=>
  cases r
  rcases ty with⟨rfl,xs,hq⟩ | ⟨rfl,o,hk,hc,hd⟩ | ⟨rfl,hk⟩ | ⟨rfl,S,n,hk⟩
  ·obtain⟨its,_,pl,_⟩:=I.list hq
   refine⟨pl.isList.typeIs,λa e=>?_⟩
   cases e
   obtain⟨o,n,e,c,hd,_⟩:=pl
   exact⟨o,e,hd⟩
  ·refine⟨⟨o,I.kIn p o hk,hc⟩,λa e=>?_⟩
   cases e
   exact⟨o,I.kIn _ o hk,hd⟩
  ·have z:∃o,s.heap.get? p=some o/\o.ExactDict:=by
    rcases hk with⟨kvs,hk⟩ | ⟨kvs,hk⟩
    ·obtain⟨_,_,_,_,o,_,_,e,ex,_⟩:=I.hok p _ hk
     exact⟨o,e,ex⟩
    ·obtain⟨_,_,_,_,o,_,_,e,ex,_⟩:=I.hok p _ hk
     exact⟨o,e,ex⟩
   obtain⟨o,e,ex⟩:=z
   refine⟨⟨o,e,ex.1⟩,λa e2=>?_⟩
   cases e2
   exact⟨o,e,ex.2.1⟩
  ·obtain⟨o,_,_,_,e,ex,_⟩:=I.hok p _ hk
   refine⟨⟨o,e,ex.1⟩,λa e2=>?_⟩
   cases e2
   exact⟨o,e,ex.2.1⟩
 |_=>exact False.elim ty
def qc (K:W.Frag)(T:String)(r:V->List V->Hp->VK->Prop)(to:TE):TE:=λU H Q=>to U H λx H1=>tyV K T x H1/\r x [] H1 Q
def tBM (K:W.Frag)(T:String)(r:V->List V->Hp->VK->Prop)(to:TE)(t:TA):TE:=λU H Q=>to U H λx H1=>tyV K T x H1/\t U H1 λxs H2=>r x xs H2 Q
variable {o:Expr}{to:TE}{t:TA}{name:Str}{aB am:Pos}{T id:String}{r:V->List V->Hp->VK->Prop}
def Wm (pa:PlainAttrs T)(slot:Slot T name id)(gE:typeOf (.builtin id)=pure (.type "method_descriptor"))(hm:MtR X id r)(ho:PE X o to)
  (bE:attributeBase o name X.env (eval o X.env)=eval o X.env:=by rfl)(bF:(aB.endLine==am.line)=true:=by rfl):PE X (.Call (.Attribute o name aB) [] [] am) (qc X.K T r to):=by
 intro aa s U H Q I h
 refine wpAny_Call_method0_late bE bF (thn (ho aa s U H _ I h) λv s1 r9=>?_)
 obtain⟨x,H1,I1,r1,ty,q1⟩:=r9
 obtain⟨h1,h2⟩:=Px I1 r1 ty
 exact⟨T,id,pa,slot,gE,h1,h2,Calls.callWith_builtin rfl (PySem.evalArgs_none (hm aa s1 U H1 x [] v [] Q I1 r1 .nil q1))⟩
def YW (pa:PlainAttrs T)(slot:Slot T name id)(gE:typeOf (.builtin id)=pure (.type "method_descriptor"))(hm:MtR X id r)(ho:PE X o to)(ha:PA X (e::es) t)
  (bE:attributeBase o name X.env (eval o X.env)=eval o X.env:=by rfl)
  (eN:((backTo am (starEach (e::es) X.env)).all (λx=>!x.1)&&(backToKw am (keywordEach [] X.env)).all (λx=>x.1.isSome)
   &&decide ((e::es).length+([]:List Keyword).length+(if([]:List Keyword).isEmpty then 0 else 1)<30))=true:=by rfl)
  (bF:(aB.endLine==am.line)=true:=by rfl)(hs:starEach (e::es) X.env=(false,eval e X.env)::starEach es X.env:=by rfl)(bZ:(backTo am (starEach es X.env)).any (·.1)=false:=by rfl):
  PE X (.Call (.Attribute o name aB) (e::es) [] am) (tBM X.K T r to t):=by
 intro aa s U H Q I h
 refine wpAny_Call_method_late bE eN bF rfl (thn (ho aa s U H _ I h) λv s1 r9=>?_)
 obtain⟨x,H1,I1,r1,ty,q1⟩:=r9
 obtain⟨h1,h2⟩:=Px I1 r1 ty
 refine⟨T,id,pa,slot,gE,h1,h2,?_⟩
 have hA:=ha am aa s1 U H1 _ I1 q1
 rw[hs] at hA⊢
 refine Calls.callWith_builtin (by show(false || (backTo am (starEach es X.env)).any (·.1))=false;rw[bZ]<;> rfl) (Calls.evalArgs_plain ?_)
 exact thn hA λus s2 r9=>by obtain⟨vs,H2,I2,r2,q2⟩:=r9;exact hm aa s2 U H2 x vs v us Q I2 r1 r2 q2
/- xs.append(e), list.index on a module's tuple .. are MtR facts of 06m -/
end
def MtM (X:Cx)(id:String)(r:V->List V->Hp->VK->Prop):Prop:=
 ∀(aa:List (Addr×Obj)) (s:Shared) (U:St) (H:Hp) (x:V) (xs:List V) (v:Value) (us:List Value) (Q:VK),Inv X aa U H s->XW x v->XX xs us->r x xs H Q->
  wpAny (model X.prog X.w) X.A (call (.builtin id) (v::us)) (EP X aa U Q) X.xe s
def XX.one:∀{x:V}{us:List Value},XX [x] us->∃u,us=[u]/\XW x u:=fun {x us} h=>by
 cases h with
 |cons r t=>
  cases t
  exact⟨_,rfl,r⟩
def XX.two:∀{x y:V}{us:List Value},XX [x,y] us->∃u v,us=[u,v]/\XW x u/\XW y v:=fun {x y us} h=>by
 cases h with
 |cons r t=>
  cases t with
  |cons q t=>
   cases t
   exact⟨_,_,rfl,r,q⟩
def XX.zero:∀{us:List Value},XX [] us->us=[]
 |_, .nil=>rfl
def XX.dropLast (h:XX xs us):XX xs.dropLast us.dropLast:=by
 induction h with
 |nil=>exact .nil
 |cons r t ih=>
  cases t with
  |nil=>exact .nil
  |cons q t'=>exact .cons r ih
def XX.eraseIdx:∀{xs:List V}{us:List Value} (i:Nat),XX xs us->XX (xs.eraseIdx i) (us.eraseIdx i)
 |_,_,_, .nil=>.nil
 |_,_,0, .cons _ t=>t
 |_,_,i+1, .cons r t=>.cons r (XX.eraseIdx i t)
def XX.reverse (h:XX xs us):XX xs.reverse us.reverse:=by
 induction h with
 |nil=>exact .nil
 |cons r t ih=>rw[List.reverse_cons,List.reverse_cons];exact XX.append ih (.cons r .nil)
def XX.rep (h:XX xs us):∀k:Nat,XX (List.replicate k xs).flatten (List.replicate k us).flatten
 |0=>.nil
 |k+1=>by
  rw[List.replicate_succ,List.replicate_succ,List.flatten_cons,List.flatten_cons]
  exact XX.append h (XX.rep h k)
def HU (l:List M):l.eraseIdx (l.length-1)=l.dropLast:=by
 induction l with
 |nil=>rfl
 |cons a r ih=>
  cases r with
  |nil=>rfl
  |cons b r=>
   have e:(a::b::r).length-1=((b::r).length-1)+1:=by
    have h1:(a::b::r).length=r.length+2:=rfl
    have h2:(b::r).length=r.length+1:=rfl
    omega
   rw[e,List.eraseIdx_cons_succ,ih]
   all_goals rfl
def DQ:∀(l:List M) (i:Nat),(l.eraseIdx i).length<=l.length
 | [],_=>Nat.le_refl _
 |_::_,0=>Nat.le_succ _
 |_::r,i+1=>Nat.succ_le_succ (DQ r i)
def Cv (its:List Value):∀(k:Nat) (acc:List Value),
  List.foldl (λx1 x2=>x1++x2) acc.toArray (List.replicate k its.toArray)=(acc++(List.replicate k its).flatten).toArray
 |0,acc=>by simp
 |k+1,acc=>by
  have e:acc.toArray++its.toArray=(acc++its).toArray:=by simp
  have e2:(acc++its)++(List.replicate k its).flatten=acc++(List.replicate (k+1) its).flatten:=by
   rw[List.replicate_succ,List.flatten_cons,List.append_assoc]
  rw[←e2, ←Cv its k (acc++its), ←e,List.replicate_succ,List.foldl_cons]
section
variable {l:Addr}{ys zs:List V}
def Inv.lset {t':Nat}(I:Inv X aa U H s)(hH:H l=some (.lst xs))
  (e:s.heap.get? l=some {cls:=.type "list",data:=.seq its.toArray n})(hf:f its.toArray=its'.toArray)(hv:XX ys its')(hz:ys.length<=sizeLine):
  Inv X aa U (upd H l (.lst ys)) {s with heap:=s.heap.update l (Obj.mapSeq f),toks:=t'}:=by
 have q:=PySem.IsL.update e f
 rw[hf] at q
 refine I.write (x:=l) (e:=l) (by rw[hH];exact trivial) (.inl rfl) (λb' u hb hu=>(Heap.get?_update_other s.heap (Obj.mapSeq f) (Ne.symm hb)).trans hu) ⟨_,q⟩ ?_
 exact⟨hz,its',_,hv,q⟩
def Inv.lnew {t':Nat}(I:Inv X aa U H s)(hv:XX ys its)(hz:ys.length<=sizeLine):
  Inv X aa U (upd H s.heap.objs.size (.lst ys)) {s with heap:=s.heap.push {cls:=.type "list",data:=.seq its.toArray},toks:=t'}:=
 I.laid (λ_ _ q=>Heap.get?_push_of_some _ q) (Nat.le_refl _) ⟨hz,its,0,hv,Heap.get?_push_size _ rfl⟩
def Inv.fresh (I:Inv X aa U H s):H s.heap.objs.size=none:=I.hok.fresh (Nat.le_refl _)
def Inv.lstM (I:Inv X aa U H s)(hH:H l=some (.lst xs)):xs.length<=sizeLine/\∃(its:List Value) (n:Nat),XX xs its/\xs.length=its.length/\s.heap.get? l=some {cls:=.type "list",data:=.seq its.toArray n}:=by
 obtain⟨z,its,n,r,e⟩:=I.hok l _ hH
 exact⟨z,its,n,r,r.length,e⟩
def UX (h:n<=sizeLine):Builtin.List.listTooLong n=false:=by
 unfold Builtin.List.listTooLong
 exact decide_eq_false (by omega)
end
section
def G5:V->List V->Hp->VK->Prop:=λx vs H Q=>∃ l xs y,x= .ref l/\vs=[y]/\H l=some (.lst xs)/\xs.length<sizeLine/\Q .non (upd H l (.lst (xs++[y])))
theorem XC:MtM X "list.append" G5:=by
 intro aa s U H x vs v us Q I rx rv h
 obtain⟨l,xs,y,rfl,rfl,hH,hz,q⟩:=h
 cases rx
 obtain⟨u,rfl,ru⟩:=rv.one
 obtain⟨z,its,n,r,hl,e⟩:=I.lstM hH
 refine call_meets F.slot_list_append ⟨_,e,rfl⟩ F.entry_list_append (F.args_list_append_2 _ _) (PySem.list_append l its.toArray n u (by rw[List.size_toArray];omega)) ⟨e,?_⟩
 refine⟨.non,_,I.lset (its':=its++[u]) hH e (by simp) (r.append (.cons ru .nil)) ?_,rfl,q⟩
 rw[List.length_append,List.length_singleton]
 omega
def BK:V->List V->Hp->VK->Prop:=λx vs H Q=>∃ l b xs zs,x= .ref l/\vs=[.ref b]/\H l=some (.lst xs)/\H b=some (.lst zs)/\xs.length+zs.length<=sizeLine/\Q .non (upd H l (.lst (xs++zs)))
theorem VA:MtM X "list.extend" BK:=by
 intro aa s U H x vs v us Q I rx rv h
 obtain⟨l,b,xs,zs,rfl,rfl,hH,hB,hz,q⟩:=h
 cases rx
 obtain⟨u,rfl,ru⟩:=rv.one
 cases ru
 obtain⟨z,its,n,r,hl,e⟩:=I.lstM hH
 obtain⟨z2,aC,n2,r2,gf,e2⟩:=I.lstM hB
 have hsz:its.toArray.size+aC.toArray.size<=sizeLine:=by rw[List.size_toArray,List.size_toArray];omega
 have eO:¬(!its.toArray.isEmpty&&Builtin.List.listTooLong (its.toArray.size+aC.toArray.size))=true:=by
  rw[UX hsz,Bool.and_false]
  exact Bool.false_ne_true
 refine call_meets F.slot_list_extend ⟨_,e,rfl⟩ F.entry_list_extend (F.args_list_extend_2 _ _)
  (AutoSeq1.list_extend_list_list_0 l its.toArray n b aC.toArray n2 eO (by rw[List.size_toArray];omega) (by omega)) ⟨e,e2,?_⟩
 refine⟨.non,_,I.lset (its':=its++aC) hH e (by simp) (r.append r2) ?_,rfl,q⟩
 rw[List.length_append]
 omega
def A2:V->List V->Hp->VK->Prop:=λx vs H Q=>∃ l xs y,x= .ref l/\vs=[]/\H l=some (.lst xs)/\xs[xs.length-1]?=some y/\Q y (upd H l (.lst xs.dropLast))
theorem Ap:MtM X "list.pop" A2:=by
 intro aa s U H x vs v us Q I rx rv h
 obtain⟨l,xs,y,rfl,rfl,hH,hy,q⟩:=h
 cases rx
 have hus:=rv.zero
 subst hus
 obtain⟨z,its,n,r,hl,e⟩:=I.lstM hH
 obtain⟨u,hu,ru⟩:=r.get hy
 have hy':its.toArray[its.toArray.size-1]?=some u:=by
  show its.toArray[its.length-1]?=some u
  rw[←Array.getElem?_toList, ←hl]
  exact hu
 refine call_meets F.slot_list_pop ⟨_,e,rfl⟩ F.entry_list_pop (F.args_list_pop_1 _) (MeetsSeq.list_pop_last l its.toArray n u hy' (by rw[List.size_toArray];omega)) ⟨e,?_⟩
 refine⟨y,_,I.lset (its':=its.dropLast) hH e ?_ r.dropLast ?_,ru,q⟩
 ·show its.toArray.eraseIdxIfInBounds (its.toArray.size-1)=its.dropLast.toArray
  rw[List.size_toArray,List.eraseIdxIfInBounds_toArray,HU]
 ·rw[List.length_dropLast]
  omega
def E2:V->List V->Hp->VK->Prop:=λx vs H Q=>∃ l xs i k y,x= .ref l/\vs=[.int i]/\H l=some (.lst xs)/\ -(2^63)<=i/\i<2^63/\seqIndex? i xs.length=some k/\xs[k]?=some y/\Q y (upd H l (.lst (xs.eraseIdx k)))
theorem N2:MtM X "list.pop" E2:=by
 intro aa s U H x vs v us Q I rx rv h
 obtain⟨l,xs,i,k,y,rfl,rfl,hH,h1,h2,hk,hy,q⟩:=h
 cases rx
 obtain⟨u,rfl,ru⟩:=rv.one
 obtain⟨t,rfl⟩:=ru
 obtain⟨z,its,n,r,hl,e⟩:=I.lstM hH
 obtain⟨w,hw,cD⟩:=r.get hy
 refine call_meets F.slot_list_pop ⟨_,e,rfl⟩ F.entry_list_pop (F.args_list_pop_2 _ _)
  (MeetsSeq.list_pop_at l its.toArray n i t k w (fitsIndex_both h1 h2) (by rw[List.size_toArray, ←hl];exact hk) (by rw[←Array.getElem?_toList];exact hw) (by rw[List.size_toArray];omega)) ⟨e,?_⟩
 refine⟨y,_,I.lset (its':=its.eraseIdx k) hH e ?_ (r.eraseIdx k) ?_,cD,q⟩
 ·show its.toArray.eraseIdxIfInBounds k=(its.eraseIdx k).toArray
  rw[List.eraseIdxIfInBounds_toArray]
 ·have:=DQ xs k
  omega
def qu:R2:=λx y H Q=>∃ l b xs zs,x= .ref l/\y= .ref b/\H l=some (.lst xs)/\H b=some (.lst zs)/\xs.length+zs.length<=sizeLine/\∀p,H p=none->Q (.ref p) (upd H p (.lst (xs++zs)))
def Z4:OpR X (binaryOp .Add) qu:=by
 intro aa s U H x y v u Q I rx ry h
 obtain⟨l,b,xs,zs,rfl,rfl,hH,hB,hz,q⟩:=h
 cases rx
 cases ry
 obtain⟨z,its,n,r,hl,e⟩:=I.lstM hH
 obtain⟨z2,aC,n2,r2,gf,e2⟩:=I.lstM hB
 refine PySem.P.add_list e e2 ?_ (by rw[List.size_toArray,List.size_toArray];omega)
 have ea:its.toArray++aC.toArray=(its++aC).toArray:=by simp
 rw[ea]
 exact⟨.ref _,_,I.lnew (t':=s.toks) (r.append r2) (by rw[List.length_append];omega),rfl,q _ I.fresh⟩
def A9:R2:=λx y H Q=>∃ l k xs,x= .ref l/\y= .int k/\H l=some (.lst xs)/\ -(2^63)<=k/\k<2^63/\xs.length*k.toNat<=sizeLine/\
 ∀p,H p=none->Q (.ref p) (upd H p (.lst (List.replicate k.toNat xs).flatten))
def Ta (xs:List M)(k:Nat):(List.replicate k xs).flatten.length=k*xs.length:=by
 induction k with
 |zero=>simp
 |succ k ih=>rw[List.replicate_succ,List.flatten_cons,List.length_append,ih,Nat.succ_mul,Nat.add_comm]
theorem DH:OpR X (binaryOp .Mult) A9:=by
 intro aa s U H x y v u Q I rx ry h
 obtain⟨l,k,xs,rfl,rfl,hH,h1,h2,hz,q⟩:=h
 cases rx
 obtain⟨t,rfl⟩:=ry
 obtain⟨z,its,n,r,hl,e⟩:=I.lstM hH
 have ae:its.toArray.size*k.toNat<=sizeLine:=by rw[List.size_toArray, ←hl];exact hz
 have hcap:¬its.toArray.size*k.toNat > (2^63-1)/8:=by
  have:(sizeLine:Nat)<=(2^63-1)/8:=by decide
  omega
 have hfit:¬(!Builtin.List.listFitsIndex k)=true:=by
  rw[fitsIndex_both h1 h2]
  exact Bool.false_ne_true
 have eO:¬Builtin.List.listTooLong (its.toArray.size*k.toNat)=true:=by
  rw[UX ae]
  exact Bool.false_ne_true
 have eP:List.foldl (λx1 x2=>x1++x2) #[] (List.replicate (if its.toArray.isEmpty=true then 0 else k.toNat) its.toArray)=(List.replicate k.toNat its).flatten.toArray:=by
  have f0:∀m:Nat,List.foldl (λx1 x2=>x1++x2) #[] (List.replicate m its.toArray)=(List.replicate m its).flatten.toArray:=λm=>by
   have:=Cv its m []
   rw[List.nil_append] at this
   exact this
  rw[f0]
  cases its with
  |nil=>simp
  |cons a r'=>rw[if_neg (by simp)]
 refine wpAny_binaryOp_repeat_ref (T:="list") (U:="int") (by decide) ⟨_,e,rfl⟩ (λs'=>typeIs_int s' k t) noFill_list_mul F.fills_int_mul F.slot_int_rmul repeat_list F.slot_int_index.lookup
  (call_meets F.slot_int_rmul (typeIs_int s k t) F.entry_int_rmul (F.args_int_rmul_2 _ _) (int___rmul___int_list k t l its.toArray n)
   ⟨e,rfl,⟨_,e,rfl⟩,call_meets F.slot_list_mul ⟨_,e,rfl⟩ F.entry_list_mul (F.args_list_mul_2 _ _) (AutoListH.list___mul___list_int_3 l its.toArray n k t hfit hcap eO) ⟨e,?_⟩⟩)
 rw[eP]
 exact⟨.ref _,_,I.lnew (t':=s.toks) (r.rep k.toNat) (by rw[Ta,Nat.mul_comm];exact hz),rfl,q _ I.fresh⟩
end
section
def Ix (its aC:List Value)(a c:Nat):its.toArray.extract 0 a++aC.toArray++its.toArray.extract c its.toArray.size=(its.take a++aC++its.drop c).toArray:=by
  apply Array.toList_inj.mp
  first
    | (simp
       exact List.take_of_length_le (by simp))
    |simp[List.take_of_length_le]
    |simp
end
section
end
end L2
namespace Att
open PySem PySem.W PySem.Calls PyProof.Rows
theorem Ki {P:Params}:∀(ns:List Int) (vs:List Value),WellAll P h vs (ns.map WData.int)->IntsAre vs ns:=by
 intro ns
 induction ns with
 |nil=>
  intro vs w
  rw[List.map_nil] at w
  cases w
  exact .nil
 |cons n ns ih=>
  intro vs w
  rw[List.map_cons] at w
  cases w with
  |cons a b=>
   cases a
   exact .cons _ _ (ih _ b)
theorem Mb {l:OpenLaw}(hn:l.most=some n){P:Params}{h:Heap}{args:List WData}{gF:List Value}
  (fF:l.row.toRowW.claim.pre args=true)(hwl:WellAll P h gF args):
  ∃a vs ns,gF=[Value.ref a]/\args=[WData.list (ns.map WData.int)]/\h.get? a=some {cls:=.type "list",data:=.seq vs.toArray}/\IntsAre vs ns/\ns.length<=n:=by
 have hsh:WShape.hasAll [] args [.list .int]=true:=(pre_splitW fF).1
 have hc:l.pre.holds [] {args:=args}=true:=(pre_splitW fF).2
 obtain⟨d,r,rfl,h1,h2⟩:=hasAllW_cons hsh
 obtain rfl:=hasAllW_nil h2
 obtain⟨xs,rfl,h3⟩:=hasW_list h1
 obtain⟨ns,rfl⟩:=items_int h3
 have ae:ns.length<=n:=by
  unfold OpenLaw.pre at hc
  have h4:(WTm.not (.lt (.lit (.int (n:Int))) (.len (.arg 0)))).holds [] {args:=[.list (ns.map .int)]}=true:=by
   have h4:=(holds_andW hc).1
   rw[hn] at h4
   exact h4
  have h5:=condW_of h4 (w_not (w_lt w_lit (w_len_list (w_arg rfl))))
  rw[List.length_map] at h5
  refine Nat.le_of_not_lt λq=>?_
  have q':(n:Int)<((ns.length:Nat):Int):=by omega
  first
   | (rw[decide_eq_true q'] at h5;exact absurd h5 (by decide))
   | (simp at h5;omega)
 cases hwl with
 |cons w1 w2=>
  cases w2
  cases w1 with
  |list ho aO=>exact⟨_,_,ns,rfl,rfl,ho,Ki ns _ aO,ae⟩
theorem MB (l:OpenLaw)(args:List WData):l.row.toRowW.claim.post args (.bool true) args=true:=
 postW_of (r:=l.row.toRowW) (X:=(true==true))
  (show WShape.has [] (.bool true) .bool=true by first |rfl |decide |simp[WShape.has,WShape.arms,WShape.armsAll])
  (show(WTm.eq .res (.lit (.bool true))).value [] {args:=args,res:=some (.bool true),after:=args}=some (.bool (true==true)) from w_eq_bool (w_res rfl) w_lit) rfl
theorem attach_call {l:OpenLaw}{q:Program}{cv:List Str}{XP:(Str->Option Value)->Heap->Prop}{YP:World->Heap->Prop}{d:DefRec}
  (hn:l.most=some n)(iY:d.params.defaults=[])
  (call:∀(w:World) (s₀ s₁:Shared) (mg mb:Str->Option Value) (fa:Addr) (o:Obj) (pm cd doc:Value) (a:Addr) (vs:List Value) (ns:List Int),
   Ground q cv [] XP w s₀ mg mb s₁.heap->YP w s₁.heap->
   s₁.heap.get? fa=some o->o.data= .func (docDef d.name d.params d.body d.scope pm cd doc)->s₁.heap.CodeRec cd d.name->mg d.name=some (.ref fa)->
   s₁.heap.get? a=some {cls:=.type "list",data:=.seq vs.toArray}->IntsAre vs ns->ns.length<=n->s₁.gens= #[]->
   codeAny (model l.prog w) callerA (.call (.ref fa) ⟨[.ref a],[]⟩) (λr s'=>r= .ok (.ret (.bool true))/\OldK s₁.heap s'.heap/\s'.os=s₁.os/\AllBare s'.gens) s₁):
  WalkO q cv XP YP l.row.toRowW d [] (λf vs=>PySem.call f vs):=by
 intro w s₀ s₁ mg mb G Y fa o pm cd doc dV kV ho hd eJ hD hmg hg args gF as fF hlay hrd hwl hlo
 obtain rfl:dV= .none:=Dflts.none hD iY
 obtain rfl:kV= .none:=Dflts.noKw hD
 obtain⟨a,vs,ns,rfl,rfl,gG,eQ,ae⟩:=Mb hn fF hwl
 refine enter_call (codeAny_mono (call w s₀ s₁ mg mb fa o pm cd doc a vs ns G Y ho (fd_plain hd) eJ hmg gG eQ ae hg) λr s' hq=>?_)
 obtain⟨rfl,h2,h3,h4⟩:=hq
 exact⟨.inl ⟨.bool true, .bool true,[],rfl,λ_=>rfl, .bool true,MB l _,λ_=>⟨List.Pairwise.nil,λ_ hm=>(nomatch hm)⟩⟩,h2,h3,h4⟩
section
variable {K:Frag}
def qP (h:Heap)(Lqz d:Addr):List (Addr×Obj):=(List.range h.objs.size).filterMap λa=>if a=Lqz∨a=d then none else(h.get? a).map λo=>(a,o)
end
end Att
namespace L2
open PySem PySem.Spec PyProof.Rows
def Dq:∀{vs:List Value}{ns:List Int},IntsAre vs ns->XX (ns.map V.int) vs:=λp=>by
 induction p with
 |nil=>exact .nil
 |cons n t _ ih=>exact .cons ⟨t,rfl⟩ ih
def AX (H:Hp):Prop:=∀ b,H b=none∨∃o xs,H b=some (.frz o (.lst xs))
def OX
  (KX:K.In s₁.heap)(eA:s₁.heap.Ns mainGlobals mg)(hb:s₁.heap.Ns builtinsNs mb)(hbb:∀x:Str,x≠ "__name__" ->mb x=bootBuiltins x)(hlim:s₁.heap.NoLimit)(hg:s₁.gens= #[])
  (ha:s₁.heap.get? a=some {cls:=.type "list",data:=.seq vs.toArray})(hi:IntsAre vs ns)(hl:ns.length<=sizeLine)(hr:Room k callerA)
  (F:∀base:Heap,K.In base->base.Ns mainGlobals mg->FnOk P w K mg base CX k fa fd [x] sp)(iZ:∀(s:Shared) (u:Value),BindsTo s fd ⟨[u],[]⟩ [(x,u)])
  (cV:∀H:Hp,AX H->SqL K H a (ns.map V.int)->sp [.ref a] H (λv _=>v= .bl true) λ_ _ _=>False)
  (hCX:∀H e s',CX [] H s₁ (λ_ _ _=>False) e s'->False):
  codeAny (model P w) callerA (.call (.ref fa) ⟨[.ref a],[]⟩) (λr s'=>r= .ok (.ret (.bool true))/\OldK s₁.heap s'.heap/\s'.os=s₁.os/\AllBare s'.gens) s₁:=by
 have rv:=Dq hi
 have lenV:=hi.length
 -- from an abstract heap in which nothing but dC script may be cA
 have i0:∀H:Hp,AX H->SqL K H a (ns.map V.int)->HOk P w H s₁.heap->(∀b,H b≠none->b=a)->(H a≠none->K.lookup a=none)->
   codeAny (model P w) callerA (.call (.ref fa) ⟨[.ref a],[]⟩) (λr s'=>r= .ok (.ret (.bool true))/\OldK s₁.heap s'.heap/\s'.os=s₁.os/\AllBare s'.gens) s₁:=by
  intro H hO hS hok hA hK
  have dG:∀{b:Addr}{o:Obj},s₁.heap.get? b=some o->H b=none->(N5 s₁.heap H).get? b=some o:=λe n=>OI e n
  have iX:∀{b:Addr}{o:Obj}{es:Array DictEntry}{ep:Nat},s₁.heap.get? b=some o->o.data= .dict es ep->H b=none:=fun {b o es ep} e d=>by
   cases q:H b with
   |none=>rfl
   |some u=>
    have e':b=a:=hA b (by rw[q];simp)
    subst e'
    rw[ha] at e;cases e
    have d':Data.seq vs.toArray _=Data.dict es ep:=d
    cases d'
  have nsK:∀{b:Addr}{m:Str->Option Value},s₁.heap.Ns b m->(N5 s₁.heap H).Ns b m:=fun {b m} ⟨o,es,ep,e,d,r⟩=>⟨o,es,ep,dG e (iX e d),d,r⟩
  have hKb:K.In (N5 s₁.heap H):=λb o e=>dG (KX b o e) (by
   cases q:H b with
   |none=>rfl
   |some u=>
    have e':b=a:=hA b (by rw[q];simp)
    subst e'
    rw[hK (by rw[q];simp)] at e;cases e)
  have hM:Mod K mg (N5 s₁.heap H):=⟨hKb,nsK eA,⟨mb,nsK hb,hbb⟩,let ⟨mc,h1,h2⟩:=hlim;⟨mc,nsK h1,h2⟩⟩
  have e0:Env0 P w K mg (N5 s₁.heap H) callerA [] s₁ H:=⟨rfl,hM,λb o e=>RV e,Nat.le_of_eq (Np _ _),trivial,λb hb=>absurd (show b∈([]:List Addr) from hb) (by simp),hok, .of_eq hg⟩
  refine codeAny_mono ((F _ hKb (nsK eA)).run callerA [] s₁ H ⟨[.ref a],[]⟩ [.ref a] [.ref a] _ _ hr e0 (iZ s₁ (.ref a)) (.cons rfl .nil) (cV H hO hS)) λr s' h=>?_
  cases r with
  |error e=>exact(hCX H e s' h).elim
  |ok fl=>
   cases fl with
   |next=>exact False.elim h
   |brk=>exact False.elim h
   |cont=>exact False.elim h
   |ret u=>
    obtain⟨v,H',os,bare,un,hok',r',q⟩:=h
    have q':v= .bl true:=q
    subst q'
    obtain rfl:u=Value.bool true:=r'
    refine⟨rfl,OldK.of_keep λb o e=>?_,os,bare⟩
    cases q:H b with
    |none=>exact un.keep b o e q (by intro z;exact absurd (show b∈([]:List Addr) from z) (by simp)) (by simp)
    |some u=>
     rcases hO b with z | ⟨ob,xs,z⟩
     ·rw[q] at z;cases z
     ·have z2:=un.frzs b ob _ z
      obtain⟨e1,_⟩:=hok b _ z
      obtain⟨e2,_⟩:=hok' b _ z2
      rw[e] at e1;cases e1
      exact e2
 cases hk:K.lookup a with
 |some o=>
  -- dC script is one of dC module's own objects
  have e:=KX a o hk
  rw[ha] at e
  cases e
  refine i0 (λ_=>none) (λ_=>.inl rfl) (.inr ⟨_,vs.toArray,_,hk,rfl,rfl,rfl,by rw[List.size_toArray,lenV];exact hl,by simpa using rv⟩) (λb u z=>by have z':(none:Option HO)=some u:=z;cases z') (λb z=>absurd rfl z) λz=>absurd rfl z
 |none=>
  refine i0 (λb=>if b=a then some (.frz {cls:=.type "list",data:=.seq vs.toArray} (.lst (ns.map V.int))) else none) (λb=>?_) (.inl (.inr ⟨{cls:=.type "list",data:=.seq vs.toArray},if_pos rfl⟩)) (λb u z=>?_) (λb z=>?_) λ_=>hk
  ·by_cases hb:b=a
   ·exact .inr ⟨_,_,if_pos hb⟩
   ·exact .inl (if_neg hb)
  ·by_cases hb:b=a
   ·have z':=(if_pos hb).symm.trans z
    cases z'
    subst hb
    exact⟨ha,by rw[List.length_map];exact hl,vs,_,rv,ha⟩
   ·have z':=(if_neg hb).symm.trans z
    cases z'
  ·by_cases hb:b=a
   ·exact hb
   ·exact absurd (if_neg hb) z
def RT {l:PySem.W.OpenLaw}{q:Program}{cv:List Str}{XP:(Str->Option Value)->Heap->Prop}{YP:World->Heap->Prop}{d:DefRec}{K:Params->W.Frag}{CX:World->CXT}{sp:World->Sp}
  (hn:l.most=some n)(hn2:n<=sizeLine)(iY:d.params.defaults=[])(hr:Room k callerA)
  (hY:∀(w:World) (h:Heap),YP w h->(K w.params).In h)
  (F:∀(w:World) (mg:Str->Option Value) (fa:Addr) (h:Heap),(K w.params).In h->h.Ns mainGlobals mg->mg d.name=some (.ref fa)->
   ∃fd:FuncData,(∀(s:Shared) (u:Value),BindsTo s fd ⟨[u],[]⟩ [(x,u)])/\
    ∀base:Heap,(K w.params).In base->base.Ns mainGlobals mg->FnOk l.prog w (K w.params) mg base (CX w) k fa fd [x] (sp w))
  (cV:∀(w:World) (H:Hp) (a:Addr) (ns:List Int),ns.length<=n->AX H->SqL (K w.params) H a (ns.map V.int)->sp w [.ref a] H (λv _=>v= .bl true) λ_ _ _=>False)
  (hCX:∀(w:World) (H:Hp) (s:Shared) (e:Value) (s':Shared),CX w [] H s (λ_ _ _=>False) e s'->False):
  PySem.W.WalkO q cv XP YP l.row.toRowW d [] (λf vs=>PySem.call f vs):=by
 refine Att.attach_call hn iY λw s₀ s₁ mg mb fa o pm cd doc a vs ns G Y ho hd eJ hmg gG eQ ae hg=>?_
 have KX:=hY w _ Y
 obtain⟨fd,hb,hF⟩:=F w mg fa _ KX G.T.g hmg
 exact OX KX G.T.g G.T.b G.T.builtins G.T.nolimit hg gG eQ (Nat.le_trans ae hn2) hr hF hb (λH hO hS=>cV w H a ns ae hO hS) λH e s'=>hCX w H s₁ e s'
def YQ (s:Stmt):Arguments:=match s with
 | .FunctionDef _ a _ _ _ _ _ _ _ _=>a
 |_=>{posonlyargs:=[],args:=[],vararg:=none,kwonlyargs:=[],kw_defaults:=[],kwarg:=none,defaults:=[]}
def X4 (s:Stmt):List Stmt:=match s with
 | .FunctionDef _ _ b _ _ _ _ _ _ _=>b
 |_=>[]
def Xg (s:Stmt):Scope:=match s with
 | .FunctionDef _ _ _ _ _ _ sc _ _ _=>sc
 |_=>{kind:=.function,names:=[],isGenerator:=false,isCoroutine:=false}
abbrev CX0:CXT:=λ_ _ _ _ _ _=>False
abbrev E0:XK:=λ_ _ _=>False
def qd:MO CX0 X E0:=λ_ _ _ _ _ _ _ h=>h.elim
structure Fun (K:W.Frag)(x qual:Str)(st:Stmt)(f:Addr)(fd:FuncData):Prop where
 ex:∃(oc:Value) (od:Option Addr) (kV doc pm:Value) (an:Option Addr) (aj ct:Value) (cO:Array (Option Value)),
  fd=W.fnOf x qual (YQ st) (X4 st) (Xg st) .none kV doc pm an aj ct/\K.lookup f=some ⟨oc,od, .func fd,cO⟩/\W.codeIn K aj qual=true
 kp:W.keepIn K (.ref f)=true
section
def Fun.ok {qual:Str}{st:Stmt}{f:Addr}{sp:Sp}(F:Fun K x qual st f fd)(S:FnScope N ps (Xg st))(len:∀vs H Q E,sp vs H Q E->vs.length=ps.length)
  (cU:∀(aj:Value) (A:Around) (outer:List Env) (s:Shared) (H:Hp) (vs:List V) (Q:VK) (E:XK),Room k (A.deeper (envOfC qual (Xg st) s.heap.objs.size f aj))->sp vs H Q E->
   ∃t,PSs (Ih CX0 P w K mg base N qual (Xg st) f aj A outer s H E).nox (X4 st) t/\t {nx:=λ_ H'=>Q .non H',rt:=Q} (Kg N vs) H):FnOk P w K mg base CX0 (k+1) f fd ps sp:=by
 obtain⟨oc,od,kV,doc,pm,an,aj,ct,cO,rfl,lk,eJ⟩:=F.ex
 refine AN lk eJ S len λA outer s H vs Q E hr cV=>?_
 obtain⟨t,h,q⟩:=cU aj A outer s H vs Q E hr cV
 exact⟨t,h.nox,q⟩
def Fun.binds {qual:Str}{st:Stmt}{f:Addr}(F:Fun K x qual st f fd)
  (h:∀(kV doc pm:Value) (an:Option Addr) (aj ct:Value) (us:List Value),us.length=ps.length->bindArgs (W.fnOf x qual (YQ st) (X4 st) (Xg st) .none kV doc pm an aj ct) ⟨us,[]⟩=pure (ps.zip us)):BP K fd ps []:=by
 obtain⟨oc,od,kV,doc,pm,an,aj,ct,cO,rfl,lk,eJ⟩:=F.ex
 exact .all (h kV doc pm an aj ct)
def Jk {qual:Str}{st:Stmt}{f:Addr}{oc:Value}{od an:Option Addr}{cO:Array (Option Value)}{kV doc pm aj ct:Value}(l:K.lookup f=some ⟨oc,od, .func (W.fnOf x qual (YQ st) (X4 st) (Xg st) .none kV doc pm an aj ct),cO⟩)
  (c:W.codeIn K aj qual=true)(k:W.keepIn K (.ref f)=true):Fun K x qual st f (W.fnOf x qual (YQ st) (X4 st) (Xg st) .none kV doc pm an aj ct):=⟨⟨oc,od,kV,doc,pm,an,aj,ct,cO,rfl,l,c⟩,k⟩
end
def Jo (hr:Room k A):A.units+1<cLine:=Nat.lt_of_le_of_lt (Nat.add_le_add_left (by decide:1<=64) _) hr.units
def MH (h:n<=1000):n<sizeLine:=Nat.lt_of_le_of_lt h (by decide)
section
def pv (i:Nat)(hN:X.N[i]?=some x:=by rfl)(hv:Vis X.env.scope x:=by first |exact Or.inl rfl |exact Or.inr (Or.inl rfl) |exact Or.inr (Or.inr rfl))(hd:(x==("__debug__":Str))=false:=by decide)
  (eJ:(x==("__classdict__":Str))=false:=by decide):PE X (.Name x pos) (JP i):=WS hN hv hd eJ
end
def Xp (H H':Hp):Prop:=∀ b o,H b=some o->H' b=some o
def Xp.refl (H:Hp):Xp H H:=λ_ _ h=>h
def Xp.trans (a:Xp H H1)(b:Xp H1 H2):Xp H H2:=λc o h=>b c o (a c o h)
def Xp.seq (e:Xp H H')(h:SqL K H a xs):SqL K H' a xs:=by
 rcases h with(h | ⟨o,h⟩) |h
 ·exact .inl (.inl (e _ _ h))
 ·exact .inl (.inr ⟨o,e _ _ h⟩)
 ·exact .inr h
section
variable {κ:Type}[DecidableEq κ]
def CU (kvs:List (κ×V))(k:κ):Option V:=(kvs.find? λkv=>decide (kv.1=k)).map (·.2)
def Gd (kvs:List (κ×V))(k:κ)(v:V):List (κ×V):=
 if(kvs.any λkv=>decide (kv.1=k))=true then kvs.map (λkv=>if kv.1=k then(kv.1,v) else kv) else kvs++[(k,v)]
def KE (kvs:List (κ×V))(k:κ):List (κ×V):=kvs.filter λkv=>decide (kv.1≠k)
def U2 {p:κ×V}{k:κ}(e:p.1=k):CU (p::r) k=some p.2:=by simp[CU,List.find?_cons,e]
def U4 {p:κ×V}{k:κ}(e:¬p.1=k):CU (p::r) k=CU r k:=by simp[CU,List.find?_cons,e]
def Hc (k:κ):∀kvs:List (κ×V),(kvs.any λkv=>decide (kv.1=k))=(CU kvs k).isSome
 | []=>rfl
 |p::r=>by
  rw[List.any_cons]
  by_cases e:p.1=k
  ·simp only[U2 e,decide_eq_true e,Bool.true_or,Option.isSome_some]
  ·rw[U4 e,decide_eq_false e,Bool.false_or];exact Hc k r
def Kt (kvs:List (κ×V))(k:κ)(v:V):(Gd kvs k v).length<=kvs.length+1:=by
 unfold Gd
 split
 ·rw[List.length_map];omega
 ·rw[List.length_append,List.length_cons,List.length_nil];omega
def Ik.isSome_eq {u:Option Value}(r:Ik o u):o.isSome=u.isSome:=by
 cases o with
 |none=>cases u with
  |none=>rfl
  |some _=>exact(show False from r).elim
 |some _=>cases u with
  |none=>exact(show False from r).elim
  |some _=>rfl
def KV.val {kvs:List (κ×V)}(r:KV kvs vs)(k:κ):Ik (CU kvs k) (valueAt vs k):=by
 unfold KV at r
 induction r with
 |nil=>exact True.intro
 | @cons p q ps qs h t ih=>
  obtain⟨h1,h2⟩:=h
  by_cases e:p.1=k
  ·have e':q.1=k:=h1.symm.trans e
   have b:valueAt (q::qs) k=some q.2:=by simp[valueAt,List.find?_cons,e']
   rw[U2 e,b];exact h2
  ·have e':¬q.1=k:=λz=>e (h1.trans z)
   have b:valueAt (q::qs) k=valueAt qs k:=by simp[valueAt,List.find?_cons,e']
   rw[U4 e,b];exact ih
def KV.any {kvs:List (κ×V)}(r:KV kvs vs)(k:κ):(kvs.any λkv=>decide (kv.1=k))=vs.any λkv=>decide (kv.1=k):=by
 unfold KV at r
 induction r with
 |nil=>rfl
 |cons h t ih=>rw[List.any_cons,List.any_cons,ih,h.1]
def KV.repl {kvs:List (κ×V)}(r:KV kvs vs)(k:κ){y:V}(ry:XW y u):
  KV (kvs.map λkv=>if kv.1=k then(kv.1,y) else kv) (vs.map λkv=>if kv.1=k then(kv.1,u) else kv):=by
 unfold KV at r⊢
 induction r with
 |nil=>exact .nil
 | @cons p q ps qs h t ih=>
  rw[List.map_cons,List.map_cons]
  refine .cons ?_ ih
  obtain⟨h1,h2⟩:=h
  by_cases e:p.1=k
  ·rw[if_pos e,if_pos (h1.symm.trans e)];exact⟨h1,ry⟩
  ·rw[if_neg e,if_neg (λz=>e (h1.trans z))];exact⟨h1,h2⟩
def KV.put {kvs:List (κ×V)}(r:KV kvs vs)(k:κ){y:V}(ry:XW y u):KV (Gd kvs k y) (stored vs k u):=by
 unfold Gd stored
 rw[r.any k]
 by_cases e:(vs.any λkv=>decide (kv.1=k))=true
 ·rw[if_pos e,if_pos e];exact r.repl k ry
 ·rw[if_neg e,if_neg e];exact Paired.snoc r ⟨rfl,ry⟩
def KV.drop {kvs:List (κ×V)}(r:KV kvs vs)(k:κ):KV (KE kvs k) (without vs k):=by
 unfold KV at r⊢
 unfold KE without
 induction r with
 |nil=>exact .nil
 | @cons p q ps qs h t ih=>
  obtain⟨h1,h2⟩:=h
  rw[List.filter_cons,List.filter_cons]
  by_cases e:p.1=k
  ·have a:¬decide (p.1≠k)=true:=by simp[e]
   have b:¬decide (q.1≠k)=true:=by simp[h1.symm.trans e]
   rw[if_neg a,if_neg b];exact ih
  ·have e':¬q.1=k:=λz=>e (h1.trans z)
   have a:decide (p.1≠k)=true:=by simp[e]
   have b:decide (q.1≠k)=true:=by simp[e']
   rw[if_pos a,if_pos b];exact .cons ⟨h1,h2⟩ ih
def KV.length {kvs:List (κ×V)}(r:KV kvs vs):kvs.length=vs.length:=Paired.length r
def O1 (kvs:List (κ×V))(k:κ):(KE kvs k).length<=kvs.length:=List.length_filter_le _ _
end
def HC {k:Key}(r:XW (kV k) u):(Yu P w).is k u=true:=by
 cases k with
 |inl i=>obtain⟨t,e⟩:=(show ∃t,u=Value.int i t from r);subst e;exact BI P w i t
 |inr x=>obtain⟨t,e⟩:=(show ∃t,u=Value.str x t from r);subst e;exact Bm P w x t
def Dx:∀{ks:List Key}{us:List Value},XX (ks.map kV) us->ItemsAre (Yu P w) ks us
 | [],_,r=>by rw[List.map_nil] at r;cases r;exact .nil
 |k::ks,_,r=>by
  rw[List.map_cons] at r
  cases r with
  |cons h t=>exact .cons (HC h) (Dx t)
abbrev KT (H:Hp):List (List Key×V)->List (List Key×Addr×Value)->Prop:=Paired λp q=>p.1=q.1/\H q.2.1=some (.tup (p.1.map kV))/\XW p.2 q.2.2
def KT.val {kvs:List (List Key×V)}{xs:List (List Key×Addr×Value)}(r:KT H kvs xs)(k:List Key):Ik (CU kvs k) ((atKey xs k).map (·.2)):=by
 induction r with
 |nil=>exact True.intro
 | @cons p q ps qs h t ih=>
  obtain⟨h1,_,h2⟩:=h
  by_cases e:p.1=k
  ·have e':q.1=k:=h1.symm.trans e
   have b:atKey (q::qs) k=some q.2:=by simp[atKey,List.find?_cons,e']
   rw[U2 e,b];exact h2
  ·have e':¬q.1=k:=λz=>e (h1.trans z)
   have b:atKey (q::qs) k=atKey qs k:=by simp[atKey,List.find?_cons,e']
   rw[U4 e,b];exact ih
def KT.repl {kvs:List (List Key×V)}{xs:List (List Key×Addr×Value)}(r:KT H kvs xs)(k:List Key){y:V}(ry:XW y u):
  KT H (kvs.map λkv=>if kv.1=k then(kv.1,y) else kv) (xs.map (putAt k u)):=by
 induction r with
 |nil=>exact .nil
 | @cons p q ps qs h t ih=>
  rw[List.map_cons,List.map_cons]
  refine .cons ?_ ih
  obtain⟨h1,h2,h3⟩:=h
  unfold putAt
  by_cases e:p.1=k
  ·rw[if_pos e,if_pos (h1.symm.trans e)];exact⟨h1,h2,ry⟩
  ·rw[if_neg e,if_neg (λz=>e (h1.trans z))];exact⟨h1,h2,h3⟩
def KT.put {kvs:List (List Key×V)}{xs:List (List Key×Addr×Value)}(r:KT H kvs xs)(k:List Key){y:V}(hb:H b=some (.tup (k.map kV)))(ry:XW y u):
  KT H (Gd kvs k y) (storedH xs k b u):=by
 have e:(kvs.any λkv=>decide (kv.1=k))=(atKey xs k).isSome:=by
  rw[Hc,(r.val k).isSome_eq,Option.isSome_map]
 unfold Gd storedH
 rw[e]
 by_cases q:(atKey xs k).isSome=true
 ·rw[if_pos q,if_pos q];exact r.repl k ry
 ·rw[if_neg q,if_neg q];exact Paired.snoc r ⟨rfl,hb,ry⟩
def KT.keeps {kvs:List (List Key×V)}{xs:List (List Key×Addr×Value)}(r:KT H kvs xs)(ht:∀b ys,H b=some (.tup ys)->H' b=some (.tup ys)):KT H' kvs xs:=
 Paired.mapP r λ_ _ z=>⟨z.1,ht _ _ z.2.1,z.2.2⟩
section
variable {h:Heap}
def WE {u:HO}(ok:HOk P w H h)(e:Rd H a u):YT P w H h a u:=e.ok ok
def MR (ok:HOk P w H h)(e:Rd H a (.dK kvs)):kvs.length<=sizeLine/\(a==sysModules)=false/\∃vs,KV kvs vs/\h.DictOf (Yu P w) a vs:=
 show YT P w H h a (.dK kvs) from WE ok e
def W3 (ok:HOk P w H h)(e:H a=some (.dK kvs)):kvs.length<=sizeLine/\(a==sysModules)=false/\∃vs,KV kvs vs/\h.DictOf (Yu P w) a vs:=MR ok (.inl e)
def ER (ok:HOk P w H h)(e:H a=some (.tup (ks.map kV))):(tupleKind (Yu P w)).is h ks a:=by
 obtain⟨_,its,r,o,h1,h2,n,h3⟩:=(show YT P w H h a (.tup (ks.map kV)) from ok a _ e)
 exact⟨o,its.toArray,n,h1,h2.1,h3,by simpa using Dx r⟩
def Iz {kvs:List (List Key×V)}(ok:HOk P w H h)(e:Rd H a (.dT kvs)):kvs.length<=sizeLine/\(a==sysModules)=false/\
  ∃xs,KT H kvs xs/\h.DictOfH (tupleKind (Yu P w)) a xs:=by
 obtain⟨z,y,xs,r,o,es,ep,h1,h2,h3,h4,h5⟩:=(show YT P w H h a (.dT kvs) from WE ok e)
 refine⟨z,y,xs,r,o,es,ep,h1,h2,h3,h4,λx hx=>?_,h5⟩
 have all:∀{l:List (List Key×V)}{m:List (List Key×Addr×Value)},KT H l m->∀x∈m,(tupleKind (Yu P w)).is h x.1 x.2.1:=by
  intro l m q
  induction q with
  |nil=>intro x hx;exact nomatch hx
  | @cons p q ps qs hq t ih=>
   intro x hx
   rcases List.mem_cons.mp hx with e |hx
   ·subst e
    exact ER ok (by rw[←hq.1];exact hq.2.1)
   ·exact ih x hx
 exact all r x hx
def qC {kvs:List (List Key×V)}(ok:HOk P w H h)(e:H a=some (.dT kvs)):kvs.length<=sizeLine/\(a==sysModules)=false/\
  ∃xs,KT H kvs xs/\h.DictOfH (tupleKind (Yu P w)) a xs:=Iz ok (.inl e)
end
def SK (H:Hp)(a:Addr)(y:V)(r:Option V):Prop:=
 (∃kvs k,Rd H a (.dK kvs)/\y=kV k/\r=CU kvs k)∨∃kvs k b,Rd H a (.dT kvs)/\y= .ref b/\H b=some (.tup (k.map kV))/\r=CU kvs k
def Aw (H:Hp)(a:Addr)(y v:V)(H':Hp):Prop:=
 (∃kvs k,H a=some (.dK kvs)/\y=kV k/\kvs.length<sizeLine/\H'=upd H a (.dK (Gd kvs k v)))∨
 ∃kvs k b,H a=some (.dT kvs)/\y= .ref b/\H b=some (.tup (k.map kV))/\kvs.length<sizeLine/\H'=upd H a (.dT (Gd kvs k v))
def SK.kk {k:Key}(e:H a=some (.dK kvs)):SK H a (kV k) (CU kvs k):=.inl ⟨kvs,k, .inl e,rfl,rfl⟩
def Aw.kk {k:Key}(e:H a=some (.dK kvs))(hl:kvs.length<sizeLine):Aw H a (kV k) v (upd H a (.dK (Gd kvs k v))):=.inl ⟨kvs,k,e,rfl,hl,rfl⟩
section
variable {y v:V}{r:Value}{o:Option V}
def Inv.big (I:Inv X aa U H s):sysModules<s.heap.objs.size:=by
 have h:mainGlobals<s.heap.objs.size:=(I.mod.glob.keeps I.bk).lt
 exact Nat.lt_trans (by decide) h
def Ni (hu:A.units+1<cLine)(I:Inv X aa U H s)(g:SK H a y (some v))(ry:XW y u)(h:∀w' s',Inv X aa U H s'->XW v w'->Q w' s'):
  wpAny (model X.prog X.w) A (getItem (.ref a) u) Q E s:=by
 rcases g with⟨kvs,k,e,ey,l⟩ | ⟨kvs,k,b,e,ey,eb,l⟩
 ·subst ey
  obtain⟨z,hd,vs,cg,dd⟩:=MR I.hok e
  obtain⟨w',hw,cD⟩:=Ik.some_of (v:=v) (o:=valueAt vs k) (by rw[l];exact cg.val k)
  exact wpAny_getItem_of (HC ry) dd.mapOf hw (h w' _ (I.tok _) cD)
 ·subst ey
  cases(show u=Value.ref b from ry)
  obtain⟨z,hd,xs,cg,dd⟩:=Iz I.hok e
  obtain⟨w',hw,cD⟩:=Ik.some_of (v:=v) (o:=(atKey xs k).map (·.2)) (by rw[l];exact cg.val k)
  obtain⟨p,hp,cW⟩:=Option.map_eq_some_iff.mp hw
  refine wpAny_getItem_heap (tupleKind_room_in1 hu) (ER I.hok eb) dd hp ?_
  rw[cW]
  exact h w' _ (I.tok _) cD
def jl (hu:A.units+1<cLine)(I:Inv X aa U H s)(g:SK H a y o)(ry:XW y u)(h:∀s',Inv X aa U H s'->Q (.bool o.isSome) s'):
  wpAny (model X.prog X.w) A (compareOp .In u (.ref a)) Q E s:=by
 rcases g with⟨kvs,k,e,ey,l⟩ | ⟨kvs,k,b,e,ey,eb,l⟩
 ·subst ey
  obtain⟨z,hd,vs,cg,dd⟩:=MR I.hok e
  refine wpAny_in_of (HC ry) hd dd.mapOf ?_
  rw[←(cg.val k).isSome_eq, ←l]
  exact h _ (I.tok _)
 ·subst ey
  cases(show u=Value.ref b from ry)
  obtain⟨z,hd,xs,cg,dd⟩:=Iz I.hok e
  refine wpAny_in_heap (tupleKind_room_in1 hu) (ER I.hok eb) hd dd ?_
  have q:=(cg.val k).isSome_eq
  rw[Option.isSome_map] at q
  rw[←q, ←l]
  exact h _ (I.tok _)
def Bo {t':Nat}(I:Inv X aa U H s)(mu:Mut (H a))(hs:Heap.SameBut a s.heap h')(he:∃q,h'.get? a=some q)(new:YT X.prog X.w (upd H a ob) h' a ob):
  Inv X aa U (upd H a ob) {s with heap:=h',toks:=t'}:=
 I.write (x:=a) (e:=a) mu (.inl rfl) (λb q hb z=>(hs.2 b hb).trans z) he new
def P7 (z:kvs.length<=sizeLine)(hd:(a==sysModules)=false)(cg:KV kvs vs)(dd:h'.DictOf (Yu P w) a vs):
  YT P w H' h' a (.dK kvs):=⟨z,hd,vs,cg,dd⟩
def Nf {Q:Unit->Shared->Prop}(hu:A.units+1<cLine)(I:Inv X aa U H s)(g:Aw H a y v H')(ry:XW y u)(rv:XW v r)(h:∀s',Inv X aa U H' s'->Q () s'):
  wpAny (model X.prog X.w) A (setItem (.ref a) u r) Q E s:=by
 rcases g with⟨kvs,k,e,ey,l,eH⟩ | ⟨kvs,k,b,e,ey,eb,l,eH⟩
 ·subst ey eH
  obtain⟨z,hd,vs,cg,dd⟩:=W3 I.hok e
  have hz:vs.length<=sizeLine:=by rw[←cg.length];exact z
  have hl:(Gd kvs k v).length<=sizeLine:=by have:=Kt kvs k v;omega
  refine wpAny_setItem_pairs (hsz:=hz) (HC ry) dd λh' dd' hs=>h _ ?_
  have he:∃q,h'.get? a=some q:=let ⟨q,_,_,hq,_⟩:=dd';⟨q,hq⟩
  exact Bo I (by rw[e];exact True.intro) hs he (P7 hl hd (cg.put k rv) dd')
 ·subst ey eH
  cases(show u=Value.ref b from ry)
  obtain⟨z,hd,xs,cg,dd⟩:=qC I.hok e
  have hz:xs.length<=sizeLine:=by rw[←Paired.length cg];exact z
  have hl:(Gd kvs k v).length<=sizeLine:=by have:=Kt kvs k v;omega
  refine wpAny_setItem_heap (hsz:=hz) (tupleKind_room_in1 hu) (ER I.hok eb) dd λh' dd' hs=>h _ ?_
  obtain⟨q,es,ep,hq,h2,h3,h4,_,h5⟩:=dd'
  refine Bo I (by rw[e];exact True.intro) hs ⟨q,hq⟩ ⟨hl,hd,_,(cg.put k eb rv).keeps λc ys ec=>?_,q,es,ep,hq,h2,h3,h4,h5⟩
  rw[XH (AV ec e (λz=>nomatch z))]
  exact ec
end
section
variable {k:Key}
def AU (I:Inv X aa U H s)(e:H a=some (.dK kvs))(ry:XW (kV k) u)(l:CU kvs k=some v)(hm:more=[]∨∃x,more=[x])
  (h:∀w' s',Inv X aa U (upd H a (.dK (KE kvs k))) s'->XW v w'->Q w' s'):wpAny (model X.prog X.w) A (call (.builtin "dict.pop") (.ref a::u::more)) Q E s:=by
 obtain⟨z,hd,vs,cg,dd⟩:=W3 I.hok e
 obtain⟨w',hw,cD⟩:=Ik.some_of (v:=v) (o:=valueAt vs k) (by rw[←l];exact cg.val k)
 have hp:(keyPart u).isSome=true:=by
  cases k with
  |inl i=>obtain⟨t,q⟩:=(show ∃t,u=Value.int i t from ry);subst q;rfl
  |inr x=>obtain⟨t,q⟩:=(show ∃t,u=Value.str x t from ry);subst q;rfl
 have ha:argsOk "dict.pop" ⟨.ref a::u::more,[]⟩:=by
  rcases hm with q | ⟨x,q⟩
  ·subst q;exact PySem.F.args_dict_pop_2 _ _
  ·subst q;exact PySem.F.args_dict_pop_3 _ _ _
 refine call_meetsIn PySem.F.slot_dict_pop dd.typeIs PySem.F.entry_dict_pop ha (meets_dict_pop_there (Yu X.prog X.w) a (HC ry) more hm hp)
  ⟨vs,w',dd,by rw[←cg.length];exact z,hw,λh' dd' hs=>h w' _ ?_ cD⟩
 have he:∃q,h'.get? a=some q:=let ⟨q,_,_,hq,_⟩:=dd';⟨q,hq⟩
 exact Bo I (by rw[e];exact True.intro) hs he (P7 (Nat.le_trans (O1 kvs k) z) hd (cg.drop k) dd')
end
def qE (i:Expr):Prop:=∀ ov iv,subscripted i false ov iv=operate [ov,iv] (getItem ov iv)
def Sk {env:Env}{value slice:Expr}{T id:String}
  (hl:typeLookup (.type T) "__getitem__" =pure (some (.builtin id)))(hs:qE slice)
  (h:wpAny (model prog w) A (eval value env) (λo s₁=>wpAny (model prog w) A (eval slice env) (λi s₂=>s₂.TypeIs o T/\wpAny (model prog w) A (getItem o i) Q E s₂) E s₁) E s):
  wpAny (model prog w) A (eval (.Subscript value slice pos) env) Q E s:=by
 refine Subscript_ (wpAny_mono h (λo s₁ h₁=>wpAny_mono h₁ (λi s₂ h₂=>?_) λ_ _ x=>x) λ_ _ x=>x)
 obtain⟨hT,h₂⟩:=h₂
 unfold subscriptTail
 refine wpAny_bind ?_
 rw[getitemInPython_of_ne hT.not_modules]
 refine wpAny_bind (wpAny_specialOf hT hl ?_)
 have fin:wpAny (model prog w) A (subscripted slice false o i) (λr s₃=>wpAny (model prog w) A (letTemporaryGo value o r >>= λ_=>pure r) Q E s₃) E s₂:=by
  rw[hs o i]
  exact wpAny_operating (wpAny_mono h₂ (λr s₃ h₃=>wpAny_bind (wpAny_letTemporaryGo (wpAny_pure h₃))) λ_ _ x=>x)
 first
  |exact wpAny_pure (wpAny_bind fin)
  |exact wpAny_bind (wpAny_pure (wpAny_bind fin))
  |exact wpAny_bind fin
def BO {y:V}(I:Inv X aa U H s)(g:SK H a y o):s.TypeIs (.ref a) "dict":=by
 rcases g with⟨kvs,k,e,_,_⟩ | ⟨kvs,k,b,e,_,_,_⟩
 ·obtain⟨_,_,vs,_,dd⟩:=MR I.hok e
  exact dd.typeIs
 ·obtain⟨_,_,xs,_,dd⟩:=Iz I.hok e
  exact dd.typeIs
def T2 (td ty:TE):TE:=λU H Q=>td U H λx H1=>ty U H1 λy H2=>∃ a v,x= .ref a/\SK H2 a y (some v)/\Q v H2
def qV (ty td:TE):TE:=λU H Q=>ty U H λy H1=>td U H1 λx H2=>∃ a o,x= .ref a/\SK H2 a y o/\Q (.bl o.isSome) H2
def RQ (td ty tv:TE):TS:=λD U H=>tv U H λv H1=>td U H1 λx H2=>ty U H2 λy H3=>∃ a H4,x= .ref a/\Aw H3 a y v H4/\D.nx U H4
section
variable {o i value:Expr}{cC tpos:Pos}{ty tv:TE}
def Vg (hu:X.A.units+1<cLine)(ho:PE X o td)(hi:PE X i ty)(hs:qE i):PE X (.Subscript o i pos) (T2 td ty):=by
 intro aa s U H Q I h
 refine Sk PySem.F.slot_dict_getitem.lookup hs (thn (ho aa s U H _ I h) λu s1 ⟨x,H1,I1,rx,q1⟩=>thn (hi aa s1 U H1 _ I1 q1) λiv s2 r9=>?_)
 obtain⟨y,H2,I2,ry,a,v,ex,g,q2⟩:=r9
 subst ex
 obtain rfl:u=Value.ref a:=rx
 exact⟨BO I2 g,Ni hu I2 g ry λw' s3 I3 cD=>⟨v,H2,I3,cD,q2⟩⟩
def LH (hu:X.A.units+1<cLine)(hi:PE X i ty)(ho:PE X o td):PC X .In i o (qV ty td):=by
 intro aa s U H Q I h
 refine thn (hi aa s U H _ I h) λiv s1 ⟨y,H1,I1,ry,q1⟩=>thn (ho aa s1 U H1 _ I1 q1) λu s2 r9=>?_
 obtain⟨x,H2,I2,rx,a,ov,ex,g,q2⟩:=r9
 subst ex
 obtain rfl:u=Value.ref a:=rx
 exact jl hu I2 g ry λs3 I3=>⟨.bl ov.isSome,H2,I3,rfl,q2⟩
def Vb (hu:X.A.units+1<cLine)(ho:PE X o td)(hi:PE X i ty)(hv:PE X value tv)(hs:swapsWith value (some (.Subscript o i cC)) pos.line X.env=pure false):
  PS X (.Assign [.Subscript o i cC] value pos) (RQ td ty tv):=by
 intro aa s U H D I h
 refine wpAny_Assign_Subscript (thn (hv aa s U H _ I h) λr s1 ⟨v,H1,I1,rv,q1⟩=>thn (ho aa s1 U H1 _ I1 q1) λu s2 ⟨x,H2,I2,rx,q2⟩=>thn (hi aa s2 U H2 _ I2 q2) λiv s3 r9=>?_) hs
 obtain⟨y,H3,I3,ry,a,H4,ex,g,q3⟩:=r9
 subst ex
 obtain rfl:u=Value.ref a:=rx
 exact Nf hu I3 g ry rv λs4 I4=>⟨U,H4,I4,q3⟩
end
def Op (h:Heap)(hb:sysModules<h.objs.size):YT P w H (h.push {cls:=.type "dict",data:=.dict #[]}) h.objs.size (.dK []):=
 ⟨Nat.zero_le _,beq_eq_false_iff_ne.mpr (Ne.symm (Nat.ne_of_lt hb)),[], .nil,Heap.DictOf.new h⟩
def PP:TE:=λ_ H Q=>∀ p,H p=none->Q (.ref p) (upd H p (.dK []))
section
def F7:PE X (.Dict [] [] pos) PP:=λaa s U H Q I h=>
 wpAny_Dict_empty ⟨.ref s.heap.objs.size,_,I.laid (a:=s.heap.objs.size) (o:=.dK []) (t':=s.toks) (λ_ _ q=>Heap.get?_push_of_some _ q) (Nat.le_refl _) (Op s.heap I.big),rfl,h _ (I.hok.fresh (Nat.le_refl _))⟩
end
structure M1 (X:Cx)(o:Expr)(m:Str)(aB:Pos)(e:Expr)(am:Pos):Prop where
 base:attributeBase o m X.env (eval o X.env)=eval o X.env
 few:((backTo am (starEach [e] X.env)).all (λx=>!x.1)&&(backToKw am (keywordEach [] X.env)).all (λx=>x.1.isSome)
  &&decide (([e]:List Expr).length+([]:List Keyword).length+(if([]:List Keyword).isEmpty then 0 else 1)<30))=true
 line:(aB.endLine==am.line)=true
 trees:backTo am (starEach [e] X.env)=[(false,eval e X.env)]
def IsD (H:Hp)(a:Addr):Prop:=(∃kvs,Rd H a (.dK kvs))∨∃kvs,Rd H a (.dT kvs)
def Wa (I:Inv X aa U H s)(d:IsD H a):
  s.TypeIs (.ref a) "dict" /\(∀b,Value.ref a= .ref b->∃ob,s.heap.get? b=some ob/\ob.dict=none)/\(a==sysModules)=false:=by
 rcases d with⟨kvs,e⟩ | ⟨kvs,e⟩
 ·obtain⟨_,hd,vs,_,dd⟩:=MR I.hok e
  refine⟨dd.typeIs,λb q=>?_,hd⟩
  cases q
  obtain⟨ob,_,_,h1,h2,_⟩:=dd
  exact⟨ob,h1,h2.2.1⟩
 ·obtain⟨_,hd,xs,_,dd⟩:=Iz I.hok e
  refine⟨dd.typeIs,λb q=>?_,hd⟩
  cases q
  obtain⟨ob,_,_,h1,h2,_⟩:=dd
  exact⟨ob,h1,h2.2.1⟩
section
variable {y d:V}{r:Value}{o:Option V}
end
def Pn (td ty:TE):TE:=λU H Q=>td U H λx H1=>∃ a,x= .ref a/\IsD H1 a/\ty U H1 λy H2=>∃ kvs k v,H2 a=some (.dK kvs)/\y=kV k/\CU kvs k=some v/\Q v (upd H2 a (.dK (KE kvs k)))
section
variable {o f:Expr}{aB am:Pos}{ty tx:TE}
def GX (ho:PE X o td)(he:PE X e ty)(m:M1 X o "pop" aB e am):PE X (.Call (.Attribute o "pop" aB) [e] [] am) (Pn td ty):=by
 intro aa s U H Q I h
 refine wpAny_Call_method m.base m.few m.line PySem.F.plainAttrs_dict PySem.F.slot_dict_pop PySem.F.type_dict_pop (thn (ho aa s U H _ I h) λu s1 r9=>?_)
 obtain⟨x,H1,I1,rx,a,ex,d,q1⟩:=r9
 subst ex
 obtain rfl:u=Value.ref a:=rx
 obtain⟨t1,t2,_⟩:=Wa I1 d
 refine⟨t1,t2,?_⟩
 rw[m.trees]
 refine Calls.callWith_builtin rfl (Calls.evalArgs_plain (Calls.spliced_cons (thn (he aa s1 U H1 _ I1 q1) λiv s2 ⟨y,H2,I2,ry,kvs,k,v,ea,ey,l,q2⟩=>Calls.spliced_nil ?_)))
 subst ey
 exact AU I2 ea ry l (.inl rfl) λw' s3 I3 cD=>⟨v,_,I3,cD,q2⟩
end
section
end
section
variable {y:V}
end
section
end
section
variable {κ:Type}[DecidableEq κ]
end
def ML:∀(names:List (Str×NameKind)),(∀x∈names,x.2=NameKind.free->∃c,env.cells.lookup x.1=some c)->
  ∀cs:List (Str×Addr),(∀x c,cs.lookup x=some c->env.cells.lookup x=some c)->
  ∃cl:List (Str×Addr),(forIn names cs (λ(x:Str×NameKind) (r:List (Str×Addr))=>(if(x.2==NameKind.free)=true then do let a ←cellOf env x.1;pure (ForInStep.yield ((x.1,a)::r)) else pure (ForInStep.yield r):Sem (ForInStep (List (Str×Addr))))))=(pure cl:Sem (List (Str×Addr)))/\
   (∀x c,cl.lookup x=some c->env.cells.lookup x=some c)/\(∀x,((x,NameKind.free)∈names∨∃c,cs.lookup x=some c)->∃c,cl.lookup x=some c)
 | [],_,cs,hs=>⟨cs,by rw[List.forIn_nil],hs,λx h=>h.elim (λz=>nomatch z) id⟩
 | (n,k)::r,hf,cs,hs=>by
  have hr:∀x∈r,x.2=NameKind.free->∃c,env.cells.lookup x.1=some c:=λx hx=>hf x (List.mem_cons_of_mem _ hx)
  by_cases hk:k=NameKind.free
  ·subst hk
   obtain⟨a,ha⟩:=hf (n,NameKind.free) List.mem_cons_self rfl
   have dO:∀x c,((n,a)::cs).lookup x=some c->env.cells.lookup x=some c:=λx c h=>by
    rw[List.lookup_cons] at h
    by_cases hx:x=n
    ·subst hx
     simp only[beq_self_eq_true] at h
     rw[←h];exact ha
    ·have:(x==n)=false:=beq_eq_false_iff_ne.mpr hx
     rw[this] at h
     exact hs x c h
   obtain⟨cl,e,h1,h2⟩:=ML r hr ((n,a)::cs) dO
   refine⟨cl,?_,h1,λx h=>h2 x ?_⟩
   ·rw[List.forIn_cons]
    have e1:cellOf env n=pure a:=by unfold cellOf;rw[show env.cells.lookup n=some a from ha]
    simp only[beq_self_eq_true,if_true,e1]
    exact e
   ·rcases h with h | ⟨c,h⟩
    ·rcases List.mem_cons.mp h with h |h
     ·have:x=n:=congrArg Prod.fst h
      subst this
      exact .inr ⟨a,by rw[List.lookup_cons];simp⟩
     ·exact .inl h
    ·by_cases hx:x=n
     ·subst hx;exact .inr ⟨a,by rw[List.lookup_cons];simp⟩
     ·exact .inr ⟨c,by rw[List.lookup_cons,beq_eq_false_iff_ne.mpr hx];exact h⟩
  ·obtain⟨cl,e,h1,h2⟩:=ML r hr cs hs
   refine⟨cl,?_,h1,λx h=>h2 x ?_⟩
   ·rw[List.forIn_cons]
    have hb:(k==NameKind.free)=false:=by simpa using hk
    simp only[hb,Bool.false_eq_true,if_false]
    exact e
   ·rcases h with h |h
    ·rcases List.mem_cons.mp h with h |h
     ·exact absurd (congrArg Prod.snd h).symm hk
     ·exact .inl h
    ·exact .inr h
def B8 (hf:∀x∈scope.names,x.2=NameKind.free->∃c,env.cells.lookup x.1=some c):
  ∃cl:List (Str×Addr),closureFor scope env=pure cl/\(∀x c,cl.lookup x=some c->env.cells.lookup x=some c)/\(∀x,(x,NameKind.free)∈scope.names->∃c,cl.lookup x=some c):=by
 obtain⟨cl,e,h1,h2⟩:=ML scope.names hf [] (λx c h=>by simp at h)
 refine⟨cl,?_,h1,λx h=>h2 x (.inl h)⟩
 unfold closureFor
 show((forIn scope.names [] (λ(x:Str×NameKind) (r:List (Str×Addr))=>(if(x.2==NameKind.free)=true then do let a ←cellOf env x.1;pure (ForInStep.yield ((x.1,a)::r)) else pure (ForInStep.yield r):Sem (ForInStep (List (Str×Addr)))))) >>= λs=>pure s)=pure cl
 rw[e]
 rfl
def Vr {env:Env}:∀{names:List (Str×NameKind)}{x:Str}{k:NameKind},(∀y∈names,y.2≠NameKind.cell)->
  (names.map λ(n,k)=>if(k==NameKind.free&&env.scope.kind== .function&&env.kindOf n==some .cell) then(n,NameKind.cell) else(n,k)).lookup x=some k->(k= .cell∨k= .free)->(x,NameKind.free)∈names
 | [],_,_,_,h,_=>by simp at h
 | (n,kk)::r,x,k,hc,h,hk=>by
  have ih:=@Vr env r x k (λy hy=>hc y (List.mem_cons_of_mem _ hy))
  have hh:=hc (n,kk) List.mem_cons_self
  simp only[List.map_cons] at h
  by_cases bc:(kk==NameKind.free&&env.scope.kind== .function&&env.kindOf n==some .cell)=true
  ·rw[if_pos bc,List.lookup_cons] at h
   have cr:kk=NameKind.free:=by
    rw[Bool.and_eq_true,Bool.and_eq_true] at bc
    simpa using bc.1.1
   cases hx:x==n with
   |true=>
    have:x=n:=by simpa using hx
    subst this;subst cr
    exact List.mem_cons_self
   |false=>rw[hx] at h;exact List.mem_cons_of_mem _ (ih h hk)
  ·rw[if_neg bc,List.lookup_cons] at h
   cases hx:x==n with
   |true=>
    rw[hx] at h
    have fG:kk=k:=Option.some.inj h
    have:x=n:=by simpa using hx
    subst this;subst fG
    rcases hk with z |z
    ·exact absurd z hh
    ·subst z;exact List.mem_cons_self
   |false=>rw[hx] at h;exact List.mem_cons_of_mem _ (ih h hk)
def Jj {env:Env}:∀{names:List (Str×NameKind)}{x:Str},names.lookup x=some .free->
  let l:=(names.map λ(n,k)=>if(k==NameKind.free&&env.scope.kind== .function&&env.kindOf n==some .cell) then(n,NameKind.cell) else(n,k))
  l.lookup x=some .cell∨l.lookup x=some .free
 | [],_,h=>by simp at h
 | (n,kk)::r,x,h=>by
  have ih:=@Jj env r x
  simp only[List.map_cons]
  rw[List.lookup_cons] at h
  by_cases bc:(kk==NameKind.free&&env.scope.kind== .function&&env.kindOf n==some .cell)=true
  ·rw[if_pos bc,List.lookup_cons]
   cases hx:x==n with
   |true=>exact .inl rfl
   |false=>rw[hx] at h;exact ih h
  ·rw[if_neg bc,List.lookup_cons]
   cases hx:x==n with
   |true=>rw[hx] at h;exact .inr h
   |false=>rw[hx] at h;exact ih h
abbrev Cx.comp (X:Cx)(N:List Str)(scope:Scope)(cl:List (Str×Addr))(C:Addr)(s:Shared)(H:Hp)(ex:List Addr)(E:Value->Shared->Prop):Cx:=
 {X with N:=N,s₀:=s,H₀:=H,env:=compEnvC scope cl C X.env,outer:=X.stack,ex:=ex,fn:=λ_=>false,pn:=[],xe:=E}
def PTs (X:Cx)(bg:List Expr)(t:TT):Prop:=
 ∀(aa:List (Addr×Obj)) (s:Shared) (U:St) (H:Hp) (Q:Bool->Hp->Prop),Inv X aa U H s->t U H Q->
  wpAny (model X.prog X.w) X.A (forIn bg true λc r=>if r=true then do let ok ←isTrue c X.env (eval c X.env);pure (ForInStep.yield ok) else pure (ForInStep.yield r)) (TP X aa U Q) X.xe s
def FC:TT:=λ_ H Q=>Q true H
def Wd {A Bqz:Hp->Prop}(h:A H):FC U H λc H5=>if c=true then A H5 else Bqz H5:=by
 show if true=true then A H else Bqz H
 rw[if_pos rfl]
 exact h
def YF:PTs X [] FC:=λ_ _ _ H _ I h=>wpAny_tests_nil ⟨H,I,h⟩
def Qs (h:PT X c t):PTs X [c] t:=λaa s U H Q I hw=>wpAny_tests_one (h aa s U H Q I hw)
def V6 (n:Nat)(g:TG):Prop:=∀ x U H Q,g x U H Q->g x U H λσ2 H2=>Q σ2 H2/\σ2.length=U.length/\∀i,n<=i->σ2[i]?=U[i]?
def X0 (h:i<n):V6 n (Yr i):=λx U H Q q=>⟨q,by simp,λj hj=>by rw[List.getElem?_set_ne (by lia)]⟩
def MD (hi:i<n)(hj:j<n):V6 n (OG K 2 (Z3 (Yr i) (Z3 (Yr j) Pl))):=λx U H Q q=>by
 obtain⟨a,xs,e1,hq,hl,v,r,e2,w,r2,e3,e4,q⟩:=q
 exact⟨a,xs,e1,hq,hl,v,r,e2,w,r2,e3,e4,q,by simp,λk hk=>by rw[List.getElem?_set_ne (by lia),List.getElem?_set_ne (by lia)]⟩
def X6 (n:Nat)(caps:List (Nat×Str))(U:St):St:=List.replicate n none++caps.map λp=>(U[p.1]?).join
def OQ (g:TG)(tt:TT)(te:TE)(U:St)(Q:VK)(J:It)(W:Nat->Nat->List V->Hp->Prop):Prop:=
 ∀i m ys H2,W i m ys H2->ys.length<=sizeLine/\
  ((J.stop i H2/\∀p,H2 p=none->Q (.ref p) (upd H2 p (.lst ys)))∨
  (J.go i H2/\∃N:List V->Hp->Prop,(∀ys' H',N ys' H'->∃m',m'<m/\W (i+1) m' ys' H')/\∀x H3,J.yld i H2 x H3->g x U H3 λσ4 H4=>tt σ4 H4 λc H5=>
   if c=true then te σ4 H5 λv H6=>N (ys++[v]) H6 else N ys H5))
def Ml (n:Nat)(caps:List (Nat×Str))(g:TG)(tt:TT)(te:TE)(U:St)(Q:VK)(J:It)(H1:Hp):Prop:=
 ∃W:Nat->Nat->List V->Hp->Prop,(∃m,W 0 m [] H1)/\OQ g tt te (X6 n caps U) Q J W
def Cr (n:Nat)(caps:List (Nat×Str))(wi:TI)(g:TG)(tt:TT)(te:TE):TE:=λU H Q=>wi U H λJ H1=>Ml n caps g tt te U Q J H1
def Ct (sc scope:Scope)(N0 tns:List Str)(caps:List (Nat×Str)):Bool:=
 scope.kind== .function&&scope.names.all (λy=>!(y.2== .cell))&&scope.names.all (λy=>!(y.2== .local) || scope.names.lookup y.1==some .local)&&
 scope.names.all (λy=>!(y.2== .free) || sc.names.lookup y.1==some .cell)&&caps.all (λp=>N0[p.1]?==some p.2&&sc.names.lookup p.2==some .cell&&scope.names.lookup p.2==some .free)
def DL {p:M}{P:Prop}(h:p∈([]:List M)):P:=nomatch h
def WJ (Mqz:Model)(A:Around)(bd tg:Expr)(bg:List Expr)(acc:Value)(env:Env)(E:Value->Shared->Prop)(K:Shared->Prop)(v:Value)(s:Shared):Prop:=
 wpAny Mqz A (assign tg env v) (λ_ s₂=>wpAny Mqz A (forIn bg true λc r=>if r=true then do let ok ←isTrue c env (eval c env);pure (ForInStep.yield ok) else pure (ForInStep.yield r)) (λok s₃=>
  if ok=true then wpAny Mqz A (eval bd env) (λx s₄=>wpAny Mqz A (call (.builtin "list.append") [acc,x]) (λ_ s₅=>K s₅) E s₄) E s₃ else K s₃) E s₂) E s
def qr (Mqz:Model)(A:Around)(bd tg:Expr)(bg:List Expr)(it acc:Value)(env:Env)(E:Value->Shared->Prop)(Rn K:Shared->Prop)(s:Shared):Prop:=
 wpAny Mqz A (pyNext it) (λr s₁=>r=none/\Rn s₁∨∃v,r=some v/\wpAny Mqz A (letOwnedTupleGo tg it v) (λ_ s₁=>WJ Mqz A bd tg bg acc env E K v s₁) E s₁) E s
section
def D0 (I:Nat->Shared->Prop)(hE:(notedBy (model prog w) A env λe s'=>R (.error e) s')=E)
  (turn:∀n s,I n s->qr (model prog w) A bd cB bg it acc env E (λs=>R (.ok .next) s) (λs=>∃ m,m<n/\I m s) s)(n:Nat)(h:I n s):
  codeAny (model prog w) A (.compLoop (.ListComp bd [⟨cB,iter,bg,0⟩] scope pos) 0 it acc env) R s:=by
 subst hE
 refine codeAny_loop rfl I (λn s hI=>?_) n h
 show wpAny _ A ((compTurn (.ListComp bd [⟨cB,iter,bg,0⟩] scope pos) 0 it acc env).onRaise (λx=>do noteFrame x env;theTreesLotGoes x)) _ _ s
 refine wpAny_noted ?_
 rw[compTurn_list]
 refine wpAny_bind (wpAny_standAt (wpAny_bind (thn (turn n s hI) λr s₁ h₁=>?_)))
 rcases h₁ with⟨rfl,h₁⟩ | ⟨v,rfl,h₁⟩
 ·exact wpAny_pure h₁
 ·refine wpAny_bind (thn h₁ λ_ s₁' h₁'=>wpAny_bind (thn h₁' λ_ s₂ h₂=>wpAny_bind (thn h₂ λok s₃ h₃=>?_)))
  cases ok with
  |false=>exact wpAny_pure ⟨rfl,h₃⟩
  |true=>exact wpAny_bind (wpAny_bind (thn h₃ λx s₄ h₄=>wpAny_bind (thn h₄ λ_ s₅ h₅=>wpAny_pure (wpAny_pure ⟨rfl,h₅⟩))))
end
def lob (its:List Value)(k:Nat):Obj:={cls:=.type "list",data:=.seq (List.toArray its) k}
structure CIn (Y:Cx)(tn:Nat->Heap->Prop)(fp:List Addr)(D:Addr)(U:St)(i:Nat)(H:Hp)(o:Obj)(s:Shared):Prop where
 I:Inv Y [] U H s
 t:tn i s.heap
 f:∀b∈fp,H b=none
 l:s.heap.get? D=some o
 n:H D=none
inductive CI (Y:Cx)(tn:Nat->Heap->Prop)(fp:List Addr)(D:Addr)(U:St)(W:Nat->Nat->List V->Hp->Prop)(m:Nat)(s:Shared):Prop
 |mk (i:Nat) (H:Hp) (ys:List V) (its:List Value) (k:Nat) (c:CIn Y tn fp D U i H (lob its k) s) (r:XX ys its) (w:W i m ys H)
structure CAt (Y:Cx)(fp:List Addr)(D:Addr):Prop where
 calm:Y.calm=true
 pn:Y.pn=[]
 ne:D≠Y.env.locals
 fs:D∉Y.fs
 sz:Y.s₀.heap.objs.size<=D
 cl:∀x c,Y.env.cells.lookup x=some c->c≠D
 fpn:∀b∈fp,b≠D
 ok:∀b∈fp,∀H:Hp,H b=none->CZ Y [] H b
section
variable {Y:Cx}{tn:Nat->Heap->Prop}{fp:List Addr}{D it:Addr}{bd iter:Expr}{J:It}{g:TG}{tt:TT}{i:Nat}{o:Obj}{Kn:Shared->Prop}
def CAt.pns (c:CAt Y fp D)(hn:∀b∈fp,H b=none):∀b∈fp,CZ Y [(D,o)] H b:=λb hb=>
 have z:=c.ok b hb H (hn b hb)
 ⟨z.1,z.2.1,z.2.2.1,z.2.2.2.1,z.2.2.2.2.1,λp hp e=>by
  rw[c.pn] at hp
  cases List.mem_singleton.mp hp
  exact c.fpn b hb e.symm⟩
def EL (T:Turn Y.prog Y.w Y.K tg J fp it tn)(t:tn i h5)(I:Inv Y ([(D,o)]++Dh fp h5) U H s):CIn Y tn fp D U i H o s:=
 have p:=I.pin (D,o) (List.mem_append_right _ (.head _))
 have q:∀b∈fp,∀o',h5.get? b=some o'->s.heap.get? b=some o'/\H b=none:=λb hb o' e=>have z:=I.pin (b,o') (List.mem_append_right _ (.tail _ (Uk hb e)));⟨z.1,z.2.1⟩
 ⟨I.pins_of (pins':=[]) λ_ h=>DL h,T.keep _ _ _ t λb hb o' e=>(q b hb o' e).1,λb hb=>(T.obj _ _ t b hb).elim λo' e=>(q b hb o' e.1).2,p.1,p.2.1⟩
theorem js (T:Turn Y.prog Y.w Y.K tg J fp it tn)(a:CAt Y fp D)(c:CIn Y tn fp D U i H (lob its k) s)(hz:its.length<=sizeLine)
  (hQ:∀k' s',CIn Y tn fp D U i H (lob (its++[v]) k') s'->Kn s'):wpAny (model Y.prog Y.w) Y.A (call (.builtin "list.append") [.ref D,v]) (λ_ s=>Kn s) E s:=by
 refine call_meets F.slot_list_append ⟨_,c.l,rfl⟩ F.entry_list_append (F.args_list_append_2 _ _) (PySem.list_append D (List.toArray its) k v hz) ⟨c.l,?_⟩
 have q:∃k',PySem.IsL (s.heap.update D (Obj.mapSeq (·.push v))) D ((List.toArray its).push v) k':=⟨_,PySem.IsL.update c.l (·.push v)⟩
 rw[List.push_toArray] at q
 obtain⟨k',q⟩:=q
 exact hQ k' _ ⟨c.I.turned (t':=s.toks) (h':=s.heap.update D (Obj.mapSeq (·.push v))) (it:=D) (λb o dP e=>(Heap.get?_update_other s.heap _ (Ne.symm dP)).trans e) c.n a.ne (.inr a.sz) a.cl (λp hp=>by rw[a.pn] at hp;exact DL hp),
  T.keep _ _ _ c.t λb hb o e=>(Heap.get?_update_other s.heap _ (Ne.symm (a.fpn b hb))).trans e,c.f,q,c.n⟩
def OT {N:List V->Hp->Prop}{x:V}(hg:PG Y tg g)(ht:PTs Y bg tt)(he:PE Y bd te)(hG:V6 n g)(h0:∀(j:Nat) v,U[j]?=some (some v)->n<=j)
  (I:Inv Y aa U H s)(r:XW x u)(st:g x U H λσ4 H4=>tt σ4 H4 λc H5=>if c=true then te σ4 H5 λv H6=>N (ys++[v]) H6 else N ys H5)
  (hF:∀H7 s7,Inv Y aa U H7 s7->N ys H7->Kn s7)(hT:∀H8 s8 y v,Inv Y aa U H8 s8->XW y v->N (ys++[y]) H8->wpAny (model Y.prog Y.w) Y.A (call (.builtin "list.append") [acc,v]) (λ_ s=>Kn s) Y.xe s8):
  WJ (model Y.prog Y.w) Y.A bd tg bg acc Y.env Y.xe Kn u s:=by
 refine thn (hg _ s _ H x u _ I r (hG _ _ _ _ st)) λ_ s6 r9=>?_
 obtain⟨σ6,H6,I6,q6,l6,k6⟩:=r9
 have wk:∀(j:Nat) v,U[j]?=some (some v)->σ6[j]?=some (some v):=λj v e=>(k6 j (h0 j v e)).trans e
 refine thn (ht _ s6 σ6 H6 _ I6 q6) λc s7 r9=>?_
 obtain⟨H7,I7,q7⟩:=r9
 cases c with
 |false=>exact hF _ _ (I7.weak l6.symm wk) q7
 |true=>exact thn (he _ s7 σ6 H7 _ I7 q7) λv8 s8 r9=>by obtain⟨y8,H8,I8,r8,n8⟩:=r9;exact hT _ _ _ _ (I8.weak l6.symm wk) r8 n8
def GF {Q:V->Hp->Prop}(hE:(notedBy (model Y.prog Y.w) Y.A Y.env λe s'=>R (.error e) s')=Y.xe)
  (T:Turn Y.prog Y.w Y.K tg J fp it tn)(hG:V6 n g)(hg:PG Y tg g)(ht:PTs Y bg tt)(he:PE Y bd te)(a:CAt Y fp D)(h0:∀(j:Nat) v,U[j]?=some (some v)->n<=j)
  (turn:OQ g tt te U Q J W)
  (hEnd:∀ys its k H3 s4,Inv Y [(D,lob its k)] U H3 s4->XX ys its->ys.length<=sizeLine->Q (.ref D) (upd H3 D (.lst ys))->R (.ok .next) s4)(hi:CI Y tn fp D U W m0 s):
  codeAny (model Y.prog Y.w) Y.A (.compLoop (.ListComp bd [⟨tg,iter,bg,0⟩] scope pos) 0 (.ref it) (.ref D) Y.env) R s:=by
 refine D0 (CI Y tn fp D U W) hE (λm s3 c=>?_) m0 hi
 cases c with
 |mk i H3 ys its k c rv w3=>
 have I3:Inv Y [(D,lob its k)] U H3 s3:=c.I.pins_of λp hp=>List.mem_singleton.mp hp▸⟨c.l,c.n,a.ne,a.fs,λ_ z=>by cases z⟩
 have t:=turn i m ys H3 w3
 refine t.2.elim (λq=>?_) λq=>?_
 ·exact thn (T.done Y rfl rfl rfl a.calm i _ s3 _ H3 Y.xe I3 (a.pns c.f) c.t q.1) λr s4 h=>.inl ⟨h.1,hEnd ys its k H3 s4 h.2 rv t.1 (q.2 D c.n)⟩
 ·refine q.2.elim λNN h=>?_
  refine thn (T.item Y rfl rfl rfl a.calm i _ s3 _ H3 Y.xe I3 (a.pns c.f) c.t q.1) λr s4 h4=>.inr (h4.elim λu h4=>⟨u,h4.1,thn h4.2 λ_ s5 h5=>h5.elim λx h5=>h5.elim λH5 h5=>?_⟩)
  exact OT hg ht he hG h0 (h5.1.pinned (a.pns h5.2.2.2.2) (T.obj _ _ h5.2.2.2.1)) h5.2.1 (h.2 x H5 h5.2.2.1)
   (λH7 s7 I7 q7=>(h.1 _ _ q7).elim λm' z=>⟨m',z.1, .mk (i+1) H7 ys its k (EL T h5.2.2.2.1 I7) rv z.2⟩)
   λH8 s8 y v I8 r8 q8=>(h.1 _ _ q8).elim λm' z=>js T a (EL T h5.2.2.2.1 I8) (rv.length▸t.1) λk' s' c'=>⟨m',z.1, .mk (i+1) H8 (ys++[y]) (its++[v]) k' c' (rv.append (.cons r8 .nil)) z.2⟩
end
section
variable {bd iter:Expr}{sc:Scope}{tns:List Str}{wi:TI}{g:TG}{tt:TT}
structure CompEnd (X:Cx)(aa:List (Addr×Obj))(U:St)(H3:Hp)(D C:Addr)(ys:List V)(s':Shared):Prop where
 inv:Inv X aa U (upd H3 D (.lst ys)) s'
 fresh:H3 D=none
 fp:CZ X aa (upd H3 D (.lst ys)) C
 ns:∃m,s'.heap.Ns C m
def Ho {D:Addr}(I:Inv X aa U H s)(hf:∀b∈fp,CZ X aa H b)(hD:s.heap.objs.size<=D)(cj:D<C)
  (I4:Inv Y [(D,lob its k)] U' H3 s4)(ed:s4.os=s.os)(u:Un (frs X.stack) fp H H3 s.heap s4.heap)(hok:HOk X.prog X.w H3 s4.heap)(hC:Y.env.locals=C)(rv:XX ys its)(hz:ys.length<=sizeLine):CompEnd X aa U H3 D C ys s4:=by
 subst hC
 have p:=I4.pin (D,lob its k) (List.mem_append_right _ (.head _))
 have hDn:H3 D=none:=p.2.1
 have up:∀{b:Addr}{o:HO},H3 b=some o->upd H3 D (.lst ys) b=some o:=λe=>(XH (XR e hDn)).trans e
 refine⟨I.call' (ch:=fp) ed ⟨u.keep,u.slot,λb o e nn hx=>(XH (Nat.ne_of_lt (Nat.lt_of_lt_of_le (Heap.lt_size e) hD))).trans (u.free b o e nn hx),u.there,λb xs e=>up (u.tups b xs e),λb o xs e=>up (u.frzs b o xs e),λb ps e=>(u.tbls b ps e).elim λmore z=>⟨more,up z⟩⟩ (λa o e=>?_) I4.bare λb hb=>have z:=hf b hb;⟨z.2.2.2.1,z.2.1,z.2.2.2.2.1,z.2.2.2.2.2⟩,hDn,I.fpOk (Nat.le_trans hD (Nat.le_of_lt cj)) ((XH (Nat.ne_of_gt cj)).trans I4.free),I4.loc.elim λm z=>⟨m,z.1⟩⟩
 by_cases ha:a=D
 ·subst ha
  rw[Ym] at e;cases e
  exact⟨hz,its,k,rv,p.1⟩
 ·rw[XH ha] at e
  exact(hok a o e).stay (λb u _ q=>q) (λb q=>up q) λb xs q=>up q
def jp (X:Cx)(bd tg iter:Expr)(bg:List Expr)(scope:Scope)(pos:Pos)(it:Value)(cl:List (Str×Addr))(RR:Value->Addr->Result->Shared->Prop)(E:Value->Shared->Prop)(s:Shared):Prop:=
 wpAny (model X.prog X.w) X.A (newList []) (λacc s₃=>wpAny (model X.prog X.w) X.A (newFunctionEnv scope X.env.globals cl [] X.env.qual none .none (some X.env)) (λeR s₄=>
   codeAny (model X.prog X.w) X.A (.compStart (.ListComp bd [⟨tg,iter,bg,0⟩] scope pos) 0 it acc {eR with scope:=relabel scope X.env}) (RR acc eR.locals) s₄) E s₃) E s
def K0 (e:(X6 n caps U)[i]?=some (some v)):n<=i/\∃p,caps[i-n]?=some p/\U[p.1]?=some (some v):=by
 unfold X6 at e
 by_cases h:i<n
 ·rw[List.getElem?_append_left (by simpa using h),List.getElem?_replicate,if_pos h] at e
  cases e
 ·have hi:=Nat.le_of_not_lt h
  rw[List.getElem?_append_right (by simpa using hi),List.length_replicate,List.getElem?_map] at e
  refine⟨hi,?_⟩
  cases il:caps[i-n]? with
  |none=>rw[il] at e;cases e
  |some p=>
   rw[il] at e
   exact⟨p,rfl,Option.join_eq_some_iff.mp (Option.some.inj e)⟩
structure COk (X:Cx)(scope:Scope)(caps:List (Nat×Str)):Prop where
 kind:scope.kind= .function
 cell:∀y∈scope.names,y.2≠NameKind.cell
 loc:∀y∈scope.names,y.2= .local->scope.names.lookup y.1=some .local
 free:∀y∈scope.names,y.2= .free->X.env.scope.names.lookup y.1=some .cell
 caps:∀p∈caps,(X.N[p.1]?=some p.2/\X.env.scope.names.lookup p.2=some .cell)/\scope.names.lookup p.2=some .free
def COk.of (dH:X.env.scope=sc)(dQ:X.N=N0)(ok:Ct sc scope N0 tns caps=true):COk X scope caps:=by
 subst dH
 subst dQ
 unfold Ct at ok
 simp only[Bool.and_eq_true,List.all_eq_true,beq_iff_eq,Bool.or_eq_true,Bool.not_eq_true',beq_eq_false_iff_ne] at ok
 exact⟨ok.1.1.1.1,ok.1.1.1.2,λy hy e=>(ok.1.1.2 y hy).resolve_left (absurd e),λy hy e=>(ok.1.2 y hy).resolve_left (absurd e),ok.2⟩
section
variable {fp:List Addr}{cl:List (Str×Addr)}{C:Addr}{h₁:Heap}
def Tk (ok:COk X scope caps)(I:Inv X aa U H s)(hf:∀b∈fp,CZ X aa H b)(ah:∀b∈fp,b<s.heap.objs.size)
  (aq:∀x c,cl.lookup x=some c->X.env.cells.lookup x=some c)(aO:∀x,(x,NameKind.free)∈scope.names->∃c,cl.lookup x=some c)(hC:s.heap.objs.size<C):(X.comp N scope cl C s H fp E).Ok:=
 ⟨I.ok.mod,ok.kind,I.ok.glob,I.ok.blt,Nat.le_of_lt hC,λx y c h1 h2=>I.ok.inj x y c (aq x c h1) (aq y c h2),λx hx=>aO x (hx.elim (λz=>Vr ok.cell z (.inl rfl)) λz=>Vr ok.cell z (.inr rfl)),(λx c hx=>by cases hx),I.ok.hd,I.ok.frames, .inl rfl,
  λb hb=>⟨Nat.ne_of_lt (Nat.lt_trans (ah b hb) hC),λx c e=>(hf b hb).2.2.2.2.1 x c (aq x c e)⟩,I.bs,Nat.le_trans I.ok.bsz I.sz,λb o e hb=>(hf b hb).2.2.2.1.elim (I.ok.noex b o e) λz=>absurd (Nat.lt_of_lt_of_le (Heap.lt_size e) (Nat.le_trans I.ok.bsz z)) (Nat.lt_irrefl _),
  λb hb hz=>(List.mem_cons.mp (I.stkSub b hz)).elim (hf b hb).2.1 (hf b hb).2.2.1,I.stack,I.stkFree⟩
def NO (eT:COk X scope caps)(hn:tns.length=n)(ok:(X.comp (tns++caps.map (·.2)) scope cl C s H fp E).Ok)(I:Inv X aa U H s)
  (aq:∀x c,cl.lookup x=some c->X.env.cells.lookup x=some c)(aO:∀x,(x,NameKind.free)∈scope.names->∃c,cl.lookup x=some c)(hC:s.heap.objs.size<C)(eA:h₁.Ns C λ_=>none)(bK:∀b o,s.heap.get? b=some o->h₁.get? b=some o){tk:Nat}:
  Inv (X.comp (tns++caps.map (·.2)) scope cl C s H fp E) [] (X6 n caps U) H {s with heap:=h₁,toks:=tk}:=by
 refine⟨ok,rfl,I.bare,Un.kept bK,⟨_,eA,λi x v e1 e2 _=>?_⟩,λx c e=>(I.cell x c (aq x c e)).elim λv z=>z.elim λo z=>⟨v,o,bK _ _ z.1,z.2⟩,I.hok.fresh (Nat.le_of_lt hC),λx c e=>I.freeC x c (aq x c e),λp hp=>DL (M:=Addr×Obj) hp,I.hok.kept bK,by simp[X6,hn]⟩
 obtain⟨hi,p,hp,hσ⟩:=K0 e2
 have gH:(tns++caps.map (·.2))[i]?=some x:=e1
 rw[List.getElem?_append_right (hn▸hi),hn,List.getElem?_map,hp] at gH
 cases Option.some.inj gH
 have p5:=eT.caps p (List.mem_of_getElem? hp)
 obtain⟨m,hm,hl⟩:=I.loc
 obtain⟨u,r,l⟩:=hl p.1 p.2 v p5.1.1 hσ (.inr (.inl p5.1.2))
 refine⟨u,r, .inr ?_⟩
 rcases l with⟨k,_⟩ | ⟨k,c,e,z⟩
 ·cases p5.1.2.symm.trans k
 ·obtain⟨c',e'⟩:=aO p.2 (mem_of_lookup p5.2)
  cases e.symm.trans (aq _ _ e')
  exact⟨Jj (env:=X.env) p5.2,c,e',z.elim λo z=>⟨o,bK _ _ z.1,z.2⟩⟩
variable {J:It}{it:Addr}{tn:Nat->Heap->Prop}{Q:V->Hp->Prop}{RR:Value->Addr->Result->Shared->Prop}{W:Nat->Nat->List V->Hp->Prop}{m0:Nat}
def SH (ok:COk X scope caps)(hc:X.calm=true)(hn:tns.length=n)(hG:V6 n g)
  (hb:∀cl C s H ex E,PG (X.comp (tns++caps.map (·.2)) scope cl C s H ex E) tg g/\PTs (X.comp (tns++caps.map (·.2)) scope cl C s H ex E) bg tt/\PE (X.comp (tns++caps.map (·.2)) scope cl C s H ex E) bd te)
  (I:Inv X aa U H s)(T:Turn X.prog X.w X.K tg J fp it tn)(t0:tn 0 s.heap)(hf:∀b∈fp,CZ X aa H b)
  (aq:∀x c,cl.lookup x=some c->X.env.cells.lookup x=some c)(aO:∀x,(x,NameKind.free)∈scope.names->∃c,cl.lookup x=some c)
  (w0:W 0 m0 [] H)(turn:OQ g tt te (X6 n caps U) Q J W)
  (i6:∀D C ys H3 s',CompEnd X aa U H3 D C ys s'->Q (.ref D) (upd H3 D (.lst ys))->RR (.ref D) C (.ok .next) s')
  (hC:s.heap.objs.size<C)(eA:h₁.Ns C λ_=>none)(bK:∀b o,s.heap.get? b=some o->h₁.get? b=some o)(dR:h₁.get? s.heap.objs.size=some (lob [] 0)){tk:Nat}:
  codeAny (model X.prog X.w) X.A (.compStart (.ListComp bd [⟨tg,iter,bg,0⟩] scope pos) 0 (.ref it) (.ref s.heap.objs.size) (compEnvC scope cl C X.env)) (RR (.ref s.heap.objs.size) C) {s with heap:=h₁,toks:=tk}:=by
 have ah:∀b∈fp,b<s.heap.objs.size:=λb hb=>(T.obj _ _ t0 b hb).elim λo e=>Heap.lt_size e.1
 have okY:∀E,(X.comp (tns++caps.map (·.2)) scope cl C s H fp E).Ok:=λE=>Tk ok I hf ah aq aO hC
 have t1:tn 0 h₁:=T.keep _ _ _ t0 λb _ o e=>bK b o e
 have di:∀tk,codeAny (model X.prog X.w) X.A (.compLoop (.ListComp bd [⟨tg,iter,bg,0⟩] scope pos) 0 (.ref it) (.ref s.heap.objs.size) (compEnvC scope cl C X.env)) (RR (.ref s.heap.objs.size) C) {s with heap:=h₁,toks:=tk}:=λtk=>
  have z:=hb cl C s H fp (notedBy (model X.prog X.w) X.A (compEnvC scope cl C X.env) λe s'=>RR (.ref s.heap.objs.size) C (.error e) s')
  GF (Y:=X.comp (tns++caps.map (·.2)) scope cl C s H fp _) rfl T hG z.1 z.2.1 z.2.2
   ⟨hc,rfl,Nat.ne_of_lt hC,λhz=>(I.stack.mem hz).2.elim λo ho=>absurd (Heap.lt_size ho.1) (Nat.lt_irrefl _),Nat.le_refl _,λx c e=>(I.cell x c (aq x c e)).elim λv z=>Nat.ne_of_lt z.lt,λb hb=>Nat.ne_of_lt (ah b hb),
    λb hb H' h'=>⟨h',Nat.ne_of_lt (Nat.lt_trans (ah b hb) hC),(okY λ_ _=>True).exfs b hb, .inl hb,λx c e=>(hf b hb).2.2.2.2.1 x c (aq x c e),λp hp=>DL (M:=Addr×Obj) hp⟩⟩
   (λj v e=>(K0 e).1) turn (λys its k H3 s4 I4 rv hz q=>i6 _ C ys H3 s4 (Ho I hf (Nat.le_refl _) hC I4 I4.os I4.base I4.hok rfl rv hz) q)
   (.mk 0 H [] [] 0 ⟨NO ok hn (okY _) I aq aO hC eA bK,t1,λb hb=>(hf b hb).1,dR,I.hok.fresh (Nat.le_refl _)⟩ .nil w0)
 exact codeAny_compStart_list (di _) (T.self _ 0 _ _ _ t1 (di _))
def GG (ok:COk X scope caps)(hc:X.calm=true)(hn:tns.length=n)(hG:V6 n g)
  (hb:∀cl C s H ex E,PG (X.comp (tns++caps.map (·.2)) scope cl C s H ex E) tg g/\PTs (X.comp (tns++caps.map (·.2)) scope cl C s H ex E) bg tt/\PE (X.comp (tns++caps.map (·.2)) scope cl C s H ex E) bd te)
  (h:PIE X aa U tg (λJ H1=>Ml n caps g tt te U Q J H1) gB s)
  (aq:∀x c,cl.lookup x=some c->X.env.cells.lookup x=some c)(aO:∀x,(x,NameKind.free)∈scope.names->∃c,cl.lookup x=some c)
  (i6:∀D C ys H3 s',CompEnd X aa U H3 D C ys s'->Q (.ref D) (upd H3 D (.lst ys))->RR (.ref D) C (.ok .next) s'):
  jp X bd tg iter bg scope pos gB cl RR E s:=by
 obtain⟨it,fp,tn,J,H',rfl,I,T,t0,hf,W,⟨m0,w0⟩,turn⟩:=h
 refine wpAny_newObj_type (wpAny_newFunctionEnv ok.cell (by intro y hy;simp at hy) (λh₁ eU dj=>?_) ok.kind)
 have hs:∀o,(s.heap.push o).objs.size=s.heap.objs.size+1:=λo=>Heap.size_push ..
 exact SH ok hc hn hG hb I T t0 hf aq aO w0 turn i6 (Nat.lt_of_lt_of_eq (Nat.lt_succ_self _) (hs _).symm) eU
  (λb o e=>dj.extBut b o (Nat.ne_of_lt (Nat.lt_trans (Heap.lt_size e) (Nat.lt_of_lt_of_eq (Nat.lt_succ_self _) (hs _).symm))) (Heap.get?_push_of_some _ (Heap.get?_push_of_some _ e)))
  (dj.extBut _ _ (Nat.ne_of_lt (Nat.lt_of_lt_of_eq (Nat.lt_succ_self _) (hs _).symm)) (Heap.get?_push_of_some _ (Heap.get?_push_size _ rfl)))
end
def Tb (sc:Scope)(N0:List Str)(tns:List Str)(caps:List (Nat×Str))(hc:X.calm=true)(hi:PI X tg iter wi)(hG:V6 tns.length g)
  (hb:∀cl C s H ex E,PG (X.comp (tns++caps.map (·.2)) scope cl C s H ex E) tg g/\PTs (X.comp (tns++caps.map (·.2)) scope cl C s H ex E) bg tt/\PE (X.comp (tns++caps.map (·.2)) scope cl C s H ex E) bd te)
  (dH:X.env.scope=sc:=by rfl)(dQ:X.N=N0:=by rfl)(ok:Ct sc scope N0 tns caps=true:=by decide+kernel)
  (hs:∀x,foldedSetIterable iter X.env x=pure x:=by intro _;rfl):
  PE X (.ListComp bd [⟨tg,iter,bg,0⟩] scope pos) (Cr tns.length caps wi g tt te):=by
 intro aa s U H Q I h
 have eT:=COk.of dH dQ ok
 obtain⟨cl,i7,aq,aO⟩:=B8 (scope:=scope) (env:=X.env) λx hx fH=>I.ok.has x.1 (.inl (eT.free x hx fH))
 rw[eval_ListComp]
 exact wpAny_comprehension_free (use:=none) rfl hs i7 eT.kind eT.loc (thn (hi aa s U H _ I h) λxv s₁ h₁=>thn h₁ λgB s₂ h₂=>
  GG (RR:=λacc C=>compPost (model X.prog X.w) X.A X.xe none (EP X aa U Q) acc C) eT hc rfl hG hb h₂ aq aO λD C ys H3 s' ce q=>ce.ns.elim λmm eA=>
   ⟨mm,eA,λh' dO=>⟨.ref D,_,ce.inv.turned (t':=s'.toks) (λb o dP e=>(dO.extBut b o dP e)) ce.fp.1 ce.fp.2.1 ce.fp.2.2.2.1 ce.fp.2.2.2.2.1 ce.fp.2.2.2.2.2,rfl,q⟩⟩)
def Vf (j:Nat)(sc:Scope)(N0:List Str)(tns:List Str)(caps:List (Nat×Str))(hc:X.calm=true)(hN:X.N.Nodup)(hj:X.N[j]?=some x)(hx:X.env.scope.names.lookup x=some .local)(hi:PI X tg iter wi)(hG:V6 tns.length g)
  (hb:∀cl C s H ex E,PG (X.comp (tns++caps.map (·.2)) scope cl C s H ex E) tg g/\PTs (X.comp (tns++caps.map (·.2)) scope cl C s H ex E) bg tt/\PE (X.comp (tns++caps.map (·.2)) scope cl C s H ex E) bd te)
  (dH:X.env.scope=sc:=by rfl)(dQ:X.N=N0:=by rfl)(ok:Ct sc scope N0 tns caps=true:=by decide+kernel)
  (hsw:swapsWith (.ListComp bd [⟨tg,iter,bg,0⟩] scope pos) (some (.Name x px)) spos.line X.env=pure true:=by rfl)
  (hs:∀x,foldedSetIterable iter X.env x=pure x:=by intro _;rfl):
  PS X (.Assign [.Name x px] (.ListComp bd [⟨tg,iter,bg,0⟩] scope pos) spos) (DW (Cr tns.length caps wi g tt te) (Yr j)):=by
 intro aa s U H D I h
 have eT:=COk.of dH dQ ok
 obtain⟨cl,i7,aq,aO⟩:=B8 (scope:=scope) (env:=X.env) λx hx fH=>I.ok.has x.1 (.inl (eT.free x hx fH))
 rw[exec_Assign_Name_used _ _ _ _ hsw]
 refine wpAny_bind (wpAny_standAt (wpAny_bind ?_))
 show wpAny _ _ (do let _ ←comprehension (.ListComp bd [⟨tg,iter,bg,0⟩] scope pos) scope X.env _ (newList []) false (eval iter X.env) (some (assign (.Name x px) X.env))) _ _ s
 refine wpAny_bind (thn (wpAny_comprehension_free (use:=some (assign (.Name x px) X.env)) (Q:=λ_ s'=>SP X aa D .next s') rfl hs i7 eT.kind eT.loc
  (thn (hi aa s U H _ I h) λxv s₁ h₁=>thn h₁ λgB s₂ h₂=>?_)) λ_ s' hq=>wpAny_pure (wpAny_pure hq))
 refine GG (Q:=λv H1=>Yr j v U H1 D.nx) (RR:=λacc C=>compPost (model X.prog X.w) X.A X.xe (some (assign (.Name x px) X.env)) (λ_ s'=>SP X aa D .next s') acc C) eT hc rfl hG hb h₂ aq aO ?_
 intro DD C ys H3 s' ce q
 obtain⟨mm,eA⟩:=ce.ns
 obtain⟨c0,c1,c2,c3,c4,c5⟩:=ce.fp
 show wpAny _ _ (assign (.Name x px) X.env (.ref DD)) _ _ _
 refine wpAny_assign_Name (DX ce.inv hN hj (.inl hx) (v:=.ref DD) rfl (λs2 I2 chg=>?_) (.inr hx))
 obtain⟨c,hsb,hcc⟩:=chg
 have hCc:C≠c:=by
  rcases hcc with z |z
  ·rw[z];exact c1
  ·exact λe=>c4 x c z e.symm
 refine⟨mm,?_,λh' dO=>?_⟩
 ·obtain⟨o,es,ep,ho,r⟩:=eA
  exact⟨o,es,ep,(hsb.2 C hCc).trans ho,r⟩
 ·exact⟨_,_,I2.turned (t':=s2.toks) (λb o dP e=>(dO.extBut b o dP e)) c0 c1 c3 c4 c5,q⟩
end
section
variable {g:TG}{tt:TT}{Q:V->Hp->Prop}
def L0 (Pv:Nat->List V->Hp->Prop)(h0:Pv 0 [] H)(hl:∀i ys H,i<=xs.length->Pv i ys H->SqL K H a xs/\ys.length<=sizeLine)
  (hs:∀i x ys H,xs[i]?=some x->Pv i ys H->g x (X6 n caps U) H λσ4 H4=>tt σ4 H4 λc H5=>if c=true then te σ4 H5 λv H6=>Pv (i+1) (ys++[v]) H6 else Pv (i+1) ys H5)
  (hd:∀ys H p,Pv xs.length ys H->H p=none->Q (.ref p) (upd H p (.lst ys))):
  Ml n caps g tt te U Q (Itl K a) H:=by
 refine⟨λi m ys H=>m=xs.length-i/\i<=xs.length/\Pv i ys H,⟨xs.length,by simp,Nat.zero_le _,h0⟩,?_⟩
 rintro i m ys H2 ⟨rfl,hi,p⟩
 obtain⟨q,hz⟩:=hl i ys H2 hi p
 refine⟨hz,?_⟩
 by_cases ah:i<xs.length
 ·refine .inr ⟨⟨xs,xs[i],q,by simp[ah]⟩,Pv (i+1),λys' H' p'=>⟨xs.length-(i+1),by(clear p' hz q p hi hd hs hl h0;omega),rfl,ah,p'⟩,λx H' y=>?_⟩
  obtain⟨e,y⟩:=y
  subst e
  exact hs i x ys _ (y xs q) p
 ·have e:i=xs.length:=by lia
  subst e
  exact .inl ⟨⟨xs,q,Nat.le_refl _⟩,λp' dS=>hd ys H2 p' p dS⟩
end
section
def Fx (K:W.Frag):List V->Hp->VK->Prop:=λxs H Q=>∃ p ys,xs=[.ref p]/\(SqL K H p ys∨SqT K H p ys)/\∀l,H l=none->Q (.ref l) (upd H l (.lst ys))
def Kr (K:W.Frag):List V->Hp->VK->Prop:=λxs H Q=>∃ p ys,xs=[.ref p]/\(SqL K H p ys∨SqT K H p ys)/\Q (.int ys.length) H
def ZC (K:W.Frag)(h:X.K=K):Qv X (.type "list") (Fx K):=by subst h;exact Dg
def F9 (K:W.Frag)(h:X.K=K):Qv X (.builtin "len") (Kr K):=by subst h;exact CG
def EC (K:W.Frag)(h:X.K=K):IxR X (Ij K):=by subst h;exact R9
def SE (K:W.Frag)(h:X.K=K):IxR X (CY K):=by subst h;exact W0
def Zo (K:W.Frag)(h:X.K=K):SlR X (Aq K):=by subst h;exact S3
def Bg (K:W.Frag)(h:X.K=K)(hc:X.calm=true)(hh:PGs X es t)
  (hn:(assignEach es X.env).length=n:=by rfl)(ga:(assignEach es X.env).findIdx? (·.1)=none:=by rfl):PG X (.Tuple es k pos) (OG K n t):=by subst h;exact ZM hc hh hn ga
end
structure Fn (P:Program)(w:World)(K:W.Frag)(mg:Str->Option Value)(base:Heap)(k:Nat)(x:Str)(ps:List Str)(sp:Sp):Prop where
 ex:∃f fd,FnOk P w K mg base CX0 k f fd ps sp/\BP K fd ps []/\W.keepIn K (.ref f)=true/\mg x=some (.ref f)
section
variable {sp:Sp}{t:TA}{p:Pos}
def Ws (G:Fn X.prog X.w X.K X.mg X.base k x ps sp)(hr:Room j X.A)(hj:k<=j)(ha:PA X (e::es) t)(hg:Gl X x:=by rfl)(fD:(x==("__debug__":Str))=false:=by decide)
  (he:starEach (e::es) X.env=(false,eval e X.env)::starEach es X.env:=by rfl)(hpl:(backTo pos (starEach es X.env)).any (·.1)=false:=by rfl):
  PE X (.Call (.Name x p) (e::es) [] pos) (Jd sp [] E0 t):=by
 obtain⟨f,fd,F,b,kp,m⟩:=G.ex
 exact Rk F (hr.mono hj) hg m kp b .nil qd ha fD he hpl
end
def Def (K:W.Frag)(mg:Str->Option Value)(x:Str)(st:Stmt)(ps:List Str):Prop:=∃ f fd,Fun K x x st f fd/\BP K fd ps []/\mg x=some (.ref f)
def JW {st:Stmt}{sp:Sp}(D:Def K mg x st ps)(S:FnScope N ps (Xg st))(len:∀vs H Q E,sp vs H Q E->vs.length=ps.length)
  (cU:∀(f:Addr) (aj:Value) (A:Around) (outer:List Env) (s:Shared) (H:Hp) (vs:List V) (Q:VK) (E:XK),Room k (A.deeper (envOfC x (Xg st) s.heap.objs.size f aj))->sp vs H Q E->
   ∃t,PSs (Ih CX0 P w K mg base N x (Xg st) f aj A outer s H E).nox (X4 st) t/\t {nx:=λ_ H'=>Q .non H',rt:=Q} (Kg N vs) H):Fn P w K mg base (k+1) x ps sp:=by
 obtain⟨f,fd,F,b,m⟩:=D
 exact⟨f,fd,F.ok S len (cU f),b,F.kp,m⟩
def Ci {a d:Nat}(h:d<=8)(hu:a+8<c):a+d<c:=by omega
def Xw (h:H p=none)(o:HO):Xp H (upd H p o):=λb u q=>by rw[XH (XR q h)];exact q
def Xp.seqT (e:Xp H H')(h:SqT K H a xs):SqT K H' a xs:=by
 rcases h with(h | ⟨o,h⟩) |h
 ·exact .inl (.inl (e _ _ h))
 ·exact .inl (.inr ⟨o,e _ _ h⟩)
 ·exact .inr h
def hu8 (hr:Room k A):A.units+8<cLine:=Nat.lt_of_le_of_lt (Nat.add_le_add_left (by decide:8<=64) _) hr.units
abbrev Enc (M:Type):=W.Frag->Hp->V->M->Prop
def Xf:Enc Int:=λ_ _ v i=>v= .int i
def rL (r:Enc M):Enc (List M):=λK H v as=>∃ a xs,v= .ref a/\SqL K H a xs/\Paired (r K H) xs as
def rT2 (r:Enc M)(q:Enc L):Enc (M×L):=λK H v p=>∃ a x y,v= .ref a/\SqT K H a [x,y]/\r K H x p.1/\q K H y p.2
def Paired.getL:∀{l:List M}{m:List L}{i:Nat}{a:M},Paired F l m->l[i]?=some a->∃b,m[i]?=some b/\F a b
 |_,_,_,_, .nil,e=>by simp at e
 |_,_,0,_, .cons r _,e=>by simp at e;subst e;exact⟨_,rfl,r⟩
 |_,_,i+1,a, .cons _ t,e=>by
  obtain⟨b,h1,h2⟩:=Paired.getL (i:=i) (a:=a) t (by simpa using e)
  exact⟨b,by simpa using h1,h2⟩
def Paired.getR:∀{l:List M}{m:List L}{i:Nat}{b:L},Paired F l m->m[i]?=some b->∃a,l[i]?=some a/\F a b
 |_,_,_,_, .nil,e=>by simp at e
 |_,_,0,_, .cons r _,e=>by simp at e;subst e;exact⟨_,rfl,r⟩
 |_,_,i+1,b, .cons _ t,e=>by
  obtain⟨a,h1,h2⟩:=Paired.getR (i:=i) (b:=b) t (by simpa using e)
  exact⟨a,by simpa using h1,h2⟩
def Paired.len (h:Paired F l m):l.length=m.length:=Paired.length h
def Paired.app:∀{l l':List M}{m m':List L},Paired F l m->Paired F l' m'->Paired F (l++l') (m++m'):=λp h=>by
 induction p with
 |nil=>exact h
 |cons r _ ih=>exact .cons r ih
def Bi (ns:List Int):∀{K:W.Frag}{H:Hp},Paired (Xf K H) (ns.map V.int) ns:=by
 intro K H
 induction ns with
 |nil=>exact .nil
 |cons n r ih=>exact .cons rfl ih
def QR:∀{xs:List V}{ns:List Int}{K:W.Frag}{H:Hp},Paired (Xf K H) xs ns->xs=ns.map V.int
 |_,_,_,_, .nil=>rfl
 |_,_,_,_, .cons r t=>by
  have r':_=V.int _:=r
  rw[r',QR t];rfl
structure EqOk {M:Type}[DecidableEq M](r:Enc M)(d:Nat):Prop where
 uniq:∀{X:Cx}{aa:List (Addr×Obj)}{U:St}{H:Hp}{s:Shared}{x:V}{a b:M},Inv X aa U H s->r X.K H x a->r X.K H x b->a=b
 eq:∀{X:Cx}{aa:List (Addr×Obj)}{U:St}{H:Hp}{s:Shared}{x y:V}{v u:Value}{a b:M}{A:Around},Inv X aa U H s->XW x v->XW y u->r X.K H x a->r X.K H y b->A.units+d<cLine->SeqAt.EqAt A s v u (decide (a=b))
 rc:∀{X:Cx}{aa:List (Addr×Obj)}{U:St}{H:Hp}{s:Shared}{x y:V}{v u:Value}{a b:M}{A:Around},Inv X aa U H s->XW x v->XW y u->r X.K H x a->r X.K H y b->A.units+d<cLine->SeqAt.RcAt A s v u (decide (a=b))
 ne:∀{X:Cx}{aa:List (Addr×Obj)}{U:St}{H:Hp}{s:Shared}{x y:V}{v u:Value}{a b:M}{A:Around},Inv X aa U H s->XW x v->XW y u->r X.K H x a->r X.K H y b->A.units+d<cLine->SeqAt.RcNeAt A s v u (!decide (a=b))
 keep:∀{K:W.Frag}{H H':Hp}{x:V}{a:M},Xp H H'->r K H x a->r K H' x a
def Zu (A:Around):A.in1.units=A.units+1:=rfl
def ND {a b:Int}:(a==b)=decide (a=b):=by rw[Bool.eq_iff_iff];simp
def eq_int:EqOk Xf 0 where
 uniq:=λ_ h1 h2=>by
  have fq:_=V.int _:=h1
  have fr:_=V.int _:=h2
  rw[fq] at fr;injection fr
 eq:=fun {X aa U H s x y v u a b A} I rx ry h1 h2 _=>by
  have fq:x=V.int a:=h1
  have fr:y=V.int b:=h2
  subst fq fr
  obtain⟨t,rfl⟩:=rx
  obtain⟨t',rfl⟩:=ry
  rw[←ND];exact SeqAt.EqAt.int_int a t b t'
 rc:=fun {X aa U H s x y v u a b A} I rx ry h1 h2 _=>by
  have fq:x=V.int a:=h1
  have fr:y=V.int b:=h2
  subst fq fr
  obtain⟨t,rfl⟩:=rx
  obtain⟨t',rfl⟩:=ry
  rw[←ND];exact SeqAt.RcAt.int_int a t b t'
 ne:=fun {X aa U H s x y v u a b A} I rx ry h1 h2 _=>by
  have fq:x=V.int a:=h1
  have fr:y=V.int b:=h2
  subst fq fr
  obtain⟨t,rfl⟩:=rx
  obtain⟨t',rfl⟩:=ry
  rw[←ND];exact SeqAt.RcNeAt.int_int a t b t'
 keep:=λ_ h=>h
def L3 [DecidableEq M](h:as.length=bs.length):(List.range as.length).all (λj=>decide (as[j]?=bs[j]?))=decide (as=bs):=by
 rw[Bool.eq_iff_iff]
 simp only[List.all_eq_true,List.mem_range,decide_eq_true_eq]
 constructor
 ·intro hh
  apply List.ext_getElem?
  intro i
  by_cases hi:i<as.length
  ·exact hh i hi
  ·rw[List.getElem?_eq_none (by omega),List.getElem?_eq_none (by omega)]
 ·rintro rfl;intros;rfl
def Paired.uniq (hu:∀a b c,F a b->F a c->b=c):∀{l:List M}{m m':List L},Paired F l m->Paired F l m'->m=m':=fun {l m m'} p=>by
 induction p generalizing m' with
 |nil=>intro q;cases q;rfl
 |cons r _ ih=>intro q;cases q with |cons r' t'=>rw[hu _ _ _ r r',ih t']
def Paired.imp2 (h:∀a b,F a b->G a b):∀{l:List M}{m:List L},Paired F l m->Paired G l m:=λp=>by
 induction p with
 |nil=>exact .nil
 |cons r _ ih=>exact .cons (h _ _ r) ih
section
variable [DecidableEq M]{r:Enc M}{d:Nat}
def GA (E:EqOk r d)(I:Inv X aa U H s)(hu:A.units+(d+1)<cLine)
  (r1:XX xs its)(r2:XX ys aC)(p1:Paired (r X.K H) xs as)(p2:Paired (r X.K H) ys bs):
  ∀j (h1:j<its.toArray.size) (h2:j<aC.toArray.size),SeqAt.EqAt A.in1 s its.toArray[j] aC.toArray[j] (decide (as[j]?=bs[j]?)):=by
 intro j h1 h2
 have fq:j<its.length:=by simpa using h1
 have fr:j<aC.length:=by simpa using h2
 obtain⟨x,ex,rx⟩:=Paired.getR (i:=j) (b:=its[j]) r1 (by simp[fq])
 obtain⟨y,ey,ry⟩:=Paired.getR (i:=j) (b:=aC[j]) r2 (by simp[fr])
 obtain⟨a,ea,ra⟩:=Paired.getL p1 ex
 obtain⟨b,eb,rb⟩:=Paired.getL p2 ey
 have:=E.eq (A:=A.in1) I rx ry ra rb (by rw[Zu];omega)
 rw[ea,eb]
 simpa using this
def Lq (E:EqOk r d):EqOk (rL r) (d+1):=by
 have un:∀{X:Cx}{aa:List (Addr×Obj)}{U:St}{H:Hp}{s:Shared}{x:V}{a b:List M},Inv X aa U H s->rL r X.K H x a->rL r X.K H x b->a=b:=by
  intro X aa U H s x as bs I h1 h2
  obtain⟨a,xs,rfl,q1,p1⟩:=h1
  obtain⟨b,ys,e,q2,p2⟩:=h2
  cases e
  cases I.list_inj q1 q2
  exact Paired.uniq (F:=r X.K H) (λ_ _ _ z z'=>E.uniq I z z') p1 p2
 have rc:∀{X:Cx}{aa:List (Addr×Obj)}{U:St}{H:Hp}{s:Shared}{x y:V}{v u:Value}{a b:List M}{A:Around},Inv X aa U H s->XW x v->XW y u->rL r X.K H x a->rL r X.K H y b->A.units+(d+1)<cLine->SeqAt.RcAt A s v u (decide (a=b)):=by
  intro X aa U H s x y v u as bs A I rx ry h1 h2 hu
  obtain⟨a,xs,rfl,q1,p1⟩:=h1
  obtain⟨b,ys,rfl,q2,p2⟩:=h2
  cases rx;cases ry
  obtain⟨its,r1,l1,_⟩:=I.list q1
  obtain⟨aC,r2,l2,_⟩:=I.list q2
  have n1:=r1.length
  have n2:=r2.length
  have m1:=Paired.len p1
  have m2:=Paired.len p2
  by_cases hl:as.length=bs.length
  ·have:=SeqAt.RcAt.lists (A:=A) (e:=λj=>decide (as[j]?=bs[j]?)) l1.isList l2.isList (by simp only[List.size_toArray];omega) (by omega) (GA E I hu r1 r2 p1 p2)
   rw[show its.toArray.size=as.length by simp only[List.size_toArray];omega,L3 hl] at this
   exact this
  ·rw[decide_eq_false (λe=>hl (congrArg List.length e))]
   exact SeqAt.RcAt.lists_lengths l1.isList l2.isList (by simp only[List.size_toArray,bne_iff_ne];omega) (by omega)
 refine⟨un,?_,rc,?_,?_⟩
 ·intro X aa U H s x y v u as bs A I rx ry h1 h2 hu
  obtain⟨a,xs,rfl,q1,p1⟩:=id h1
  obtain⟨b,ys,rfl,q2,p2⟩:=id h2
  have R:=rc (A:=A) I rx ry h1 h2 hu
  cases rx;cases ry
  by_cases e:a=b
  ·subst e
   rw[decide_eq_true (un I h1 h2)]
   exact SeqAt.EqAt.same _
  ·exact SeqAt.EqAt.of_refs e R
 ·intro X aa U H s x y v u as bs A I rx ry h1 h2 hu
  obtain⟨a,xs,rfl,q1,p1⟩:=h1
  obtain⟨b,ys,rfl,q2,p2⟩:=h2
  cases rx;cases ry
  obtain⟨its,r1,l1,_⟩:=I.list q1
  obtain⟨aC,r2,l2,_⟩:=I.list q2
  have n1:=r1.length
  have n2:=r2.length
  have m1:=Paired.len p1
  have m2:=Paired.len p2
  by_cases hl:as.length=bs.length
  ·have:=SeqAt.RcNeAt.lists (A:=A) (e:=λj=>decide (as[j]?=bs[j]?)) l1.isList l2.isList (by simp only[List.size_toArray];omega) (by omega) (GA E I hu r1 r2 p1 p2)
   rw[show its.toArray.size=as.length by simp only[List.size_toArray];omega,L3 hl] at this
   exact this
  ·rw[decide_eq_false (λe=>hl (congrArg List.length e))]
   exact SeqAt.RcNeAt.lists_lengths l1.isList l2.isList (by simp only[List.size_toArray,bne_iff_ne];omega) (by omega)
 ·intro K H H' x as e h
  obtain⟨a,xs,rfl,q1,p1⟩:=h
  exact⟨a,xs,rfl,e.seq q1,Paired.imp2 (λ_ _ z=>E.keep e z) p1⟩
end
section
variable [DecidableEq M][DecidableEq L]{r:Enc M}{q:Enc L}{d:Nat}
def EU {a1 a2:M}{b1 b2:L}:(decide (a1=a2)&&decide (b1=b2))=decide ((a1,b1)=(a2,b2)):=by
 rw[Bool.eq_iff_iff];simp
def Sq (E:EqOk r d)(F:EqOk q d):EqOk (rT2 r q) (d+1):=by
 have un:∀{X:Cx}{aa:List (Addr×Obj)}{U:St}{H:Hp}{s:Shared}{x:V}{a b:M×L},Inv X aa U H s->rT2 r q X.K H x a->rT2 r q X.K H x b->a=b:=by
  rintro X aa U H s x ⟨a1,a2⟩ ⟨b1,b2⟩ I h1 h2
  obtain⟨a,x1,x2,rfl,q1,p1,p2⟩:=h1
  obtain⟨b,y1,y2,e,q2,p3,p4⟩:=h2
  cases e
  cases I.tuple_inj q1 q2
  rw[show a1=b1 from E.uniq I p1 p3,show a2=b2 from F.uniq I p2 p4]
 have its:∀{X:Cx}{aa:List (Addr×Obj)}{U:St}{H:Hp}{s:Shared}{x1 x2 y1 y2:V}{u1 u2 w1 w2:Value}{a b:M×L}{A:Around},Inv X aa U H s->XW x1 u1->XW x2 u2->XW y1 w1->XW y2 w2->
   r X.K H x1 a.1->q X.K H x2 a.2->r X.K H y1 b.1->q X.K H y2 b.2->A.units+(d+1)<cLine->
   ∀j (h1:j< [u1,u2].toArray.size) (h2:j< [w1,w2].toArray.size),SeqAt.EqAt A.in1 s [u1,u2].toArray[j] [w1,w2].toArray[j] ((λj=>if j=0 then decide (a.1=b.1) else decide (a.2=b.2)) j):=by
  intro X aa U H s x1 x2 y1 y2 u1 u2 w1 w2 a b A I e1 e2 e3 e4 p1 p2 p3 p4 hu j h1 h2
  have hj:j=0∨j=1:=by
   have fq:j<2:=h1
   omega
  rcases hj with rfl |rfl
  ·exact E.eq (A:=A.in1) I e1 e3 p1 p3 (by rw[Zu];omega)
  ·exact F.eq (A:=A.in1) I e2 e4 p2 p4 (by rw[Zu];omega)
 have rc:∀{X:Cx}{aa:List (Addr×Obj)}{U:St}{H:Hp}{s:Shared}{x y:V}{v u:Value}{a b:M×L}{A:Around},Inv X aa U H s->XW x v->XW y u->rT2 r q X.K H x a->rT2 r q X.K H y b->A.units+(d+1)<cLine->SeqAt.RcAt A s v u (decide (a=b)):=by
  rintro X aa U H s x y v u ⟨a1,a2⟩ ⟨b1,b2⟩ A I rx ry h1 h2 hu
  obtain⟨a,x1,x2,rfl,q1,p1,p2⟩:=h1
  obtain⟨b,y1,y2,rfl,q2,p3,p4⟩:=h2
  cases rx;cases ry
  obtain⟨i1,r1,l1,_⟩:=I.tuple q1
  obtain⟨i2,r2,l2,_⟩:=I.tuple q2
  obtain⟨u1,u2,rfl,e1,e2⟩:=XX.two r1
  obtain⟨w1,w2,rfl,e3,e4⟩:=XX.two r2
  have:=SeqAt.RcAt.tuples (A:=A) l1 l2 (by omega) (its (a:=(a1,a2)) (b:=(b1,b2)) I e1 e2 e3 e4 p1 p2 p3 p4 hu)
  rw[←EU]
  simpa[List.range_succ] using this
 refine⟨un,?_,rc,?_,?_⟩
 ·intro X aa U H s x y v u as bs A I rx ry h1 h2 hu
  obtain⟨a,x1,x2,rfl,q1,p1,p2⟩:=id h1
  obtain⟨b,y1,y2,rfl,q2,p3,p4⟩:=id h2
  have R:=rc (A:=A) I rx ry h1 h2 hu
  cases rx;cases ry
  by_cases e:a=b
  ·subst e
   rw[decide_eq_true (un I h1 h2)]
   exact SeqAt.EqAt.same _
  ·exact SeqAt.EqAt.of_refs e R
 ·rintro X aa U H s x y v u ⟨a1,a2⟩ ⟨b1,b2⟩ A I rx ry h1 h2 hu
  obtain⟨a,x1,x2,rfl,q1,p1,p2⟩:=h1
  obtain⟨b,y1,y2,rfl,q2,p3,p4⟩:=h2
  cases rx;cases ry
  obtain⟨i1,r1,l1,_⟩:=I.tuple q1
  obtain⟨i2,r2,l2,_⟩:=I.tuple q2
  obtain⟨u1,u2,rfl,e1,e2⟩:=XX.two r1
  obtain⟨w1,w2,rfl,e3,e4⟩:=XX.two r2
  have:=SeqAt.RcNeAt.tuples (A:=A) l1 l2 (by omega) (its (a:=(a1,a2)) (b:=(b1,b2)) I e1 e2 e3 e4 p1 p2 p3 p4 hu)
  rw[←EU]
  simpa[List.range_succ] using this
 ·intro K H H' x as e h
  obtain⟨a,x1,x2,rfl,q1,p1,p2⟩:=h
  exact⟨a,x1,x2,rfl,e.seqT q1,E.keep e p1,F.keep e p2⟩
end
section
variable [DecidableEq M]{r:Enc M}{d:Nat}
def Av (K:W.Frag)(r:Enc M):R2:=λx y H Q=>∃ a b,r K H x a/\r K H y b/\Q (.bl (decide (a=b))) H
def As (K:W.Frag)(r:Enc M):R2:=λx y H Q=>∃ a b,r K H x a/\r K H y b/\Q (.bl (!decide (a=b))) H
def Wj (E:EqOk r d)(hu:X.A.units+d<cLine):OpR X (compareOp .Eq) (Av X.K r):=by
 intro aa s U H x y v u Q I rx ry h
 obtain⟨a,b,h1,h2,q⟩:=h
 exact E.rc (A:=X.A) I rx ry h1 h2 hu _ _ _ _ ⟨.bl _,H,I,rfl,q⟩
def Wh (E:EqOk r d)(hu:X.A.units+d<cLine):OpR X (compareOp .NotEq) (As X.K r):=by
 intro aa s U H x y v u Q I rx ry h
 obtain⟨a,b,h1,h2,q⟩:=h
 exact E.ne (A:=X.A) I rx ry h1 h2 hu _ _ _ _ ⟨.bl _,H,I,rfl,q⟩
def Vw:Qv X (.builtin "isinstance") (λxs H Q=>∃ x n t b,xs=[x, .ty n]/\TyOf X.K H x t/\W.kitOne X.K t (.type n)=some b/\Q (.bl b) H):=by
 intro aa s U H xs us Q I r h
 obtain⟨x,n,t,b,rfl,ty,e,q⟩:=h
 obtain⟨u,v,rfl,ru,rv⟩:=XX.two r
 cases(show v=Value.type n from rv)
 exact MV I ru ty e λtk=>⟨.bl b,H,I.tok tk,rfl,q⟩
def G4:OpR X (binaryOp .FloorDiv) (rI (λ_ j=>0<j/\j.natAbs.log2<9000) λi j=>.int (i/j)):=opI λi j _ _ _ _ _ hc q=>by
 refine floordiv_int (by omega) ?_ (.inl (PyProof.noPylong_of_log2 hc.2))
 rw[Int.fdiv_eq_ediv_of_nonneg i (by omega)]
 exact q
end
end L2
namespace PySem
open Sem (wp)
section
end
end PySem
namespace L2
open PySem PySem.Spec PyProof.Rows
def GL:∀{l:List M}{m:List L}{i:Nat}{b:L},Paired F l m->m[i]?=some b->∃a,l[i]?=some a/\F a b
 |_,_,_,_, .nil,e=>by simp at e
 |_,_,0,_, .cons r _,e=>by simp at e;subst e;exact⟨_,rfl,r⟩
 |_,_,i+1,b, .cons _ t,e=>by
  obtain⟨a,h1,h2⟩:=GL (i:=i) (b:=b) t (by simpa using e)
  exact⟨a,by simpa using h1,h2⟩
section
def qY (K:W.Frag)(te ts:TE):TE:=λU H Q=>te U H λx H1=>ts U H1 λy H2=>y= .int (-1)/\∃a xs,x= .ref a/\SqL K H2 a xs/\∀p,H2 p=none->Q (.ref p) (upd H2 p (.lst xs.reverse))
def Cm {st:Expr}{ts:TE}{p2:Pos}(K:W.Frag)(hK:X.K=K)(he:PE X e te)(ga:PE X st ts):PE X (.Subscript e (.Slice none none (some st) p2) pos) (qY K te ts):=by
 intro aa s U H Q I h
 subst hK
 refine Subscript_ (thn (he aa s U H _ I h) λv s1 r9=>?_)
 obtain⟨x,H1,I1,r1,q1⟩:=r9
 refine wpAny_Slice ?_
 rw[evalPart_none]
 refine wpAny_pure ?_
 refine wpAny_pure ?_
 rw[evalPart_some]
 refine thn (ga aa s1 U H1 _ I1 q1) λvk s3 r9=>?_
 obtain⟨y,H3,I3,r3,ey,a,xs,ex,hx,q⟩:=r9
 subst ey ex
 cases r1
 obtain⟨t,rfl⟩:=r3
 have I4:Inv X aa U H3 {s3 with heap:=s3.heap.push {cls:=.type "slice",data:=.fields #[.none, .none, .int (-1) t]}}:=I3.kept (t':=s3.toks) λb ob q=>Heap.get?_push_of_some _ q
 obtain⟨its,r,ht,hz⟩:=I4.list hx
 have ae:=r.length
 have hg:wpAny (model X.prog X.w) X.A (getItem (.ref a) (.ref s3.heap.objs.size)) (EP X aa U Q) X.xe {s3 with heap:=s3.heap.push {cls:=.type "slice",data:=.fields #[.none, .none, .int (-1) t]}}:=by
  refine wpAny_getItem_list_slice ht.isList (Heap.IsSliceOf.new ..) .none .none (.int (-1) t) (by decide) ?_ (by rw[List.size_toArray];omega)
  rw[PySem.W.krv_pick]
  refine⟨.ref _,_,I4.laid (t':=s3.toks) (o:=.lst xs.reverse) (λb ob q=>Heap.get?_push_of_some _ q) (Nat.le_refl _) ?_,rfl,q _ (I4.hok.fresh (Nat.le_refl _))⟩
  exact⟨by rw[List.length_reverse];exact hz,its.reverse,0,r.reverse,Heap.get?_push_size _ rfl⟩
 show wpAny (model X.prog X.w) X.A (subscriptTail e (.Slice none none (some st) p2) (.ref a) (.ref s3.heap.objs.size)) (EP X aa U Q) X.xe _
 exact tail_any (ops:=[.ref a, .ref s3.heap.objs.size]) ht.isList.typeIs slot_list_getitem.lookup hg (by with_unfolding_all rfl)
def ja (K:W.Frag):List V->Hp->VK->Prop:=λxs H Q=>∃ (a:Addr) (ns:List Int),xs=[.ref a]/\SqL K H a (ns.map V.int)/\Q (.int ns.sum) H
def Mf (hc:X.calm=true):Qv X (.builtin "sum") (ja X.K):=by
 intro aa s U H xs us Q I r h
 obtain⟨a,ns,rfl,hq,q⟩:=h
 obtain⟨u,rfl,ru⟩:=Uh r
 cases ru
 obtain⟨its,rv,pl,hz⟩:=I.list hq
 have hi:IntsAre its ns:=HB rv
 have ae:=hi.length
 have ah:a<s.heap.objs.size:=by obtain⟨o,n,ho,_⟩:=pl;exact Heap.lt_size ho
 refine call_sum_walkG ?_
 refine wpAny_pyIter_list pl.isList ?_
 have W:=Walks.list (prog:=X.prog) (w:=X.w) (A:=X.A.in1) (I.ok.hd hc) s.heap.objs.size a (Nat.ne_of_lt ah) its.toArray
 refine⟨s.heap.objs.size,_,_,_,_,_,λi=>ns.getD i 0,rfl,W,⟨⟨_,Heap.get?_push_size _ rfl,rfl,rfl⟩,pl.isList.at λo e=>Heap.get?_push_of_some _ e⟩,λb hb=>?_,λi v hv=>?_,λh' tk t' hk=>?_⟩
 ·rcases List.mem_cons.mp hb with e |hb
  ·rw[e,Heap.size_push];exact Nat.lt_succ_self _
  ·rw[List.mem_singleton.mp hb,Heap.size_push];exact Nat.lt_succ_of_lt ah
 ·have im:its[i]?=some v:=by simpa using hv
  have hil:i<its.length:=(List.getElem?_eq_some_iff.mp im).1
  obtain⟨x,ex,rx⟩:=GL rv im
  rw[List.getElem?_map] at ex
  cases e:ns[i]? with
  |none=>rw[e] at ex;cases ex
  |some z=>
   rw[e] at ex
   have ik:V.int z=x:=Option.some.inj ex
   subst ik
   obtain⟨t,rfl⟩:=rx
   exact⟨t,by simp[List.getD,e]⟩
 ·have I2:Inv X aa U H {s with heap:=h',toks:=tk}:=I.kept (t':=tk) λb o e=>hk b o (λhm=>by
   rw[List.mem_singleton.mp hm] at e
   exact absurd (Heap.lt_size e) (Nat.lt_irrefl _)) (Heap.get?_push_of_some _ e)
  refine⟨.int ns.sum,H,I2,⟨t',?_⟩,q⟩
  rw[List.size_toArray,ae,preSum_getD,List.take_length]
end
section
def Inv.turnLay {t':Nat}{ch:List Addr}{T:Addr}{u:HO}(I:Inv X aa U H s)(k:∀b o,b∉ch->s.heap.get? b=some o->h'.get? b=some o)(hf:∀b∈ch,CZ X aa H b)
  (hp:s.heap.objs.size<=T)(new:YT X.prog X.w (upd H T u) h' T u):Inv X aa U (upd H T u) {s with heap:=h',toks:=t'}:=by
 have hn:H T=none:=I.hok.fresh hp
 have f9:∀b o,H b=some o->b∉ch:=λb o e z=>by rw[(hf b z).1] at e;cases e
 refine I.step (g':=s.gens) (d':=s.drawn) (ch:=ch) (λb hb=>?_) (λb o _ _ hc e _=>k b o hc e) (λb o _ _ hc e _=>⟨o.slots,k b o hc e⟩)
  (λb o _ e n=>by rw[XH (Nat.ne_of_lt (Nat.lt_of_lt_of_le (Heap.lt_size e) hp))];exact n)
  (λb o hc e=>⟨o,k b o hc e⟩) (λb xs e=>by rw[XH (XR e hn)];exact e) (λb o xs e=>by rw[XH (XR e hn)];exact e) (λb ps e=>⟨#[],by rw[XH (XR e hn),e];simp⟩) (λm hm=>?_) (λb v e=>?_) I.bare
 ·obtain⟨f0,f1,f2,f3,f4,f5⟩:=hf b hb
  exact⟨f3,f1,f4,f5⟩
 ·obtain⟨o,es,ep,ho,r⟩:=hm
  exact⟨o,es,ep,k _ o (λz=>(hf _ z).2.1 rfl) ho,r⟩
 ·by_cases hb:b=T
  ·subst hb;rw[Ym] at e;cases e;exact new
  ·rw[XH hb] at e
   refine(I.hok b v e).stay (λc o hc q=>k c o ?_ q) (λc q=>by rw[XH (XR q hn)];exact q) λc xs q=>by rw[XH (XR q hn)];exact q
   rcases hc with z |z
   ·rw[z];exact f9 b v e
   ·exact f9 c _ z
end
def Ite (K:W.Frag)(a:Addr):It:=
 ⟨λi H=>∃ xs x,SqL K H a xs/\xs[i]?=some x,λi H y H'=>∃ p x,y= .ref p/\H p=none/\H'=upd H p (.tup [.int (i:Int),x])/\∀xs,SqL K H a xs->xs[i]?=some x,λi H=>∃ xs,SqL K H a xs/\xs.length<=i⟩
def L7 (a e it:Addr)(h1:e≠it)(h2:a≠e)(h3:a≠it):
  Turn P w K (.Tuple elts k pos) (Ite K a) [e,it] e (λi h=>(∃bK,IsEnum h e it (i:Int) bK)/\h.IsListIter it a i) where
 mem:=by simp
 obj:=λi h st b hb=>by
  obtain⟨⟨bK,eo⟩,o,io,c,d⟩:=st
  rcases List.mem_cons.mp hb with z |z
  ·subst z
   exact⟨_,eo,λv z=>by cases z⟩
  ·have z:=List.mem_singleton.mp z
   subst z
   exact⟨o,io,λv z=>by rw[d] at z;cases z⟩
 keep:=λi h h' st k=>⟨let ⟨bK,eo⟩:=st.1;⟨bK,k e (by simp) _ eo⟩,st.2.at λo q=>k it (by simp) o q⟩
 item:=by
  intro X hP hw hK hc i aa s U H E I hf st hg
  subst hP hw hK
  obtain⟨xs,x,hq,hx⟩:=hg
  obtain⟨its,rv,p,hz⟩:=I.list hq
  obtain⟨u,hu,ru⟩:=rv.get hx
  obtain⟨⟨bK,eo⟩,io⟩:=id st
  have eB:its.toArray[i]?=some u:=by simpa using hu
  have W:=WalksT.enumerate (prog:=X.prog) (w:=X.w) (A:=X.A) (I.ok.hd hc) e it a h1 h2 h3 its.toArray
  refine wpAny_pyNext_enum_item eo io p.isList eB h1 λh' eo' io' tup sz kk=>?_
  have hT:∀b o,s.heap.get? b=some o->s.heap.objs.size≠b:=λb o q z=>absurd (Heap.lt_size q) (by rw[←z];exact Nat.lt_irrefl _)
  have hTe:=hT e _ eo
  have hTi:s.heap.objs.size≠it:=by obtain⟨o,q,_⟩:=io;exact hT it o q
  have ha':h'.IsList a its.toArray:=p.isList.at λo q=>kk a o h2 h3 q
  refine⟨_,rfl,W.go elts k pos i s.heap.objs.size _ _ _ ⟨⟨_,eo'⟩,io',ha',hTe,hTi⟩ λgh fk kk'=>?_⟩
  obtain⟨iW,io2,_⟩:=fk
  have tup2:=kk' _ _ (by simp[hTe,hTi]) tup
  have k2:∀b o,b∉ [e,it]->s.heap.get? b=some o->gh.get? b=some o:=λb o q1 q=>kk' b o q1 (kk b o (λz=>q1 (by simp[z])) (λz=>q1 (by simp[z])) q)
  refine⟨.ref s.heap.objs.size,upd H s.heap.objs.size (.tup [.int (i:Int),x]),I.turnLay (h':=gh) (t':=s.toks+1) k2 hf (Nat.le_refl _) ⟨by show 2<=sizeLine;decide,[.int (i:Int) s.toks,u], .cons ⟨_,rfl⟩ (.cons ru .nil),⟨_,tup2,⟨rfl,rfl⟩,_,rfl⟩⟩,rfl,
   ⟨_,x,rfl,I.hok.fresh (Nat.le_refl _),rfl,λys hy=>by rw[I.list_inj hy hq];exact hx⟩,⟨by simpa using iW,io2⟩,λb hb=>?_⟩
  rcases List.mem_cons.mp hb with z |z
  ·rw[z,XH hTe.symm];exact(hf e (by simp)).1
  ·rw[List.mem_singleton.mp z,XH hTi.symm];exact(hf it (by simp)).1
 done:=by
  intro X hP hw hK hc i aa s U H E I hf st hg
  subst hP hw hK
  obtain⟨xs,hq,hx⟩:=hg
  obtain⟨its,rv,p,hz⟩:=I.list hq
  obtain⟨⟨bK,eo⟩,io⟩:=id st
  obtain⟨f0,f1,f2,f3,f4,f5⟩:=hf it (by simp)
  have hl:=rv.length
  exact wpAny_pyNext_enum_end (I.ok.hd hc) eo io p.isList (by simp;omega) λh' eb=>⟨rfl,I.turned (t':=s.toks) (λb o hb q=>eb b o hb q) f0 f1 f3 f4 f5⟩
 self:=by
  intro A i s Q E st h
  obtain⟨⟨bK,eo⟩,io⟩:=st
  exact wpAny_pyIter_enum eo h
section
variable {gI:Pos}
def WO (K:W.Frag)(tl:TE):TI:=λU H R=>tl U H λx H1=>∃ a,x= .ref a/\(∃xs,SqL K H1 a xs)/\R (Ite K a) H1
def KC {p:Pos}(hg:Gl X "enumerate")(hm:X.mg "enumerate" =none)(hl:PE X l tl)(hs:starEach [l] X.env=[(false,eval l X.env)]:=by rfl):
  PI X (.Tuple elts k gI) (.Call (.Name "enumerate" p) [l] [] pos) (WO X.K tl):=by
 intro aa s U H R I h
 refine wpAny_Call_Name_kw (Ju I hg hm boot_enumerate ?_)
 refine callWith_type1 ?_ hs rfl
 rw[hs]
 show wpAny _ _ (spliced ((false,eval l X.env)::backTo pos [])) _ _ s
 refine Calls.spliced_cons (thn (hl aa s U H _ I h) λv s1 ⟨x,H1,I1,r1,a,ex,⟨xs,hq⟩,q⟩=>?_)
 subst ex
 cases r1
 obtain⟨its,rv,pl,hz⟩:=I1.list hq
 refine Calls.spliced_nil ?_
 have ah:a<s1.heap.objs.size:=by obtain⟨o,n,ho,_⟩:=pl;exact Heap.lt_size ho
 refine call_enumerate_list pl.isList λh' en io sz kk=>?_
 refine wpAny_pyIter_enum en ?_
 refine⟨_,[s1.heap.objs.size+1,s1.heap.objs.size],_,_,H1,rfl,I1.kept (t':=s1.toks) kk,L7 a _ _ (Nat.ne_of_gt (Nat.lt_succ_self _)) (Nat.ne_of_lt (Nat.lt_succ_of_lt ah)) (Nat.ne_of_lt ah),⟨⟨_,en⟩,io⟩,λb hb=>?_,q⟩
 have dP:s1.heap.objs.size<=b:=by
  rcases List.mem_cons.mp hb with z |z
  ·rw[z];exact Nat.le_succ _
  ·rw[List.mem_singleton.mp z];exact Nat.le_refl _
 exact I1.fpOk dP (I1.hok.fresh dP)
end
def L9 (K:W.Frag):V->List V->Hp->VK->Prop:=λx vs H Q=>∃ l xs y,∃j:Nat,x= .ref l/\vs=[y]/\SqL K H l xs/\Vy y=true/\xs.all Vy=true/\(∃z,xs[j]?=some z/\eqV z y=true)/\(∀(m:Nat) z,m<j->xs[m]?=some z->eqV z y=false)/\Q (.int (j:Int)) H
section
theorem NF:MtR X "list.index" (L9 X.K):=by
 intro aa s U H x vs v us Q I rx rv h
 obtain⟨l,xs,y,j,rfl,rfl,hq,fy,fs,⟨z,hz,ez⟩,hm,q⟩:=h
 cases rx
 obtain⟨u,rfl,ry⟩:=XX.one rv
 obtain⟨its,r,pl,hle⟩:=I.list hq
 have hl:=r.length
 have hjl:=(List.getElem?_eq_some_iff.mp hz).1
 have ge:∀(m:Nat) (w:V),xs[m]?=some w->∀hm:m<its.toArray.size,eqU y its.toArray[m]=eqV w y:=λm w hw hm=>by
  obtain⟨u',eB,ru'⟩:=r.get hw
  have e:its.toArray[m]=u':=by
   have:=(List.getElem?_eq_some_iff.mp eB).2
   simpa using this
  rw[e]
  exact Hg ru' (List.all_eq_true.mp fs w (List.mem_of_getElem? hw))
 obtain⟨o,n,ho,hc,hd,hs⟩:=id pl
 obtain⟨cls,dict,data,slots⟩:=o
 cases hc;cases hd;cases hs
 refine call_meets F.slot_list_index ⟨_,ho,rfl⟩ F.entry_list_index (F.args_list_index_2 _ _) (SeqAt.list_indexAt l its.toArray n none slots u (eqU y) j (by rw[List.size_toArray];omega) ?_ ?_ ?_) ⟨ho,λw hw=>QM ry fy r fs w (by simpa using hw),?_⟩
 ·have:sizeLine<2^63-1:=by decide
  omega
 ·rw[ge j z hz];exact ez
 ·intro m hm' ah
  rw[ge m xs[m] (List.getElem?_eq_getElem (by omega))]
  exact hm m _ ah (List.getElem?_eq_getElem (by omega))
 ·exact⟨.int (j:Int),H,I.tok _,⟨_,rfl⟩,q⟩
end
section
variable [DecidableEq M]{r:Enc M}{d:Nat}
end
section
variable {o f:Expr}{ty tx:TE}{aB am:Pos}
end
def Za:∀(names:List (Str×NameKind)) (n:Nat) (acc:List (Str×Addr)) {x:Str},(x,NameKind.cell)∉names->(cellsFrom n names acc).lookup x=acc.lookup x
 | [],_,_,_,_=>rfl
 | (y,k)::r,n,acc,x,h=>by
  have hr:(x,NameKind.cell)∉r:=λz=>h (List.mem_cons_of_mem _ z)
  unfold cellsFrom
  split
  ·rename_i hk
   have ci:k=NameKind.cell:=by simpa using hk
   rw[Za r _ _ hr,List.lookup_cons]
   have:(x==y)=false:=beq_eq_false_iff_ne.mpr λe=>h (by rw[e,ci];exact List.mem_cons_self)
   rw[this]
  ·exact Za r _ _ hr
def Q2:∀(names:List (Str×NameKind)) (n:Nat) (acc:List (Str×Addr)) {x:Str}{c:Addr},(x,NameKind.cell)∈names->(cellsFrom n names acc).lookup x=some c->n<=c
 | [],_,_,_,_,h,_=>nomatch h
 | (y,k)::r,n,acc,x,c,h,e=>by
  unfold cellsFrom at e
  split at e
  ·by_cases hr:(x,NameKind.cell)∈r
   ·exact Nat.le_of_succ_le (Q2 r _ _ hr e)
   ·rw[Za r _ _ hr,List.lookup_cons] at e
    rcases List.mem_cons.mp h with h |h
    ·have hx:x=y:=congrArg Prod.fst h
     rw[hx,beq_self_eq_true] at e
     exact Nat.le_of_eq (Option.some.inj e)
    ·exact absurd h hr
  ·rename_i hk
   rcases List.mem_cons.mp h with h |h
   ·exact absurd (by simpa using (congrArg Prod.snd h).symm) hk
   ·exact Q2 r _ _ h e
def Q3:∀(names:List (Str×NameKind)) (n:Nat) (acc:List (Str×Addr)) {x:Str},((x,NameKind.cell)∈names∨∃c,acc.lookup x=some c)->∃c,(cellsFrom n names acc).lookup x=some c
 | [],_,_,_,h=>h.elim (λz=>nomatch z) id
 | (y,k)::r,n,acc,x,h=>by
  unfold cellsFrom
  split
  ·refine Q3 r _ _ ?_
   by_cases hx:x=y
   ·subst hx;exact .inr ⟨n,by rw[List.lookup_cons];simp⟩
   ·rcases h with h | ⟨c,h⟩
    ·rcases List.mem_cons.mp h with h |h
     ·exact absurd (congrArg Prod.fst h) hx
     ·exact .inl h
    ·exact .inr ⟨c,by rw[List.lookup_cons,beq_eq_false_iff_ne.mpr hx];exact h⟩
  ·rename_i hk
   refine Q3 r _ _ ?_
   rcases h with h |h
   ·rcases List.mem_cons.mp h with h |h
    ·exact absurd (by simpa using (congrArg Prod.snd h).symm) hk
    ·exact .inl h
   ·exact .inr h
def QV:∀(names:List (Str×NameKind)) (n:Nat) (acc:List (Str×Addr)),(∀x y c,acc.lookup x=some c->acc.lookup y=some c->x=y)->(∀x c,acc.lookup x=some c->c<n)->
  ∀x y c,(cellsFrom n names acc).lookup x=some c->(cellsFrom n names acc).lookup y=some c->x=y
 | [],_,_,h,_=>h
 | (z,k)::r,n,acc,h,hl=>by
  unfold cellsFrom
  split
  ·refine QV r (n+1) _ (λx y c h1 h2=>?_) λx c h1=>?_
   ·rw[List.lookup_cons] at h1 h2
    cases hx:x==z<;> cases hy:y==z<;> rw[hx] at h1<;> rw[hy] at h2<;> simp only at h1 h2
    ·exact h x y c h1 h2
    ·cases h2;exact absurd (hl x n h1) (Nat.lt_irrefl _)
    ·cases h1;exact absurd (hl y n h2) (Nat.lt_irrefl _)
    ·rw[beq_iff_eq.mp hx,beq_iff_eq.mp hy]
   ·rw[List.lookup_cons] at h1
    cases hx:x==z<;> rw[hx] at h1<;> simp only at h1
    ·exact Nat.lt_succ_of_lt (hl x c h1)
    ·cases h1;exact Nat.lt_succ_self _
  ·exact QV r n acc h hl
def Qu:∀(names:List (Str×NameKind)) (h:Heap) (acc:List (Str×Addr)) {x:Str}{c:Addr},(cellsFrom h.objs.size names acc).lookup x=some c->acc.lookup x=some c∨((pushCells h names).IsCell c none/\h.objs.size<=c)
 | [],_,_,_,_,e=>.inl e
 | (z,k)::r,h,acc,x,c,e=>by
  unfold cellsFrom at e
  unfold pushCells
  split at e
  ·rename_i hk
   rw[if_pos hk]
   have e':(cellsFrom (h.push {cls:=.type "cell",data:=.cell none}).objs.size r ((z,h.objs.size)::acc)).lookup x=some c:=by rw[Heap.size_push];exact e
   rcases Qu r _ _ e' with q | ⟨q1,q2⟩
   ·rw[List.lookup_cons] at q
    cases hx:x==z<;> rw[hx] at q<;> simp only at q
    ·exact .inl q
    ·cases q
     exact .inr ⟨⟨_,pushCells_keeps _ _ _ _ (Heap.get?_push_size _ rfl),rfl⟩,Nat.le_refl _⟩
   ·exact .inr ⟨q1,by rw[Heap.size_push] at q2;omega⟩
  ·rename_i hk
   rw[if_neg hk]
   exact Qu r h acc e
def Gz:∀{l:List (Str×NameKind)}{x:Str}{j k:NameKind},(l.map (·.1)).Nodup->(x,j)∈l->(x,k)∈l->j≠k->False
 | [],_,_,_,_,h,_,_=>nomatch h
 | (y,i)::r,x,j,k,hn,h1,h2,ne=>by
  rw[List.map_cons,List.nodup_cons] at hn
  rcases List.mem_cons.mp h1 with h1 |h1<;> rcases List.mem_cons.mp h2 with h2 |h2
  ·cases h1;cases h2;exact ne rfl
  ·cases h1;exact hn.1 (List.mem_map.mpr ⟨_,h2,rfl⟩)
  ·cases h2;exact hn.1 (List.mem_map.mpr ⟨_,h1,rfl⟩)
  ·exact Gz hn.2 h1 h2 ne
def Jv {env:Env}:∀{names:List (Str×NameKind)}{x:Str}{k:NameKind},
  (names.map λ(n,k)=>if(k==NameKind.free&&env.scope.kind== .function&&env.kindOf n==some .cell) then(n,NameKind.cell) else(n,k)).lookup x=some k->(k= .cell∨k= .free)->(x,NameKind.free)∈names∨(x,NameKind.cell)∈names
 | [],_,_,h,_=>by simp at h
 | (n,kk)::r,x,k,h,hk=>by
  have ih:=@Jv env r x k
  simp only[List.map_cons] at h
  have up:((x,NameKind.free)∈r∨(x,NameKind.cell)∈r)->((x,NameKind.free)∈(n,kk)::r∨(x,NameKind.cell)∈(n,kk)::r):=λz=>z.elim (λz=>.inl (List.mem_cons_of_mem _ z)) λz=>.inr (List.mem_cons_of_mem _ z)
  by_cases bc:(kk==NameKind.free&&env.scope.kind== .function&&env.kindOf n==some .cell)=true
  ·rw[if_pos bc,List.lookup_cons] at h
   have cr:kk=NameKind.free:=by
    rw[Bool.and_eq_true,Bool.and_eq_true] at bc
    simpa using bc.1.1
   cases hx:x==n with
   |true=>
    have:x=n:=by simpa using hx
    subst this;subst cr
    exact .inl List.mem_cons_self
   |false=>rw[hx] at h;exact up (ih h hk)
  ·rw[if_neg bc,List.lookup_cons] at h
   cases hx:x==n with
   |true=>
    rw[hx] at h
    have fG:kk=k:=Option.some.inj h
    have:x=n:=by simpa using hx
    subst this;subst fG
    rcases hk with z |z
    ·subst z;exact .inr List.mem_cons_self
    ·subst z;exact .inl List.mem_cons_self
   |false=>rw[hx] at h;exact up (ih h hk)
def Ig {Q:Env->Shared->Prop}
  (hQ:∀h',h'.Ns s.heap.objs.size (λ_=>none)->(∀b o,s.heap.get? b=some o->h'.get? b=some o)->
   (∀x c,(cellsFrom (s.heap.objs.size+1) scope.names cl).lookup x=some c->cl.lookup x=some c∨(h'.IsCell c none/\s.heap.objs.size+1<=c))->
   Q (newEnv scope s.heap.objs.size globals (cellsFrom (s.heap.objs.size+1) scope.names cl) qual none .none (some outer) builtinsNs) {s with heap:=h'}):
  wpAny Mqz A (newFunctionEnv scope globals cl [] qual none .none (some outer)) Q E s:=by
 simp only[newFunctionEnv,Option.isSome_some,if_true]
 refine wpAny_bind (wpAny_alloc ?_)
 refine wpAny_bind (wpAny_layCells _ (λname kind cells=>by cases hkc:kind==NameKind.cell<;> simp[hkc]) _ _ _ _ ?_)
 rw[show({s with heap:=s.heap.push {cls:=.type "dict",data:=.dict #[]}}:Shared).heap.objs.size=s.heap.objs.size+1 from Heap.size_push ..]
 rw[List.forIn_nil]
 refine wpAny_bind (wpAny_pure (wpAny_pure (hQ _ ((Heap.Ns.new s.heap (.type "dict")).keeps (pushCells_keeps _ _)) (λb o e=>pushCells_keeps _ _ b o (Heap.get?_push_of_some _ e)) λx c e=>?_)))
 have e':(cellsFrom (s.heap.push {cls:=.type "dict",data:=.dict #[]}).objs.size scope.names cl).lookup x=some c:=by rw[Heap.size_push];exact e
 rcases Qu scope.names _ cl e' with q | ⟨q1,q2⟩
 ·exact .inl q
 ·exact .inr ⟨q1,by rw[Heap.size_push] at q2;exact q2⟩
def Kw (sc scope:Scope)(N0 tns:List Str)(caps:List (Nat×Str)):Bool:=
 scope.kind== .function&&decide (scope.names.map (·.1)).Nodup&&scope.names.all (λy=>!(y.2== .local) || scope.names.lookup y.1==some .local)&&
 scope.names.all (λy=>!(y.2== .free) || (sc.names.lookup y.1==some .cell || sc.names.lookup y.1==some .free))&&caps.all (λp=>N0[p.1]?==some p.2&&(sc.names.lookup p.2==some .cell || sc.names.lookup p.2==some .free)&&scope.names.lookup p.2==some .free)
abbrev Cx.compN (X:Cx)(N:List Str)(scope:Scope)(cl:List (Str×Addr))(C:Addr)(s:Shared)(H:Hp)(ex:List Addr)(E:Value->Shared->Prop):Cx:=
 {X.comp N scope cl C s H ex E with fn:=λx=>scope.names.lookup x==some .cell}
def WM (scope sc:Scope):Scope:=
 {scope with names:=scope.names.map λ(n,k)=>if(k== .free&&sc.kind== .function&&sc.names.lookup n==some .cell) then(n, .cell) else(n,k)}
section
variable {bd iter:Expr}{sc:Scope}{tns:List Str}{wi:TI}{g:TG}{tt:TT}
def Bh {N0:List Str}(hc:X.calm=true)(dH:X.env.scope=sc)(dQ:X.N=N0)(ok:Kw sc scope N0 tns caps=true)(hn:tns.length=n)(hG:V6 n g)
  (hb:∀cl C s H ex E,PG (X.compN (tns++caps.map (·.2)) scope cl C s H ex E) tg g/\PTs (X.compN (tns++caps.map (·.2)) scope cl C s H ex E) bg tt/\PE (X.compN (tns++caps.map (·.2)) scope cl C s H ex E) bd te)
  {J:It}{fp:List Addr}{it:Addr}{tn:Nat->Heap->Prop}{cl:List (Str×Addr)}{Q:V->Hp->Prop}{RR:Value->Addr->Result->Shared->Prop}
  (I:Inv X aa U H s)(T:Turn X.prog X.w X.K tg J fp it tn)(t0:tn 0 s.heap)(hf:∀b∈fp,CZ X aa H b)
  (aq:∀x c,cl.lookup x=some c->X.env.cells.lookup x=some c)(aO:∀x,(x,NameKind.free)∈scope.names->∃c,cl.lookup x=some c)
  (W:Nat->Nat->List V->Hp->Prop){m0:Nat}(w0:W 0 m0 [] H)
  (turn:OQ g tt te (X6 n caps U) Q J W)
  (i6:∀D C ys H3 s',CompEnd X aa U H3 D C ys s'->Q (.ref D) (upd H3 D (.lst ys))->RR (.ref D) C (.ok .next) s'):
  wpAny (model X.prog X.w) X.A (newList []) (λacc s₃=>wpAny (model X.prog X.w) X.A (newFunctionEnv scope X.env.globals cl [] X.env.qual none .none (some X.env)) (λeR s₄=>
   codeAny (model X.prog X.w) X.A (.compStart (.ListComp bd [⟨tg,iter,bg,0⟩] scope pos) 0 (.ref it) acc {eR with scope:=relabel scope X.env}) (RR acc eR.locals) s₄) E s₃) E s:=by
 subst dH
 subst dQ
 unfold Kw at ok
 simp only[Bool.and_eq_true,List.all_eq_true] at ok
 obtain⟨⟨⟨⟨ok1,ok2⟩,ok3⟩,ok4⟩,ok5⟩:=ok
 have eL:scope.kind= .function:=by simpa using ok1
 have cX:(scope.names.map (·.1)).Nodup:=by simpa using ok2
 refine wpAny_newObj_type (Ig (λh₁ eU dj ip=>?_))
 dsimp only at eU dj ip⊢
 generalize gJ:s.heap.push {cls:=.type "list",dict:=none,data:=.seq ([]:List Value).toArray}=H2 at eU dj ip⊢
 have hC:H2.objs.size=s.heap.objs.size+1:=by rw[←gJ,Heap.size_push]
 have hDC:s.heap.objs.size≠H2.objs.size:=by rw[hC];exact Nat.ne_of_lt (Nat.lt_succ_self _)
 have hCle:s.heap.objs.size<=H2.objs.size:=by rw[hC];exact Nat.le_succ _
 have below:∀b,b<s.heap.objs.size->b≠H2.objs.size/\b≠s.heap.objs.size:=λb hb=>⟨by rw[hC];exact Nat.ne_of_lt (Nat.lt_succ_of_lt hb),Nat.ne_of_lt hb⟩
 have bK:∀b o,s.heap.get? b=some o->h₁.get? b=some o:=λb o e=>dj b o (gJ▸Heap.get?_push_of_some _ e)
 have dR:h₁.get? s.heap.objs.size=some {cls:=.type "list",data:=.seq ([]:List Value).toArray 0}:=dj _ _ (gJ▸Heap.get?_push_size _ rfl)
 have i8:tn 0 h₁:=T.keep _ _ _ t0 λb _ o e=>bK b o e
 have cf2:∀x,(x,NameKind.free)∈scope.names->∃c,(cellsFrom (H2.objs.size+1) scope.names cl).lookup x=some c/\cl.lookup x=some c:=λx hx=>by
  obtain⟨c,hc⟩:=aO x hx
  exact⟨c,by rw[Za scope.names _ _ (λhm=>Gz cX hx hm (by decide))];exact hc,hc⟩
 have cf3:∀x,(x,NameKind.cell)∈scope.names->∃c,(cellsFrom (H2.objs.size+1) scope.names cl).lookup x=some c:=λx hx=>Q3 scope.names _ _ (.inl hx)
 have cf4:∀x y c,(cellsFrom (H2.objs.size+1) scope.names cl).lookup x=some c->(cellsFrom (H2.objs.size+1) scope.names cl).lookup y=some c->x=y:=
  QV scope.names _ _ (λx y c h1 h2=>I.ok.inj x y c (aq x c h1) (aq y c h2)) (λx c e=>by
   obtain⟨v,z⟩:=I.cell x c (aq x c e)
   exact Nat.lt_of_lt_of_le z.lt (by rw[hC];omega))
 have cf5:∀x c,scope.names.lookup x=some NameKind.cell->(cellsFrom (H2.objs.size+1) scope.names cl).lookup x=some c->H2.objs.size+1<=c:=λx c hx e=>Q2 scope.names _ _ (mem_of_lookup hx) e
 generalize gK:cellsFrom (H2.objs.size+1) scope.names cl=iq at*
 -- addresses
 generalize hD:s.heap.objs.size=D at*
 generalize hCe:H2.objs.size=C at*
 have fI:∀b∈fp,b<D:=λb hb=>by
  obtain⟨o,e,_⟩:=T.obj _ _ t0 b hb
  rw[←hD];exact Heap.lt_size e
 have cj:D<C:=by omega
 have gL:∀x c,iq.lookup x=some c->c≠D:=λx c e=>by
  rcases ip x c e with q | ⟨_,q⟩
  ·obtain⟨v,z⟩:=I.cell x c (aq x c q)
   rw[←hD];exact Nat.ne_of_lt z.lt
  ·exact Nat.ne_of_gt (Nat.lt_trans cj (Nat.lt_of_succ_le q))
 have i9:∀b∈fp,∀x c,iq.lookup x=some c->c≠b:=λb hb x c e=>by
  rcases ip x c e with q | ⟨_,q⟩
  ·exact(hf b hb).2.2.2.2.1 x c (aq x c q)
  ·exact Nat.ne_of_gt (Nat.lt_trans (fI b hb) (Nat.lt_trans cj (Nat.lt_of_succ_le q)))
 let X':Cx:=X.compN (tns++caps.map (·.2)) scope iq C s H fp (notedBy (model X.prog X.w) X.A (compEnvC scope iq C X.env) λe s'=>RR (.ref D) C (.error e) s')
 have okX:X'.Ok:=by
  refine⟨I.ok.mod,eL,I.ok.glob,I.ok.blt,by show s.heap.objs.size<=C;omega,cf4,λx hx=>?_,λx c hx hcx=>(by show s.heap.objs.size<=c;have:=cf5 x c (by have eV:(scope.names.lookup x==some NameKind.cell)=true:=hx;simpa using eV) hcx;omega),I.ok.hd,I.ok.frames, .inl rfl,λb hb=>?_,I.bs,Nat.le_trans I.ok.bsz I.sz,λb o e hb=>?_,λb hb hz=>?_,I.stack,I.stkFree⟩
  ·have eK:(relabel scope X.env).names.lookup x=some .cell∨(relabel scope X.env).names.lookup x=some .free:=hx
   have hz:(x,NameKind.free)∈scope.names∨(x,NameKind.cell)∈scope.names:=by
    rcases eK with z |z
    ·exact Jv z (.inl rfl)
    ·exact Jv z (.inr rfl)
   rcases hz with z |z
   ·obtain⟨c,q,_⟩:=cf2 x z
    exact⟨c,q⟩
   ·exact cf3 x z
  ·refine⟨Nat.ne_of_lt (Nat.lt_trans (fI b hb) cj),i9 b hb⟩
  ·rcases(hf b hb).2.2.2.1 with z |z
   ·exact I.ok.noex b o e z
   ·exact absurd (Nat.lt_of_lt_of_le (Heap.lt_size e) (Nat.le_trans I.ok.bsz z)) (Nat.lt_irrefl _)
  ·rcases List.mem_cons.mp (I.stkSub b hz) with z |z
   ·exact(hf b hb).2.1 z
   ·exact(hf b hb).2.2.1 z
 have lenc:(X6 n caps U).length=(tns++caps.map (·.2)).length:=by unfold X6;simp[hn]
 have I1:∀tk,Inv X' [] (X6 n caps U) H {s with heap:=h₁,toks:=tk}:=λtk=>by
  refine⟨okX,rfl,I.bare,Un.kept bK,⟨_,eU,λi x v e1 e2 e3=>?_⟩,λx c e=>?_,I.hok.fresh (by rw[hD];exact Nat.le_of_lt cj),λx c e=>?fc,λp hp=>absurd (show p∈([]:List (Addr×Obj)) from hp) (by simp),I.hok.kept bK,lenc⟩
  ·have hi:n<=i:=by
    by_cases h:n<=i
    ·exact h
    ·have cP:(X6 n caps U)[i]?=some (some v):=e2
     unfold X6 at cP
     rw[List.getElem?_append_left (by simp;omega),List.getElem?_replicate] at cP
     split at cP<;> cases cP
   have cP:(X6 n caps U)[i]?=some (some v):=e2
   unfold X6 at cP
   rw[List.getElem?_append_right (by simpa using hi),List.length_replicate,List.getElem?_map] at cP
   have gH:(tns++caps.map (·.2))[i]?=some x:=e1
   rw[List.getElem?_append_right (by rw[hn];exact hi),hn,List.getElem?_map] at gH
   cases il:caps[i-n]? with
   |none=>rw[il] at cP;cases cP
   |some p=>
    rw[il] at cP gH
    simp only[Option.map_some,Option.some.injEq] at cP gH
    have hp5:=ok5 p (List.mem_of_getElem? il)
    simp only[beq_iff_eq,Bool.or_eq_true] at hp5
    obtain⟨⟨p1,p2⟩,p3⟩:=hp5
    have hσ:U[p.1]?=some (some v):=by
     cases hq:U[p.1]? with
     |none=>rw[hq] at cP;cases cP
     |some o=>rw[hq] at cP;simp at cP;rw[cP]
    subst gH
    obtain⟨m,hm,hl⟩:=I.loc
    obtain⟨u,r,l⟩:=hl p.1 p.2 v p1 hσ (.inr p2)
    refine⟨u,r, .inr ?_⟩
    rcases l with⟨k,_⟩ | ⟨k,c,e,z⟩
    ·have k':X.env.scope.names.lookup p.2=some .local:=k
     rcases p2 with p2 |p2<;> (rw[p2] at k';cases k')
    ·obtain⟨c',e',e''⟩:=cf2 p.2 (mem_of_lookup p3)
     have:=aq _ _ e''
     rw[e] at this;cases this
     obtain⟨o,ho,hd⟩:=z
     exact⟨Jj (env:=X.env) p3,c,e',⟨o,bK _ _ ho,hd⟩⟩
  ·rcases ip x c e with q | ⟨q,_⟩
   ·obtain⟨v,o,ho,hd⟩:=I.cell x c (aq x c q)
    exact⟨v,o,bK _ _ ho,hd⟩
   ·exact⟨_,q⟩
  case fc=>
   rcases ip x c e with q | ⟨_,q⟩
   ·exact I.freeC x c (aq x c q)
   ·exact I.hok.fresh (by rw[hD];omega)
 obtain⟨hg,ht,he⟩:=hb iq C s H fp X'.xe
 have fsLt:∀b∈X'.fs,b<D:=λb hb=>by
  obtain⟨_,o,ho,_⟩:=I.stack.mem hb
  rw[←hD];exact Heap.lt_size ho
 have aY:CAt X' fp D:=⟨hc,rfl,Nat.ne_of_lt cj,λhz=>absurd (fsLt _ hz) (Nat.lt_irrefl _),by show s.heap.objs.size<=D;omega,gL,λb hb=>Nat.ne_of_lt (fI b hb),λb hb H' h'=>⟨h',Nat.ne_of_lt (Nat.lt_trans (fI b hb) cj),okX.exfs b hb, .inl hb,i9 b hb,λp hp=>DL (M:=Addr×Obj) hp⟩⟩
 have di:∀s₃:Shared,(∃tk,s₃={s with heap:=h₁,toks:=tk})->
   codeAny (model X.prog X.w) X.A (.compLoop (.ListComp bd [⟨tg,iter,bg,0⟩] scope pos) 0 (.ref it) (.ref D) (compEnvC scope iq C X.env)) (RR (.ref D) C) s₃:=by
  rintro s₃ ⟨tk,rfl⟩
  exact GF (Y:=X') rfl T hG hg ht he aY (λj v e=>(K0 e).1) turn (λys its k H3 s4 I4 rv hz q=>i6 _ C ys H3 s4 (Ho I hf (Nat.le_of_eq hD) cj I4 I4.os I4.base I4.hok rfl rv hz) q)
   (.mk 0 H [] [] 0 ⟨I1 tk,i8,λb hb=>(hf b hb).1,dR,I.hok.fresh (by rw[hD];exact Nat.le_refl _)⟩ .nil w0)
 exact codeAny_compStart_list (di _ ⟨_,rfl⟩) (T.self _ 0 _ _ _ i8 (di _ ⟨_,rfl⟩))
def OZ (sc:Scope)(N0:List Str)(tns:List Str)(caps:List (Nat×Str))(hc:X.calm=true)(hi:PI X tg iter wi)(hG:V6 tns.length g)
  (hb:∀cl C s H ex E,PG (X.compN (tns++caps.map (·.2)) scope cl C s H ex E) tg g/\PTs (X.compN (tns++caps.map (·.2)) scope cl C s H ex E) bg tt/\PE (X.compN (tns++caps.map (·.2)) scope cl C s H ex E) bd te)
  (dH:X.env.scope=sc:=by rfl)(dQ:X.N=N0:=by rfl)(ok:Kw sc scope N0 tns caps=true:=by decide+kernel)
  (hs:∀x,foldedSetIterable iter X.env x=pure x:=by intro _;rfl):
  PE X (.ListComp bd [⟨tg,iter,bg,0⟩] scope pos) (Cr tns.length caps wi g tt te):=by
 intro aa s U H Q I h
 have ok':=ok
 unfold Kw at ok'
 simp only[Bool.and_eq_true,List.all_eq_true] at ok'
 obtain⟨⟨⟨⟨ok1,ok2⟩,ok3⟩,ok4⟩,ok5⟩:=ok'
 obtain⟨cl,i7,aq,aO⟩:=B8 (scope:=scope) (env:=X.env) λx hx fH=>by
  have:=ok4 x hx
  rw[fH] at this
  have z:sc.names.lookup x.1=some .cell∨sc.names.lookup x.1=some .free:=by simpa using this
  exact I.ok.has x.1 (by show X.env.scope.names.lookup x.1=_∨X.env.scope.names.lookup x.1=_;rw[dH];exact z)
 rw[eval_ListComp]
 refine wpAny_comprehension_free (use:=none) rfl hs i7 (by simpa using ok1) (λx hx hl=>by have:=ok3 x hx;rw[hl] at this;simpa using this) (thn (hi aa s U H _ I h) λxv s₁ h₁=>thn h₁ λgB s₂ h₂=>?_)
 obtain⟨it,fp,tn,J,H',rfl,I2,T,iW,f2,W,⟨m0,w0⟩,turn⟩:=h₂
 refine Bh (RR:=λacc C=>compPost (model X.prog X.w) X.A X.xe none (EP X aa U Q) acc C) hc dH dQ ok rfl hG hb I2 T iW f2 aq aO W w0 turn ?_
 intro D C ys H3 s' ce q
 obtain⟨mm,eA⟩:=ce.ns
 refine⟨mm,eA,λh' dO=>⟨.ref D,_,?_,rfl,q⟩⟩
 obtain⟨c0,c1,c2,c3,c4,c5⟩:=ce.fp
 exact ce.inv.turned (t':=s'.toks) (λb o dP e=>(dO.extBut b o dP e)) c0 c1 c3 c4 c5
end
def KY:∀(xs:List V) (us:List Value),xs.length=us.length->(∀(j:Nat) x u,xs[j]?=some x->us[j]?=some u->XW x u)->XX xs us
 | [],[],_,_=>.nil
 | [],_::_,h,_=>by simp at h
 |_::_,[],h,_=>by simp at h
 |x::xs,u::us,h,r=>.cons (r 0 x u rfl rfl) (KY xs us (by simpa using h) λj y v e1 e2=>r (j+1) y v (by simpa using e1) (by simpa using e2))
def EB (ta:TA):TE:=λU H Q=>ta U H λvs H1=>∃ j:Int,vs=[.int j]/\0<=j/\j<=1000/\∀p,H1 p=none->Q (.ref p) (upd H1 p (.lst ((List.range j.toNat).map λi=>V.int ((i:Nat):Int))))
def DC {ta:TA}{p q:Pos}(hc:X.calm=true)(hg:Gl X "list")(hg2:Gl X "range")(hm:X.mg "list" =none)(hm2:X.mg "range" =none)(ha:PA X [e] ta)
  (hs:starEach [.Call (.Name "range" q) [e] [] q2] X.env=[(false,eval (.Call (.Name "range" q) [e] [] q2) X.env)]:=by rfl)(fm:starEach [e] X.env=[(false,eval e X.env)]:=by rfl):
  PE X (.Call (.Name "list" p) [.Call (.Name "range" q) [e] [] q2] [] pos) (EB ta):=by
 intro aa s U H Q I h
 refine wpAny_Call_Name_kw (Ju I hg hm boot_list ?_)
 refine callWith_type1 ?_ hs rfl
 rw[hs]
 show wpAny _ _ (spliced ((false,eval (.Call (.Name "range" q) [e] [] q2) X.env)::backTo pos [])) _ _ s
 refine Calls.spliced_cons ?_
 refine wpAny_Call_Name_kw (Ju I hg2 hm2 boot_range ?_)
 refine callWith_type1 (thn (ha q2 aa s U H _ I h) λus s1 r9=>?_) fm rfl
 obtain⟨vs,H1,I1,r1,q1⟩:=r9
 obtain⟨j,e,h0,h1,k⟩:=q1
 subst e
 cases r1 with
 |cons r rr=>
  cases rr
  obtain⟨t,rfl⟩:=r
  refine call_range_1 ?_
  refine Calls.spliced_nil ?_
  refine call_list_range (n:=j.toNat) (I.ok.hd hc) (IsRange.new ..) (small_one (by omega) (by omega) (by omega) (by omega)) (by rw[rangeSize_one];split<;> omega) (by omega) λh' tk cE c' hk hS dR=>?_
  refine⟨.ref _,_,I1.laid (h':=h') (t':=tk) (o:=.lst ((List.range j.toNat).map λi=>V.int ((i:Nat):Int))) (λb o e=>hk b o (Heap.get?_push_of_some _ e)) (by rw[Heap.size_push];exact Nat.le_succ _) ?_,rfl,k _ (I1.hok.fresh (by rw[Heap.size_push];exact Nat.le_succ _))⟩
  refine⟨by rw[List.length_map,List.length_range];exact Nat.le_of_lt (MH (by omega)),cE.toList,c',KY _ _ (by simp[dR.1]) λi x u e1 e2=>?_,hS⟩
  have cP:cE[i]?=some u:=by simpa using e2
  obtain⟨tk,rfl⟩:=dR.2 i u cP
  rw[List.getElem?_map] at e1
  cases e3:(List.range j.toNat)[i]? with
  |none=>rw[e3] at e1;cases e1
  |some z=>
   rw[e3] at e1
   have hz:z=i:=by
    have hi:i<j.toNat:=by have:=(List.getElem?_eq_some_iff.mp e3).1;simpa using this
    rw[List.getElem?_range hi] at e3
    exact(Option.some.inj e3).symm
   subst hz
   have:x=V.int (z:Int):=(Option.some.inj e1).symm
   subst this
   exact⟨tk,by simp⟩
def X3 {p:Pos}:starEach (.List l p::es) env=(false,eval (.List l p) env)::starEach es env:=rfl
def M9 (K:W.Frag)(h:X.K=K):MtR X "list.index" (L9 K):=by subst h;exact NF
variable {o:Expr}{to:TE}{t:TA}{name:Str}{aB am:Pos}{T id:String}{r:V->List V->Hp->VK->Prop}
def Wr (K:W.Frag)(hK:X.K=K)(pa:PlainAttrs T)(slot:Slot T name id)(gE:typeOf (.builtin id)=pure (.type "method_descriptor"))(hm:MtR X id r)(ho:PE X o to)(ha:PA X (e::es) t)
  (bE:attributeBase o name X.env (eval o X.env)=eval o X.env:=by rfl)
  (eN:((backTo am (starEach (e::es) X.env)).all (λx=>!x.1)&&(backToKw am (keywordEach [] X.env)).all (λx=>x.1.isSome)
   &&decide ((e::es).length+([]:List Keyword).length+(if([]:List Keyword).isEmpty then 0 else 1)<30))=true:=by rfl)
  (bF:(aB.endLine==am.line)=true:=by rfl)(hs:starEach (e::es) X.env=(false,eval e X.env)::starEach es X.env:=by rfl)(bZ:(backTo am (starEach es X.env)).any (·.1)=false:=by rfl):
  PE X (.Call (.Attribute o name aB) (e::es) [] am) (tBM K T r to t):=by
 subst hK
 exact YW pa slot gE hm ho ha bE eN bF hs bZ
end L2
namespace PySem
open PySem.Spec
namespace SeqAt
open MeetsSeq
theorem list_indexFrom (l:Addr)(items:Array Value)(n:Nat)(dd:Option Addr)(sl:Array (Option Value))(x:Value)(e:Value->Bool)(k:Nat)(t:Tok)(j:Nat)(hk:k<=j)(hj:j<items.size)(gM:(j:Int)<2^63-1)
  (hit:e items[j]=true)(hno:∀m (hm:m<items.size),k<=m->m<j->e items[m]=false):
  Meets (Builtin.«list.index» ⟨[.ref l,x, .int (k:Int) t],[]⟩)
   (λA R s=>s.heap.get? l=some {cls:=.type "list",dict:=dd,data:=.seq items n,slots:=sl}/\(∀y,y∈items->EqAt A.in1 s y x (e y))/\R (.ok (.ret (.int j s.toks))) {s with toks:=s.toks+1}):=by
 intro prog w A R s h
 obtain⟨hp,g,d,tk,os⟩:=s;obtain⟨hl,he,h⟩:=h
 wp_walk using wpAny_loadPart' hl
 have a1:((λi:Int=>if i<0 then max 0 (i+(items.size:Int)) else i) ((some (k:Int)).getD 0))=((k:Nat):Int):=by
  show(if(k:Int)<0 then max 0 ((k:Int)+(items.size:Int)) else(k:Int))=_
  rw[if_neg (by omega)]
 have a2:((λi:Int=>if i<0 then max 0 (i+(items.size:Int)) else i) ((none:Option Int).getD (2^63-1)))=2^63-1:=by simp
 rw[a1,a2]
 exact⟨plainId_quiet plain_index_loop _,codeAny_builtin entry_index_loop (by
  rw[Around.under_plainId plain_index_loop _]
  exact index_loopAt l items n dd sl x e (2^63-1) j hj gM hit _ k rfl hk (λm hm h1 h2=>hno m hm h1 h2) prog w A R _ ⟨hl,he,h⟩)⟩
end SeqAt
end PySem
namespace L2
open PySem PySem.Spec PyProof.Rows
def IK (K:W.Frag):V->List V->Hp->VK->Prop:=λx vs H Q=>∃ l xs y,∃k j:Nat,∃kk:Int,x= .ref l/\vs=[y, .int kk]/\kk=(k:Int)/\SqL K H l xs/\Vy y=true/\xs.all Vy=true/\k<=j/\(∃z,xs[j]?=some z/\eqV z y=true)/\(∀(m:Nat) z,k<=m->m<j->xs[m]?=some z->eqV z y=false)/\Q (.int (j:Int)) H
section
theorem IM:MtR X "list.index" (IK X.K):=by
 intro aa s U H x vs v us Q I rx rv h
 obtain⟨l,xs,y,k,j,kk,rfl,rfl,rfl,hq,fy,fs,hkj,⟨z,hz,ez⟩,hm,q⟩:=h
 cases rx
 obtain⟨u,u2,rfl,ry,rk⟩:=XX.two rv
 obtain⟨t,rfl⟩:=rk
 obtain⟨its,r,pl,hle⟩:=I.list hq
 have hl:=r.length
 have hjl:=(List.getElem?_eq_some_iff.mp hz).1
 have ge:∀(m:Nat) (w:V),xs[m]?=some w->∀hm:m<its.toArray.size,eqU y its.toArray[m]=eqV w y:=λm w hw hm=>by
  obtain⟨u',eB,ru'⟩:=r.get hw
  have e:its.toArray[m]=u':=by
   have:=(List.getElem?_eq_some_iff.mp eB).2
   simpa using this
  rw[e]
  exact Hg ru' (List.all_eq_true.mp fs w (List.mem_of_getElem? hw))
 obtain⟨o,n,ho,hc,hd,hs⟩:=id pl
 obtain⟨cls,dict,data,slots⟩:=o
 cases hc;cases hd;cases hs
 refine call_meets F.slot_list_index ⟨_,ho,rfl⟩ F.entry_list_index (F.args_list_index_3 _ _ _) (SeqAt.list_indexFrom l its.toArray n none slots u (eqU y) k t j hkj (by rw[List.size_toArray];omega) ?_ ?_ ?_) ⟨ho,λw hw=>QM ry fy r fs w (by simpa using hw),?_⟩
 ·have:sizeLine<2^63-1:=by decide
  omega
 ·rw[ge j z hz];exact ez
 ·intro m hm' hle1 ah
  rw[ge m xs[m] (List.getElem?_eq_getElem (by omega))]
  exact hm m _ hle1 ah (List.getElem?_eq_getElem (by omega))
 ·exact⟨.int (j:Int),H,I.tok _,⟨_,rfl⟩,q⟩
end
def q9 (K:W.Frag):List V->Hp->VK->Prop:=λxs H Q=>∃ (a:Addr) (bs:List Bool),xs=[.ref a]/\SqL K H a (bs.map V.bl)/\Q (.bl (bs.all id)) H
section
def Ar:∀(bs:List Bool),((List.range bs.length).all λi=>(bs[i]?).getD true)=bs.all id:=λbs=>by
 rw[Bool.eq_iff_iff,List.all_eq_true,List.all_eq_true]
 constructor
 ·intro h b hb
  obtain⟨i,hi,rfl⟩:=List.getElem_of_mem hb
  have:=h i (List.mem_range.mpr hi)
  simpa[List.getElem?_eq_getElem hi] using this
 ·intro h i hi
  have cY:=List.mem_range.mp hi
  simpa[List.getElem?_eq_getElem cY] using h _ (List.getElem_mem cY)
def DN (hc:X.calm=true):Qv X (.builtin "all") (q9 X.K):=by
 intro aa s U H xs us Q I r h
 obtain⟨a,bs,rfl,hq,q⟩:=h
 obtain⟨u,rfl,ru⟩:=Uh r
 cases ru
 obtain⟨its,rv,pl,hz⟩:=I.list hq
 have ae:bs.length=its.length:=by have:=rv.length;rwa [List.length_map] at this
 have ah:a<s.heap.objs.size:=by obtain⟨o,n,ho,_⟩:=pl;exact Heap.lt_size ho
 refine call_all_walk (wpAny_pyIter_list pl.isList ?_)
 refine⟨s.heap.objs.size,[s.heap.objs.size,a],[s.heap.objs.size],its.toArray.size,_,_,λi=>(bs[i]?).getD true,rfl,Walks.list (A:=X.A.in1) (I.ok.hd hc) _ a (Nat.ne_of_lt ah) its.toArray,
  ⟨⟨_,Heap.get?_push_size _ rfl,rfl,rfl⟩,pl.isList.at λo e=>Heap.get?_push_of_some _ e⟩,λi v s' Q' E' hP hQ=>?_,λh' tk hk=>?_⟩
 ·have im:its[i]?=some v:=by simpa using hP
  obtain⟨x,ex,rx⟩:=GL rv im
  rw[List.getElem?_map] at ex
  cases e:bs[i]? with
  |none=>rw[e] at ex;cases ex
  |some z=>
   rw[e] at ex
   have ik:V.bl z=x:=Option.some.inj ex
   subst ik
   cases rx
   simp only[e,Option.getD_some] at hQ
   exact wpAny_truthy_bool hQ
 ·have e:((List.range its.toArray.size).all λi=>(bs[i]?).getD true)=bs.all id:=by
   rw[List.size_toArray, ←ae];exact Ar bs
  rw[e]
  have I2:Inv X aa U H {s with heap:=h',toks:=tk}:=I.kept (t':=tk) λb o e=>hk b o (λhm=>by
   rw[List.mem_singleton.mp hm] at e
   exact absurd (Heap.lt_size e) (Nat.lt_irrefl _)) (Heap.get?_push_of_some _ e)
  exact⟨.bl (bs.all id),H,I2,rfl,q⟩
def TK (i j k:Nat)(ta:TA):TS:=λD U H=>ta U H λvs H1=>∃ v w z,vs=[v,w,z]/\D.nx (((U.set i (some v)).set j (some w)).set k (some z)) H1
def Lj {y z:Str}{a b:Expr}{ta:TA}{kt k2 pt2}(hc:X.calm=true)(hN:X.N.Nodup)(hi:X.N[i]?=some x)(hj:X.N[j]?=some y)(hk:X.N[k]?=some z)(cT:i≠j)(hik:i≠k)(hjk:j≠k)
  (hx:X.env.scope.names.lookup x=some .local)(hy:X.env.scope.names.lookup y=some .local)(hz:X.env.scope.names.lookup z=some .local)(ha:PA X [a,b,c] ta)
  (hw:swappedStores [.Tuple [.Name x px, .Name y py, .Name z pz] kt pt] (.Tuple [a,b,c] k2 pt2) X.env=pure (some [x,y,z]))
  (hs:swapsWithSole [.Tuple [.Name x px, .Name y py, .Name z pz] kt pt] (.Tuple [a,b,c] k2 pt2) pos.line X.env=pure false:=by rfl):
  PS X (.Assign [.Tuple [.Name x px, .Name y py, .Name z pz] kt pt] (.Tuple [a,b,c] k2 pt2) pos) (TK i j k ta):=by
 intro aa s U H D I h
 rw[exec_Assign_arm]
 refine wpAny_bind (wpAny_standAt ?_)
 rw[hs]
 refine wpAny_bind (wpAny_pure ?_)
 rw[if_neg (by decide)]
 refine wpAny_bind (Tuple_ (thn (ha _ aa s U H _ I h) λus s1 r9=>?_))
 obtain⟨vs,H1,I1,r1,q1⟩:=r9
 obtain⟨v,w,t,e1,q1⟩:=q1
 subst e1
 obtain⟨u1,u2,u3,rfl,rv,cD,rt⟩:∃u1 u2 u3,us=[u1,u2,u3]/\XW v u1/\XW w u2/\XW t u3:=by
  cases r1 with
  |cons p q=>
   cases q with
   |cons p' q'=>
    cases q' with
    |cons p'' q''=>
     cases q''
     exact⟨_,_,_,rfl,p,p',p''⟩
 refine wpAny_newObj_type ?_ (by show 3<=sizeLine;decide)
 have I2:Inv X aa U H1 {s1 with heap:=s1.heap.push {cls:=.type "tuple",data:=.seq [u1,u2,u3].toArray}}:=I1.kept (t':=s1.toks) λb o e=>Heap.get?_push_of_some _ e
 rw[hw]
 refine wpAny_bind (wpAny_pure ?_)
 show wpAny (model X.prog X.w) X.A (do rule "assign.swapped-stores";let items ←unpackItems (.ref s1.heap.objs.size) 3 none;assignInOrder [λv=>bindName X.env z v,λv=>bindName X.env y v,λv=>bindName X.env x v] items.reverse;pure Flow.next) _ _ _
 refine wpAny_bind (wpAny_rule (wpAny_bind (unpackItems_tuple (items:=#[u1,u2,u3]) (I.ok.hd hc) (IsTup.new s1.heap _) λh' eK=>?_)))
 have I3:=I2.kept (h':=h') (t':=s1.toks) λb o e=>eK b o (Nat.ne_of_lt (Heap.lt_size e)) e
 show wpAny _ _ (assignInOrder [λv=>bindName X.env z v,λv=>bindName X.env y v,λv=>bindName X.env x v] [u3,u2,u1] >>= λ_=>pure Flow.next) _ _ _
 refine wpAny_bind (assignInOrder_cons (wpAny_bindName (Z6 I3 hN hk (.inl hz) rt (λs2 I4=>?_) (.inr hz))))
 refine assignInOrder_cons (wpAny_bindName (Z6 I4 hN hj (.inl hy) cD (λs3 I5=>?_) (.inr hy)))
 refine assignInOrder_cons (wpAny_bindName (Z6 I5 hN hi (.inl hx) rv (λs4 I6=>assignInOrder_nil (wpAny_pure ?_)) (.inr hx)))
 have e:(((U.set k (some t)).set j (some w)).set i (some v))=(((U.set i (some v)).set j (some w)).set k (some t)):=by
  rw[List.set_comm _ _ hjk.symm,List.set_comm _ _ hik.symm,List.set_comm _ _ cT.symm]
 rw[e] at I6
 exact⟨_,H1,I6,q1⟩
end
section
variable [DecidableEq M]{r:Enc M}{d:Nat}
open Classical in
end
section
end
section
def Fh (K:W.Frag)(h:X.K=K):OpR X (compareOp .NotIn) (rIn K true):=by subst h;exact Jm
variable {T:String}{name:Str}{id:String}{r:V->List V->Hp->VK->Prop}{o:Expr}{to:TE}{t:TA}{aB am:Pos}
def Ah (hK:X.K=K)(pa:PlainAttrs T)(slot:Slot T name id)(gE:typeOf (.builtin id)=pure (.type "method_descriptor"))(hm:MtR X id r)(ho:PE X o to)(ha:PA X (e::es) t)
  (bE:attributeBase o name X.env (eval o X.env)=eval o X.env:=by rfl)
  (eN:((backTo am (starEach (e::es) X.env)).all (λx=>!x.1)&&(backToKw am (keywordEach [] X.env)).all (λx=>x.1.isSome)
   &&decide ((e::es).length+([]:List Keyword).length+(if([]:List Keyword).isEmpty then 0 else 1)<30))=true:=by rfl)
  (bF:(aB.endLine==am.line)=true:=by rfl)(hs:starEach (e::es) X.env=(false,eval e X.env)::starEach es X.env:=by rfl)(bZ:(backTo am (starEach es X.env)).any (·.1)=false:=by rfl):
  PE X (.Call (.Attribute o name aB) (e::es) [] am) (tBM K T r to t):=Wr K hK pa slot gE hm ho ha bE eN bF hs bZ
end
section
variable {bd iter:Expr}{wi:TI}{g:TG}{tt:TT}
def F3 (hc:X.calm=true)(hi:PI X tg iter wi)(hG:V6 tns.length g)
  (hb:∀cl C s H ex E,PG (X.compN (tns++caps.map (·.2)) scope cl C s H ex E) tg g/\PTs (X.compN (tns++caps.map (·.2)) scope cl C s H ex E) bg tt/\PE (X.compN (tns++caps.map (·.2)) scope cl C s H ex E) bd te)
  (dH:X.env.scope=sc:=by rfl)(dQ:X.N=N0:=by rfl)(ok:Kw sc scope N0 tns caps=true:=by decide+kernel)
  (hs:∀x,foldedSetIterable iter X.env x=pure x:=by intro _;rfl):
  PE X (.ListComp bd [⟨tg,iter,bg,0⟩] scope pos) (Cr tns.length caps wi g tt te):=OZ sc N0 tns caps hc hi hG hb dH dQ ok hs
def Ya (hc:X.calm=true)(hi:PI X tg iter wi)(hG:V6 tns.length g)
  (hb:∀cl C s H ex E,PG (X.comp (tns++caps.map (·.2)) scope cl C s H ex E) tg g/\PTs (X.comp (tns++caps.map (·.2)) scope cl C s H ex E) bg tt/\PE (X.comp (tns++caps.map (·.2)) scope cl C s H ex E) bd te)
  (dH:X.env.scope=sc:=by rfl)(dQ:X.N=N0:=by rfl)(ok:Ct sc scope N0 tns caps=true:=by decide+kernel)
  (hs:∀x,foldedSetIterable iter X.env x=pure x:=by intro _;rfl):
  PE X (.ListComp bd [⟨tg,iter,bg,0⟩] scope pos) (Cr tns.length caps wi g tt te):=Tb sc N0 tns caps hc hi hG hb dH dQ ok hs
end
section
variable {l:Expr}{tl:TE}{p:Pos}
def Xo (h:X.K=K)(hl:PE X l tl):PI X tg l (Ft K tl):=by subst h;exact SU hl
end
def JC:List Int->Int
 | []=>0
 |a::r=>r.foldl max a
def OV:List Int->Int
 | []=>0
 |a::r=>r.foldl min a
def Fa (ns:List Int):∀k,k<ns.length->ns.getD (argBest (λi j=>decide (ns.getD i 0 > ns.getD j 0)) k) 0=JC (ns.take (k+1))
 |0,h=>by
  cases ns with
  |nil=>simp at h
  |cons a r=>simp[argBest,JC]
 |k+1,h=>by
  have ih:=Fa ns k (by omega)
  have e:JC (ns.take (k+1+1))=max (JC (ns.take (k+1))) (ns.getD (k+1) 0):=by
   rw[List.take_succ_eq_append_getElem h]
   cases ns with
   |nil=>simp at h
   |cons a r=>
    rw[List.take_succ_cons]
    simp only[JC,List.cons_append,List.foldl_append,List.foldl_cons,List.foldl_nil]
    rw[List.getD_eq_getElem?_getD,List.getElem?_eq_getElem h]
    rfl
  rw[e, ←ih]
  show ns.getD (if(decide (ns.getD (k+1) 0 > ns.getD (argBest _ k) 0))=true then k+1 else argBest _ k) 0=_
  by_cases hc:ns.getD (k+1) 0 > ns.getD (argBest (λi j=>decide (ns.getD i 0 > ns.getD j 0)) k) 0
  ·rw[if_pos (by simpa using hc)];omega
  ·rw[if_neg (by simpa using hc)];omega
def E5 (ns:List Int):∀k,k<ns.length->ns.getD (argBest (λi j=>decide (ns.getD i 0<ns.getD j 0)) k) 0=OV (ns.take (k+1))
 |0,h=>by
  cases ns with
  |nil=>simp at h
  |cons a r=>simp[argBest,OV]
 |k+1,h=>by
  have ih:=E5 ns k (by omega)
  have e:OV (ns.take (k+1+1))=min (OV (ns.take (k+1))) (ns.getD (k+1) 0):=by
   rw[List.take_succ_eq_append_getElem h]
   cases ns with
   |nil=>simp at h
   |cons a r=>
    rw[List.take_succ_cons]
    simp only[OV,List.cons_append,List.foldl_append,List.foldl_cons,List.foldl_nil]
    rw[List.getD_eq_getElem?_getD,List.getElem?_eq_getElem h]
    rfl
  rw[e, ←ih]
  show ns.getD (if(decide (ns.getD (k+1) 0<ns.getD (argBest _ k) 0))=true then k+1 else argBest _ k) 0=_
  by_cases hc:ns.getD (k+1) 0<ns.getD (argBest (λi j=>decide (ns.getD i 0<ns.getD j 0)) k) 0
  ·rw[if_pos (by simpa using hc)];omega
  ·rw[if_neg (by simpa using hc)];omega
section
def WF (K:W.Frag)(f:List Int->Int):List V->Hp->VK->Prop:=λxs H Q=>∃ (a:Addr) (ns:List Int),xs=[.ref a]/\SqL K H a (ns.map V.int)/\0<ns.length/\Q (.int (f ns)) H
def Ul (rv:XX (ns.map V.int) its):∀(i:Nat) (v:Value),its.toArray[i]?=some v->∃t,v=Value.int (ns.getD i 0) t:=λi v hv=>by
 have im:its[i]?=some v:=by simpa using hv
 obtain⟨x,ex,rx⟩:=GL rv im
 rw[List.getElem?_map] at ex
 cases e:ns[i]? with
 |none=>rw[e] at ex;cases ex
 |some z=>
  rw[e] at ex
  have ik:V.int z=x:=Option.some.inj ex
  subst ik
  obtain⟨t,rfl⟩:=rx
  exact⟨t,by simp[List.getD,e]⟩
def Kh (K:W.Frag)(hK:X.K=K)(hc:X.calm=true):Qv X (.builtin "max") (WF K JC):=by
 subst hK
 intro aa s U H xs us Q I r h
 obtain⟨a,ns,rfl,hq,aN,q⟩:=h
 obtain⟨u,rfl,ru⟩:=Uh r
 cases ru
 obtain⟨its,rv,pl,hz⟩:=I.list hq
 have ae:its.length=ns.length:=by have:=rv.length;simpa using this.symm
 have ah:a<s.heap.objs.size:=by obtain⟨o,n,ho,_⟩:=pl;exact Heap.lt_size ho
 refine call_max_walk (wpAny_pyIter_list pl.isList ?_)
 refine⟨s.heap.objs.size,_,_,_,_,_,_,rfl,Walks.list (prog:=X.prog) (w:=X.w) (A:=X.A.in1) (I.ok.hd hc) s.heap.objs.size a (Nat.ne_of_lt ah) its.toArray,⟨⟨_,Heap.get?_push_size _ rfl,rfl,rfl⟩,pl.isList.at λo e=>Heap.get?_push_of_some _ e⟩,λb hb=>?_,by rw[List.size_toArray,ae];exact aN,CmpOf.ints_gt (λi=>ns.getD i 0) (Ul rv),λv h' tk hP hk=>?_⟩
 ·rcases List.mem_cons.mp hb with e |hb
  ·rw[e,Heap.size_push];exact Nat.lt_succ_self _
  ·rw[List.mem_singleton.mp hb,Heap.size_push];exact Nat.lt_succ_of_lt ah
 ·have I2:Inv X aa U H {s with heap:=h',toks:=tk}:=I.kept (t':=tk) λb o e=>hk b o (λhm=>by
   rw[List.mem_singleton.mp hm] at e
   exact absurd (Heap.lt_size e) (Nat.lt_irrefl _)) (Heap.get?_push_of_some _ e)
  obtain⟨t,rfl⟩:=Ul rv _ _ hP
  refine⟨.int (JC ns),H,I2,⟨t,?_⟩,q⟩
  rw[List.size_toArray,ae,Fa ns (ns.length-1) (by omega),show ns.length-1+1=ns.length by omega,List.take_length]
def N9 (K:W.Frag)(f:List Int->Int):List V->Hp->VK->Prop:=λxs H Q=>∃ (a:Addr) (ns:List Int),xs=[.ref a]/\SqT K H a (ns.map V.int)/\0<ns.length/\Q (.int (f ns)) H
def VR (K:W.Frag)(hK:X.K=K)(hc:X.calm=true):Qv X (.builtin "max") (N9 K JC):=by
 subst hK
 intro aa s U H xs us Q I r h
 obtain⟨a,ns,rfl,hq,aN,q⟩:=h
 obtain⟨u,rfl,ru⟩:=Uh r
 cases ru
 obtain⟨its,rv,pl,hz⟩:=I.tuple hq
 have ae:its.length=ns.length:=by have:=rv.length;simpa using this.symm
 have ah:a<s.heap.objs.size:=by obtain⟨o,ho,_⟩:=pl;exact Heap.lt_size ho
 refine call_max_walk (wpAny_pyIter_tuple pl ?_)
 refine⟨s.heap.objs.size,_,_,_,_,_,_,rfl,Walks.tuple (prog:=X.prog) (w:=X.w) (A:=X.A.in1) (I.ok.hd hc) s.heap.objs.size a (Nat.ne_of_lt ah) its.toArray,⟨⟨_,Heap.get?_push_size _ rfl,rfl,rfl⟩,(show s.heap.IsTuple a its.toArray from pl).at λo e=>Heap.get?_push_of_some _ e⟩,λb hb=>?_,by rw[List.size_toArray,ae];exact aN,CmpOf.ints_gt (λi=>ns.getD i 0) (Ul rv),λv h' tk hP hk=>?_⟩
 ·rcases List.mem_cons.mp hb with e |hb
  ·rw[e,Heap.size_push];exact Nat.lt_succ_self _
  ·rw[List.mem_singleton.mp hb,Heap.size_push];exact Nat.lt_succ_of_lt ah
 ·have I2:Inv X aa U H {s with heap:=h',toks:=tk}:=I.kept (t':=tk) λb o e=>hk b o (λhm=>by
   rw[List.mem_singleton.mp hm] at e
   exact absurd (Heap.lt_size e) (Nat.lt_irrefl _)) (Heap.get?_push_of_some _ e)
  obtain⟨t,rfl⟩:=Ul rv _ _ hP
  refine⟨.int (JC ns),H,I2,⟨t,?_⟩,q⟩
  rw[List.size_toArray,ae,Fa ns (ns.length-1) (by omega),show ns.length-1+1=ns.length by omega,List.take_length]
def Y0 (K:W.Frag)(h:X.K=K):SlR X (AE K):=by subst h;exact WR
end
inductive Pay where
 |non |int (i:Int) |tag (t:Str) (xs:List Int)
 deriving DecidableEq
structure Exc where
 cls:Str
 pay:Pay
inductive Rs (M:Type) where
 |bad |err (x:Exc) |ok (a:M)
def Rs.bind:Rs M->(M->Rs L)->Rs L
 | .bad,_=>.bad
 | .err x,_=>.err x
 | .ok a,f=>f a
def Rs.ok_bind (a:M)(f:M->Rs L):(Rs.ok a).bind f=f a:=rfl
def chk (c:Prop)[Decidable c](m:Rs M):Rs M:=if c then m else .bad
def Xj [Decidable c](h:c):chk c m=m:=if_pos h
abbrev XD:=Addr×HO
def TW:HO->Bool
 | .lst _=>true
 | .dK _=>true
 | .dT _=>true
 |_=>false
def fl (OO:List (List XD)):List Addr:=OO.flatten.map (·.1)
open Classical in
def hid (H:Hp)(OO:List (List XD)):Hp:=λb=>if b∈fl OO then none else H b
structure W (OO:List (List XD))(H:Hp):Prop where
 tr:∀c∈OO.flatten,H c.1=some c.2
 nd:(fl OO).Nodup
 mu:∀c∈OO.flatten,TW c.2=true
def XU {OO}(h:hid H OO b=some o):H b=some o/\b∉fl OO:=by
 unfold hid at h
 split at h
 ·cases h
 ·exact⟨h,by assumption⟩
def YS {OO}(h:H b=some o)(n:b∉fl OO):hid H OO b=some o:=by
 unfold hid;rw[if_neg n];exact h
def Xv {OO}:Xp (hid H OO) H:=λb o h=>(XU h).1
def Xh {OO}(s:Xp H H'):Xp (hid H OO) (hid H' OO):=λb o h=>YS (s _ _ (XU h).1) (XU h).2
def Zk {OO OO'}(s:Xp H H')(h:∀b,b∈fl OO'->b∈fl OO):Xp (hid H OO) (hid H' OO'):=λb o q=>YS (s _ _ (XU q).1) λz=>(XU q).2 (h b z)
def XG {OO}:fl (C::OO)=C.map (·.1)++fl OO:=by simp[fl]
def IV {OO}:fl ([]::OO)=fl OO:=by simp[fl]
def YK {OO}:hid H ([]::OO)=hid H OO:=by unfold hid;rw[IV]
def W.keep {OO}(w:W OO H)(s:Xp H H'):W OO H':=⟨λc hc=>s _ _ (w.tr c hc),w.nd,w.mu⟩
def W.of (w:W OO H)(h:OO'.flatten.Perm OO.flatten):W OO' H:=
 ⟨λc hc=>w.tr c (h.mem_iff.mp hc),(h.map _).nodup_iff.mpr w.nd,λc hc=>w.mu c (h.mem_iff.mp hc)⟩
def W.sub (w:W OO H)(h:OO'.flatten.Sublist OO.flatten):W OO' H:=
 ⟨λc hc=>w.tr c (h.mem hc),(h.map _).nodup w.nd,λc hc=>w.mu c (h.mem hc)⟩
def W.tail {C OO}(w:W (C::OO) H):W OO H:=w.sub (by simp)
def W.nil {OO}(w:W OO H):W ([]::OO) H:=w.of (by simp)
def W.cell {C OO}(w:W (C::OO) H):∀c∈C,H c.1=some c.2:=λc hc=>w.tr c (by simp[hc])
def UE (h:c∈OO.flatten):c.1∈fl OO:=List.mem_map.mpr ⟨c,h,rfl⟩
def H9 (h:b∈fl OO):∃o,(b,o)∈OO.flatten:=by
 obtain⟨⟨a,o⟩,hc,rfl⟩:=List.mem_map.mp h
 exact⟨o,hc⟩
def W.fresh {OO}(w:W OO H)(h:H p=none):p∉fl OO:=λz=>by
 obtain⟨o,ho⟩:=H9 z
 have:=w.tr _ ho
 rw[h] at this;cases this
def W.new {OO}(w:W OO H)(h:H p=none)(m:TW o=true):W ([(p,o)]::OO) (upd H p o):=by
 have hf:=w.fresh h
 refine⟨λc hc=>?_,?_,λc hc=>?_⟩
 ·simp only[List.flatten_cons,List.cons_append,List.nil_append,List.mem_cons] at hc
  rcases hc with rfl |hc
  ·exact Ym
  ·rw[XH (λe=>hf (by rw[←e];exact UE hc))];exact w.tr c hc
 ·rw[XG];simpa using ⟨hf,w.nd⟩
 ·simp only[List.flatten_cons,List.cons_append,List.nil_append,List.mem_cons] at hc
  rcases hc with rfl |hc
  ·exact m
  ·exact w.mu c hc
def Um {OO}(h:H p=none):Xp (hid H OO) (hid (upd H p o) ([(p,o)]::OO)):=λb u q=>by
 obtain⟨q1,q2⟩:=XU q
 have hb:b≠p:=XR q1 h
 refine YS (by rw[XH hb];exact q1) ?_
 rw[XG];simpa using ⟨hb,q2⟩
def Z8 {OO}(w:W OO H)(h:H p=none):hid (upd H p o) OO p=some o:=YS Ym (w.fresh h)
class MonoE {M:Type}(r:Enc M):Prop where
 mono:∀{K:W.Frag}{H H':Hp}{v:V}{a:M},Xp H H'->r K H v a->r K H' v a
def jc:HO->Bool
 | .tup _=>true
 | .frz _ _=>true
 |_=>false
def BN (H H':Hp):Prop:=∀ b o,H b=some o->jc o=true->H' b=some o
def Xp.i {H H':Hp}(s:Xp H H'):BN H H':=λb o h _=>s b o h
def W.i {OO}{H:Hp}(w:W OO H):BN H (hid H OO):=λb o h i=>YS h λz=>by
 obtain⟨u,hu⟩:=H9 z
 have h1:=w.tr _ hu
 have h2:=w.mu _ hu
 rw[h] at h1
 have e:o=u:=Option.some.inj h1
 subst e
 revert i h2;cases o<;> simp[jc,TW]
class FlatE {M:Type}(r:Enc M):Prop where
 flat:∀{K:W.Frag}{H H':Hp}{v:V}{a:M},BN H H'->r K H v a->r K H' v a
instance {M:Type}{r:Enc M}[f:FlatE r]:MonoE r:=⟨λs h=>f.flat s.i h⟩
def XI:Enc Bool:=λ_ _ v b=>v= .bl b
def Hm:Enc Str:=λ_ _ v x=>v= .str x
def UT (r:Enc M):Enc (Option M):=λK H v a=>match a with
 |none=>v= .non
 |some a=>v≠ .non/\r K H v a
def rV (r:Enc M):Enc (List M):=λK H v as=>∃ a xs,v= .ref a/\H a=some (.lst xs)/\Paired (r K H) xs as
def rPL (r:Enc M):Enc (List M):=λK H v as=>∃ a xs,v= .ref a/\H a=some (.tup xs)/\Paired (r K H) xs as
def rP2 (r:Enc M)(q:Enc L):Enc (M×L):=λK H v p=>∃ a x y,v= .ref a/\H a=some (.tup [x,y])/\r K H x p.1/\q K H y p.2
def rP3 (r:Enc M)(q:Enc L)(t:Enc B):Enc (M×L×B):=λK H v p=>∃ a x y z,v= .ref a/\H a=some (.tup [x,y,z])/\r K H x p.1/\q K H y p.2.1/\t K H z p.2.2
instance {M:Type}{r:Enc M}[m:MonoE r]:MonoE (rV r):=⟨λs r9=>by obtain⟨a,xs,e,q,p⟩:=r9;exact⟨a,xs,e,s _ _ q,Paired.imp2 (λ_ _ z=>m.mono s z) p⟩⟩
instance {M:Type}{r:Enc M}[m:MonoE r]:MonoE (rPL r):=⟨λs r9=>by obtain⟨a,xs,e,q,p⟩:=r9;exact⟨a,xs,e,s _ _ q,Paired.imp2 (λ_ _ z=>m.mono s z) p⟩⟩
instance {M:Type}{r:Enc M}[m:FlatE r]:FlatE (rPL r):=⟨λs r9=>by obtain⟨a,xs,e,q,p⟩:=r9;exact⟨a,xs,e,s _ _ q rfl,Paired.imp2 (λ_ _ z=>m.flat s z) p⟩⟩
instance {M L:Type}{r:Enc M}{q:Enc L}[m:MonoE r][n:MonoE q]:MonoE (rP2 r q):=⟨λs r9=>by obtain⟨a,x,y,e,h,p1,p2⟩:=r9;exact⟨a,x,y,e,s _ _ h,m.mono s p1,n.mono s p2⟩⟩
instance {M L:Type}{r:Enc M}{q:Enc L}[m:FlatE r][n:FlatE q]:FlatE (rP2 r q):=⟨λs r9=>by obtain⟨a,x,y,e,h,p1,p2⟩:=r9;exact⟨a,x,y,e,s _ _ h rfl,m.flat s p1,n.flat s p2⟩⟩
instance {M L B:Type}{r:Enc M}{q:Enc L}{t:Enc B}[m:MonoE r][n:MonoE q][k:MonoE t]:MonoE (rP3 r q t):=⟨λs r9=>by obtain⟨a,x,y,z,e,h,p1,p2,p3⟩:=r9;exact⟨a,x,y,z,e,s _ _ h,m.mono s p1,n.mono s p2,k.mono s p3⟩⟩
instance {M L B:Type}{r:Enc M}{q:Enc L}{t:Enc B}[m:FlatE r][n:FlatE q][k:FlatE t]:FlatE (rP3 r q t):=⟨λs r9=>by obtain⟨a,x,y,z,e,h,p1,p2,p3⟩:=r9;exact⟨a,x,y,z,e,s _ _ h rfl,m.flat s p1,n.flat s p2,k.flat s p3⟩⟩
instance:FlatE Xf:=⟨λ_ h=>h⟩
instance:FlatE XI:=⟨λ_ h=>h⟩
instance:FlatE Hm:=⟨λ_ h=>h⟩
instance {M:Type}{r:Enc M}[m:MonoE r]:MonoE (rL r):=⟨λs r9=>by obtain⟨a,xs,e,q,p⟩:=r9;exact⟨a,xs,e,s.seq q,Paired.imp2 (λ_ _ z=>m.mono s z) p⟩⟩
instance {M:Type}{r:Enc M}[m:MonoE r]:MonoE (UT r):=⟨fun {K H H' v a} s h=>by cases a with
 |none=>exact h
 |some a=>exact⟨h.1,m.mono s h.2⟩⟩
instance {M:Type}{r:Enc M}[m:FlatE r]:FlatE (UT r):=⟨fun {K H H' v a} s h=>by cases a with
 |none=>exact h
 |some a=>exact⟨h.1,m.flat s h.2⟩⟩
abbrev OE (M:Type):=W.Frag->Hp->V->M->List XD->Prop
inductive P3 {M L B:Type}(F:M->L->B->Prop):List M->List L->List B->Prop where
 |nil:P3 F [] [] []
 |cons {a b c l m n}:F a b c->P3 F l m n->P3 F (a::l) (b::m) (c::n)
def oF (r:Enc M):OE M:=λK h v a C=>C=[]/\r K h v a
def oL (o:OE M):OE (List M):=λK h v as C=>∃ p xs Cs,v= .ref p/\P3 (o K h) xs as Cs/\C=(p, .lst xs)::Cs.flatten
def oT2 (o:OE M)(q:OE L):OE (M×L):=λK h v a C=>∃ p x y C1 C2,v= .ref p/\h p=some (.tup [x,y])/\o K h x a.1 C1/\q K h y a.2 C2/\C=C1++C2
def R1 (o:OE M):OE (Option M):=λK h v a C=>match a with
 |none=>v= .non/\C=[]
 |some a=>v≠ .non/\o K h v a C
section
def P3.imp {F:M->L->B->Prop}(h:∀a b c,F a b c->G a b c):∀{l m n},P3 F l m n->P3 G l m n:=λp=>by
 induction p with
 |nil=>exact .nil
 |cons r _ ih=>exact .cons (h _ _ _ r) ih
def P3.app {F:M->L->B->Prop}:∀{l m n l' m' n'},P3 F l m n->P3 F l' m' n'->P3 F (l++l') (m++m') (n++n'):=λp h=>by
 induction p with
 |nil=>exact h
 |cons r _ ih=>exact .cons r ih
def P3.snoc {F:M->L->B->Prop}{l m n a b c}(h:P3 F l m n)(r:F a b c):P3 F (l++[a]) (m++[b]) (n++[c]):=h.app (.cons r .nil)
def P3.len {F:M->L->B->Prop}:∀{l m n},P3 F l m n->l.length=m.length/\n.length=m.length:=λp=>by
 induction p with
 |nil=>exact⟨rfl,rfl⟩
 |cons _ _ ih=>exact⟨congrArg Nat.succ ih.1,congrArg Nat.succ ih.2⟩
def P3.pair {F:M->L->B->Prop}:∀{l m n},P3 F l m n->(∀a b c,c∈n->F a b c->G a b)->Paired G l m:=λp h=>by
 induction p with
 |nil=>exact .nil
 |cons r _ ih=>exact .cons (h _ _ _ List.mem_cons_self r) (ih λa b c hc=>h a b c (List.mem_cons_of_mem _ hc))
def P3.get {F:M->L->B->Prop}:∀{l m n}{i:Nat}{b:L},P3 F l m n->m[i]?=some b->∃a c,l[i]?=some a/\n[i]?=some c/\F a b c
 |_,_,_,_,_, .nil,e=>by simp at e
 |_,_,_,0,_, .cons r _,e=>by simp at e;subst e;exact⟨_,_,rfl,rfl,r⟩
 |_,_,_,i+1,b, .cons _ t,e=>by
  obtain⟨a,c,h1,h2,h3⟩:=P3.get (i:=i) (b:=b) t (by simpa using e)
  exact⟨a,c,by simpa using h1,by simpa using h2,h3⟩
def P3.set {F:M->L->B->Prop}{a:M}{b:L}(r:F a b c):∀{l m n} (i:Nat),P3 F l m n->P3 F (l.set i a) (m.set i b) (n.set i c)
 |_,_,_,_, .nil=>.nil
 |_,_,_,0, .cons _ t=>.cons r t
 |_,_,_,i+1, .cons q t=>.cons q (P3.set r i t)
def P3.flat:∀{l:List M}{m:List L}{n:List (List XD)},P3 (λa b c=>c=[]/\F a b) l m n->Paired F l m/\n.flatten=[]:=λp=>by
 induction p with
 |nil=>exact⟨.nil,rfl⟩
 |cons r _ ih=>exact⟨.cons r.2 ih.1,by rw[List.flatten_cons,r.1,ih.2];rfl⟩
def P3.of:∀{l:List M}{m:List L},Paired F l m->P3 (λa b (c:List XD)=>c=[]/\F a b) l m (List.replicate m.length [])
 |_,_, .nil=>.nil
 |_,_, .cons r t=>.cons ⟨rfl,r⟩ (P3.of t)
def Yi:∀n:Nat,(List.replicate n ([]:List XD)).flatten=[]
 |0=>rfl
 |n+1=>by simp[List.replicate_succ,Yi n]
end
class MonoO {M:Type}(o:OE M):Prop where
 mono:∀{K:W.Frag}{H H':Hp}{v:V}{a:M}{C:List XD},Xp H H'->o K H v a C->o K H' v a C
class FlatO {M:Type}(o:OE M):Prop where
 flat:∀{K:W.Frag}{H H':Hp}{v:V}{a:M}{C:List XD},BN H H'->o K H v a C->o K H' v a C
class FrzC {M:Type}(o:OE M)(r:outParam (Enc M)):Prop where
 frz:∀{K:W.Frag}{H H':Hp}{v:V}{a:M}{C:List XD},o K H v a C->Xp H H'->(∀c∈C,H' c.1=some c.2)->r K H' v a
instance {M:Type}{r:Enc M}[m:MonoE r]:MonoO (oF r):=⟨λs h=>⟨h.1,m.mono s h.2⟩⟩
instance {M:Type}{r:Enc M}[m:FlatE r]:FlatO (oF r):=⟨λs h=>⟨h.1,m.flat s h.2⟩⟩
instance {M:Type}{r:Enc M}[m:MonoE r]:FrzC (oF r) r:=⟨λh s _=>m.mono s h.2⟩
instance {M:Type}{o:OE M}[m:MonoO o]:MonoO (oL o):=⟨λs r9=>by obtain⟨p,xs,Cs,e,q,c⟩:=r9;exact⟨p,xs,Cs,e,q.imp λ_ _ _ z=>m.mono s z,c⟩⟩
instance {M:Type}{o:OE M}[m:FlatO o]:FlatO (oL o):=⟨λs r9=>by obtain⟨p,xs,Cs,e,q,c⟩:=r9;exact⟨p,xs,Cs,e,q.imp λ_ _ _ z=>m.flat s z,c⟩⟩
instance {M:Type}{o:OE M}{r:Enc M}[m:FrzC o r]:FrzC (oL o) (rV r):=⟨λ⟨p,xs,Cs,e,q,c⟩ s hc=>by
 subst c
 exact⟨p,xs,e,hc _ List.mem_cons_self,q.pair λa b c hm z=>m.frz z s λx hx=>hc x (List.mem_cons_of_mem _ (List.mem_flatten.mpr ⟨c,hm,hx⟩))⟩⟩
instance {M L:Type}{o:OE M}{q:OE L}[m:MonoO o][n:MonoO q]:MonoO (oT2 o q):=⟨λs r9=>by obtain⟨p,x,y,C1,C2,e,h,h1,h2,c⟩:=r9;exact⟨p,x,y,C1,C2,e,s _ _ h,m.mono s h1,n.mono s h2,c⟩⟩
instance {M L:Type}{o:OE M}{q:OE L}[m:FlatO o][n:FlatO q]:FlatO (oT2 o q):=⟨λs r9=>by obtain⟨p,x,y,C1,C2,e,h,h1,h2,c⟩:=r9;exact⟨p,x,y,C1,C2,e,s _ _ h rfl,m.flat s h1,n.flat s h2,c⟩⟩
instance {M L:Type}{o:OE M}{q:OE L}{r:Enc M}{t:Enc L}[m:FrzC o r][n:FrzC q t]:FrzC (oT2 o q) (rP2 r t):=⟨λ⟨p,x,y,C1,C2,e,h,h1,h2,c⟩ s hc=>by
 subst c
 exact⟨p,x,y,e,s _ _ h,m.frz h1 s λc hm=>hc c (by simp[hm]),n.frz h2 s λc hm=>hc c (by simp[hm])⟩⟩
instance {M:Type}{o:OE M}[m:MonoO o]:MonoO (R1 o):=⟨fun {K H H' v a C} s h=>by cases a with
 |none=>exact h
 |some a=>exact⟨h.1,m.mono s h.2⟩⟩
instance {M:Type}{o:OE M}[m:FlatO o]:FlatO (R1 o):=⟨fun {K H H' v a C} s h=>by cases a with
 |none=>exact h
 |some a=>exact⟨h.1,m.flat s h.2⟩⟩
instance {M:Type}{o:OE M}{r:Enc M}[m:FrzC o r]:FrzC (R1 o) (UT r):=⟨fun {K H H' v a C} h s hc=>by cases a with
 |none=>exact h.1
 |some a=>exact⟨h.1,m.frz h.2 s hc⟩⟩
structure SC where
 p:Hp->Prop
 mono:∀h h',Xp h h'->p h->p h'
def SC.nil:SC:=⟨λ_=>True,λ_ _ _ _=>True.intro⟩
def SC.and (S T:SC):SC:=⟨λh=>S.p h/\T.p h,λ_ _ s q=>⟨S.mono _ _ s q.1,T.mono _ _ s q.2⟩⟩
def SC.one (K:W.Frag)(r:Enc M)[m:MonoE r](v:V)(a:M):SC:=⟨λh=>r K h v a,λ_ _ s q=>m.mono s q⟩
def SC.oneO (K:W.Frag)(o:OE M)[m:MonoO o](v:V)(a:M)(C:List XD):SC:=⟨λh=>o K h v a C,λ_ _ s q=>m.mono s q⟩
abbrev SC.add (S:SC)(K:W.Frag)(r:Enc M)[m:MonoE r](v:V)(a:M):SC:=S.and (SC.one K r v a)
abbrev SC.addO (S:SC)(K:W.Frag)(o:OE M)[m:MonoO o](v:V)(a:M)(C:List XD):SC:=S.and (SC.oneO K o v a C)
def SC.l {S T:SC}{h:Hp}(q:(S.and T).p h):S.p h:=q.1
def SC.r {S:SC}(q:(S.and T).p h):T.p h:=q.2
def SC.i {S T:SC}{h:Hp}(q:S.p h)(p:T.p h):(S.and T).p h:=⟨q,p⟩
def SC.t {h:Hp}:SC.nil.p h:=True.intro
def SC.p.l {S T:SC}{h:Hp}(q:(S.and T).p h):S.p h:=q.1
def SC.p.r {S T:SC}{h:Hp}(q:(S.and T).p h):T.p h:=q.2
def PZ (Er:Exc->Hp->Prop)(F:L->Hp->Prop)(H:Hp)(m:Rs L):Prop:=
 match m with
 | .bad=>False
 | .err x=>∀ H',Xp H H'->Er x H'
 | .ok b=>F b H
section
variable (K:W.Frag)(Er:Exc->Hp->Prop)(S:SC)(OO OO':List (List XD))(U:St)
def FB (r:Enc M)(Q:VK)(a:M)(H:Hp):Prop:=∀ v H',Xp H H'->r K H' v a->Q v H'
def FO (o:OE M)(Q:VK)(a:M)(H:Hp):Prop:=∀ v C H',Xp H H'->W (C::OO') H'->Xp (hid H OO) (hid H' (C::OO'))->o K (hid H' (C::OO')) v a C->Q v H'
def FT (Q:Bool->Hp->Prop)(b:Bool)(H:Hp):Prop:=∀ H',Xp H H'->Q b H'
def EvB (te:TE)(r:Enc M)(m:Rs M):Prop:=∀ H Q,W OO H->S.p (hid H OO)->PZ Er (FB K r Q) H m->te U H Q
def Ev (te:TE)(o:OE M)(m:Rs M):Prop:=∀ H Q,W OO H->S.p (hid H OO)->PZ Er (FO K OO OO' o Q) H m->te U H Q
def EvT (tt:TT)(m:Rs Bool):Prop:=∀ H Q,W OO H->S.p (hid H OO)->PZ Er (FT Q) H m->tt U H Q
end
section
variable {Er:Exc->Hp->Prop}{S:SC}{OO OO' bp:List (List XD)}
def FB.tr {Q:VK}:∀a H H',Xp H H'->FB K r Q a H->FB K r Q a H':=λa H H' s h v H2 s2 q=>h v H2 (s.trans s2) q
def FO.tr {Q:VK}:∀a H H',Xp H H'->FO K OO OO' o Q a H->FO K OO OO' o Q a H':=λa H H' s h v C H2 s2 w m q=>h v C H2 (s.trans s2) w ((Xh s).trans m) q
def FT.tr {Q:Bool->Hp->Prop}:∀b H H',Xp H H'->FT Q b H->FT Q b H':=λa H H' s h H2 s2=>h H2 (s.trans s2)
def EvB.run (he:EvB K Er S OO U te r m){Q:VK}(w:W OO H)(s:S.p (hid H OO)){F:L->Hp->Prop}(hF:∀b H H',Xp H H'->F b H->F b H')(P:PZ Er F H (m.bind f))
  (hk:∀a v H',Xp H H'->W OO H'->S.p (hid H' OO)->r K H' v a->PZ Er F H' (f a)->Q v H'):te U H Q:=by
 refine he H Q w s ?_
 cases m with
 |bad=>exact P
 |err x=>exact P
 |ok a=>
  intro v H' s' hr
  refine hk a v H' s' (w.keep s') (S.mono _ _ (Xh s') s) hr ?_
  have P':PZ Er F H (f a):=P
  revert P'
  cases f a with
  |bad=>exact λz=>z
  |err x=>exact λz H2 s2=>z H2 (s'.trans s2)
  |ok b=>exact λz=>hF b H H' s' z
def EvT.run (he:EvT Er S OO U tt m){Q:Bool->Hp->Prop}(w:W OO H)(s:S.p (hid H OO)){F:L->Hp->Prop}(hF:∀b H H',Xp H H'->F b H->F b H')(P:PZ Er F H (m.bind f))
  (hk:∀b H',Xp H H'->W OO H'->S.p (hid H' OO)->PZ Er F H' (f b)->Q b H'):tt U H Q:=by
 refine he H Q w s ?_
 cases m with
 |bad=>exact P
 |err x=>exact P
 |ok a=>
  intro H' s'
  refine hk a H' s' (w.keep s') (S.mono _ _ (Xh s') s) ?_
  have P':PZ Er F H (f a):=P
  revert P'
  cases f a with
  |bad=>exact λz=>z
  |err x=>exact λz H2 s2=>z H2 (s'.trans s2)
  |ok b=>exact λz=>hF b H H' s' z
def Ev.toB [z:FrzC o r](he:Ev K Er S OO OO U te o m):EvB K Er S OO U te r m:=λH Q w s P=>by
 refine he H Q w s ?_
 cases m with
 |bad=>exact P
 |err x=>exact P
 |ok a=>exact λv C H' s' w' m' ho=>P v H' s' (z.frz ho Xv w'.cell)
def Ev.frz [z:FrzC o r](he:Ev K Er S OO OO' U te o m):Ev K Er S OO OO' U te (oF r) m:=λH Q w s P=>by
 refine he H Q w s ?_
 cases m with
 |bad=>exact P
 |err x=>exact P
 |ok a=>
  intro v C H' s' w' m' ho
  have hs:Xp (hid H' (C::OO')) (hid H' ([]::OO')):=Zk (Xp.refl _) λb hb=>by rw[IV] at hb;rw[XG];simp[hb]
  refine P v [] H' s' w'.tail.nil (m'.trans hs) ⟨rfl,z.frz ho hs λc hc=>YS (w'.cell c hc) ?_⟩
  rw[IV]
  have:=w'.nd
  rw[XG] at this
  intro hb
  exact(List.nodup_append.mp this).2.2 c.1 (List.mem_map.mpr ⟨c,hc,rfl⟩) c.1 hb rfl
def EvB.flat {te:TE}{r:Enc M}[z:FlatE r]{m:Rs M}(he:EvB K Er S OO U te r m):Ev K Er S OO OO U te (oF r) m:=λH Q w s P=>by
 refine he H Q w s ?_
 cases m with
 |bad=>exact P
 |err x=>exact P
 |ok a=>
  intro v H' s' hr
  have w':=w.keep s'
  exact P v [] H' s' w'.nil (by rw[YK];exact Xh s') ⟨rfl,by rw[YK];exact z.flat w'.i hr⟩
def S4 [z:MonoE r]{a:M}(i:Nat)(hσ:U[i]?=some (some v))(h:∀x,S.p x->r K x v a):EvB K Er S OO U (JP i) r (.ok a):=λH Q w s P=>
 ⟨v,hσ,P v H (Xp.refl _) (z.mono Xv (h _ s))⟩
def Rz [z:FrzC o r]{a:M}(i k:Nat)(hσ:U[i]?=some (some v))(hk:OO[k]?=some C)(h:∀x,S.p x->o K x v a C):EvB K Er S OO U (JP i) r (.ok a):=λH Q w s P=>
 ⟨v,hσ,P v H (Xp.refl _) (z.frz (h _ s) Xv λc hc=>w.tr c (List.mem_flatten.mpr ⟨C,List.mem_of_getElem? hk,hc⟩))⟩
def XN:∀{OO:List (List XD)}{k:Nat}{C:List XD},OO[k]?=some C->(C::OO.set k []).flatten.Perm OO.flatten
 | [],_,_,h=>by simp at h
 |D::OO,0,C,h=>by simp at h;subst h;simp
 |D::OO,k+1,C,h=>by
  have:=XN (OO:=OO) (k:=k) (C:=C) (by simpa using h)
  simp only[List.set_cons_succ,List.flatten_cons] at this⊢
  refine List.Perm.trans ?_ (this.append_left D)
  rw[←List.append_assoc, ←List.append_assoc]
  exact List.perm_append_comm.append_right _
def Uo {OO OO':List (List XD)}(h:OO'.flatten.Perm OO.flatten)(b:Addr):b∈fl OO'↔b∈fl OO:=(h.map (·.1)).mem_iff
def XE {OO OO':List (List XD)}(h:OO'.flatten.Perm OO.flatten):hid H OO'=hid H OO:=by
 funext b;unfold hid
 by_cases hb:b∈fl OO
 ·rw[if_pos hb,if_pos ((Uo h b).mpr hb)]
 ·rw[if_neg hb,if_neg λz=>hb ((Uo h b).mp z)]
def RF {a:M}(i k:Nat)(hσ:U[i]?=some (some v))(hk:OO[k]?=some C)(h:∀x,S.p x->o K x v a C):Ev K Er S OO (OO.set k []) U (JP i) o (.ok a):=λH Q w s P=>by
 have hp:=XN hk
 exact⟨v,hσ,P v C H (Xp.refl _) (w.of hp) (by rw[XE hp];exact Xp.refl _) (by rw[XE hp];exact h _ s)⟩
def SY (n:Int):EvB K Er S OO U (tC (.int n)) Xf (.ok n):=λH Q w s P=>P _ H (Xp.refl _) rfl
def W1 (b:Bool):EvB K Er S OO U (tC (.bl b)) XI (.ok b):=λH Q w s P=>P _ H (Xp.refl _) rfl
def Tn (x:Str):EvB K Er S OO U (tC (.str x)) Hm (.ok x):=λH Q w s P=>P _ H (Xp.refl _) rfl
def TY:Ev K Er S OO OO U (tC .non) (R1 o) (.ok none):=λH Q w s P=>P _ [] H (Xp.refl _) w.nil (by rw[YK];exact Xp.refl _) ⟨rfl,rfl⟩
def KU {g:Int->Int->V}{r:Enc L}{f:Int->Int->L}{ma mb:Rs Int}(hg:∀K H i j,r K H (g i j) (f i j))(ha:EvB K Er S OO U ta Xf ma)(hb:EvB K Er S OO U tb Xf mb):
  EvB K Er S OO U (tOp (rI0 g) ta tb) r (ma.bind λa=>mb.bind λb=>.ok (f a b)):=λH Q w s P=>
 ha.run w s FB.tr P λa x H1 s1 w1 q1 r1 P1=>hb.run w1 q1 FB.tr P1 λb y H2 s2 w2 q2 r2 P2=>⟨a,b,r1,r2,P2 _ H2 (Xp.refl _) (hg K H2 a b)⟩
def F6 {Cc:Int->Int->Prop}{g:Int->Int->V}{r:Enc L}{f:Int->Int->Rs L}{ma mb:Rs Int}(hg:∀K H i j c,f i j= .ok c->Cc i j/\r K H (g i j) c)(he:∀i j x,f i j≠ .err x)
  (ha:EvB K Er S OO U ta Xf ma)(hb:EvB K Er S OO U tb Xf mb):
  EvB K Er S OO U (tOp (rI Cc g) ta tb) r (ma.bind λa=>mb.bind λb=>f a b):=λH Q w s P=>
 ha.run w s FB.tr P λa x H1 s1 w1 q1 r1 P1=>hb.run w1 q1 FB.tr P1 λb y H2 s2 w2 q2 r2 P2=>by
  cases e:f a b with
  |bad=>rw[e] at P2;exact P2.elim
  |err x=>exact absurd e (he a b x)
  |ok c=>
   rw[e] at P2
   obtain⟨h1,h2⟩:=hg K H2 a b c e
   exact⟨a,b,r1,r2,h1,P2 _ H2 (Xp.refl _) h2⟩
def Nv (a b:Int):Rs Int:=chk ((-(2^64)<a/\a<2^64)∨(-(2^64)<b/\b<2^64)) (.ok (a*b))
def Ag (a b:Int):Rs Int:=chk (0<b) (.ok (a % b))
def qg (a b:Int):Rs Int:=chk (0<b/\b.natAbs.log2<9000) (.ok (a/b))
def Az (a b:Int):Rs Int:=chk (0<=b/\b<=1000000/\a.natAbs<2^64) (.ok (a^b.toNat))
def Zc [Decidable c]{a:M}(h:chk c m= .ok a):c/\m= .ok a:=by
 unfold chk at h;split at h
 ·exact⟨by assumption,h⟩
 ·cases h
def QE [Decidable c]{a:M}{x:Exc}:chk c (Rs.ok a)≠ .err x:=by
 unfold chk;split<;> exact λz=>nomatch z
def Jl {ma mb:Rs Int}(ha:EvB K Er S OO U ta Xf ma)(hb:EvB K Er S OO U tb Xf mb):EvB K Er S OO U (tOp (rI TV λi j=>.int (i*j)) ta tb) Xf (ma.bind λa=>mb.bind λb=>Nv a b):=
 F6 (λK H i j c h=>by obtain⟨h1,h2⟩:=Zc h;cases h2;exact⟨h1,rfl⟩) (λi j x=>QE) ha hb
def RU {ma mb:Rs Int}(ha:EvB K Er S OO U ta Xf ma)(hb:EvB K Er S OO U tb Xf mb):EvB K Er S OO U (tOp (rI (λ_ j=>0<j) λi j=>.int (i % j)) ta tb) Xf (ma.bind λa=>mb.bind λb=>Ag a b):=
 F6 (λK H i j c h=>by obtain⟨h1,h2⟩:=Zc h;cases h2;exact⟨h1,rfl⟩) (λi j x=>QE) ha hb
def R8 {ma mb:Rs Int}(ha:EvB K Er S OO U ta Xf ma)(hb:EvB K Er S OO U tb Xf mb):EvB K Er S OO U (tOp (rI (λ_ j=>0<j/\j.natAbs.log2<9000) λi j=>.int (i/j)) ta tb) Xf (ma.bind λa=>mb.bind λb=>qg a b):=
 F6 (λK H i j c h=>by obtain⟨h1,h2⟩:=Zc h;cases h2;exact⟨h1,rfl⟩) (λi j x=>QE) ha hb
def RL {ma mb:Rs Int}(ha:EvB K Er S OO U ta Xf ma)(hb:EvB K Er S OO U tb Xf mb):EvB K Er S OO U (tOp (rI qx λi j=>.int (i^j.toNat)) ta tb) Xf (ma.bind λa=>mb.bind λb=>Az a b):=
 F6 (λK H i j c h=>by obtain⟨h1,h2⟩:=Zc h;cases h2;exact⟨h1,rfl⟩) (λi j x=>QE) ha hb
def Bk {ma mb:Rs Int}(ha:EvB K Er S OO U ta Xf ma)(hb:EvB K Er S OO U tb Xf mb):EvB K Er S OO U (tOp (rI0 λi j=>.int (i+j)) ta tb) Xf (ma.bind λa=>mb.bind λb=>.ok (a+b)):=KU (λ_ _ _ _=>rfl) ha hb
def K3 {ma mb:Rs Int}(ha:EvB K Er S OO U ta Xf ma)(hb:EvB K Er S OO U tb Xf mb):EvB K Er S OO U (tOp (rI0 λi j=>.int (i-j)) ta tb) Xf (ma.bind λa=>mb.bind λb=>.ok (a-b)):=KU (λ_ _ _ _=>rfl) ha hb
def MK {ma mb:Rs Int}(ha:EvB K Er S OO U ta Xf ma)(hb:EvB K Er S OO U tb Xf mb):EvB K Er S OO U (tOp (rI0 λi j=>.bl (decide (i<j))) ta tb) XI (ma.bind λa=>mb.bind λb=>.ok (decide (a<b))):=KU (λ_ _ _ _=>rfl) ha hb
def Wq {ma mb:Rs Int}(ha:EvB K Er S OO U ta Xf ma)(hb:EvB K Er S OO U tb Xf mb):EvB K Er S OO U (tOp (rI0 λi j=>.bl (decide (i<=j))) ta tb) XI (ma.bind λa=>mb.bind λb=>.ok (decide (a<=b))):=KU (λ_ _ _ _=>rfl) ha hb
def PH {ma mb:Rs Int}(ha:EvB K Er S OO U ta Xf ma)(hb:EvB K Er S OO U tb Xf mb):EvB K Er S OO U (tOp (rI0 λi j=>.bl (decide (j<i))) ta tb) XI (ma.bind λa=>mb.bind λb=>.ok (decide (b<a))):=KU (λ_ _ _ _=>rfl) ha hb
def FN (ha:EvB K Er S OO U ta Xf ma):EvB K Er S OO U (tUn (rU λi=>.int (-i)) ta) Xf (ma.bind λa=>.ok (-a)):=λH Q w s P=>
 ha.run w s FB.tr P λa x H1 s1 w1 q1 r1 P1=>⟨a,r1,P1 _ H1 (Xp.refl _) rfl⟩
class Scal {M:Type}[DecidableEq M](r:Enc M):Prop where
 to:∀{K:W.Frag}{H H':Hp}{x y:V}{a b:M},r K H x a->r K H' y b->qm x y=true/\decide (x=y)=decide (a=b)
instance:Scal Xf:=⟨fun {K H H' x y a b} h1 h2=>by cases(show x= .int a from h1);cases(show y= .int b from h2);exact⟨rfl,by simp⟩⟩
instance:Scal XI:=⟨fun {K H H' x y a b} h1 h2=>by cases(show x= .bl a from h1);cases(show y= .bl b from h2);exact⟨rfl,by simp⟩⟩
instance:Scal Hm:=⟨fun {K H H' x y a b} h1 h2=>by cases(show x= .str a from h1);cases(show y= .str b from h2);exact⟨rfl,by simp⟩⟩
def JX [DecidableEq M]{r:Enc M}[z:Scal r][MonoE r]{ma mb:Rs M}(ha:EvB K Er S OO U ta r ma)(hb:EvB K Er S OO U tb r mb):EvB K Er S OO U (tOp rEq ta tb) XI (ma.bind λa=>mb.bind λb=>.ok (decide (a=b))):=λH Q w s P=>
 ha.run w s FB.tr P λa x H1 s1 w1 q1 r1 P1=>hb.run w1 q1 FB.tr P1 λb y H2 s2 w2 q2 r2 P2=>by
  obtain⟨h1,h2⟩:=z.to r1 r2
  exact⟨h1,P2 _ H2 (Xp.refl _) (by rw[h2];rfl)⟩
def EF [DecidableEq M]{r:Enc M}[z:Scal r][MonoE r]{ma mb:Rs M}(ha:EvB K Er S OO U ta r ma)(hb:EvB K Er S OO U tb r mb):EvB K Er S OO U (tOp rNe ta tb) XI (ma.bind λa=>mb.bind λb=>.ok (!decide (a=b))):=λH Q w s P=>
 ha.run w s FB.tr P λa x H1 s1 w1 q1 r1 P1=>hb.run w1 q1 FB.tr P1 λb y H2 s2 w2 q2 r2 P2=>by
  obtain⟨h1,h2⟩:=z.to r1 r2
  exact⟨h1,P2 _ H2 (Xp.refl _) (by rw[h2];rfl)⟩
def S7 [DecidableEq M]{r:Enc M}[z:MonoE r]{ma mb:Rs M}(ha:EvB K Er S OO U ta r ma)(hb:EvB K Er S OO U tb r mb):EvB K Er S OO U (tOp (Av K r) ta tb) XI (ma.bind λa=>mb.bind λb=>.ok (decide (a=b))):=λH Q w s P=>
 ha.run w s FB.tr P λa x H1 s1 w1 q1 r1 P1=>hb.run w1 q1 FB.tr P1 λb y H2 s2 w2 q2 r2 P2=>⟨a,b,z.mono s2 r1,r2,P2 _ H2 (Xp.refl _) rfl⟩
def Lz [DecidableEq M]{r:Enc M}[z:MonoE r]{ma mb:Rs M}(ha:EvB K Er S OO U ta r ma)(hb:EvB K Er S OO U tb r mb):EvB K Er S OO U (tOp (As K r) ta tb) XI (ma.bind λa=>mb.bind λb=>.ok (!decide (a=b))):=λH Q w s P=>
 ha.run w s FB.tr P λa x H1 s1 w1 q1 r1 P1=>hb.run w1 q1 FB.tr P1 λb y H2 s2 w2 q2 r2 P2=>⟨a,b,z.mono s2 r1,r2,P2 _ H2 (Xp.refl _) rfl⟩
def DB (h:EvB K Er S OO U te XI m):EvT Er S OO U (tB te) m:=λH Q w s P=>h H _ w s (by
 cases m with
 |bad=>exact P
 |err x=>exact P
 |ok a=>exact λv H' s' r=>⟨a,r,P H' s'⟩)
def XY (h:EvB K Er S OO U te XI m):EvT Er S OO U (OD te) m:=DB h
def BW (h:EvT Er S OO U t m):EvT Er S OO U (A0 t) (m.bind λb=>.ok (!b)):=λH Q w s P=>h.run w s FT.tr P λb H1 s1 w1 q1 P1=>P1 H1 (Xp.refl _)
def Pj (a b:Rs Bool):Rs Bool:=a.bind λx=>if x=true then b else .ok false
def orR (a b:Rs Bool):Rs Bool:=a.bind λx=>if x=true then .ok true else b
def Tp {u:TT}{n:Rs Bool}(h:EvT Er S OO U t m)(k:EvT Er S OO U u n):EvT Er S OO U (AS t u) (Pj m n):=λH Q w s P=>h.run w s FT.tr P λb H1 s1 w1 q1 P1=>by
 cases b with
 |true=>rw[if_pos rfl] at P1⊢;exact k H1 Q w1 q1 P1
 |false=>exact P1 H1 (Xp.refl _)
def Nq {u:TT}{n:Rs Bool}(h:EvT Er S OO U t m)(k:EvT Er S OO U u n):EvT Er S OO U (tOr t u) (orR m n):=λH Q w s P=>h.run w s FT.tr P λb H1 s1 w1 q1 P1=>by
 cases b with
 |true=>exact P1 H1 (Xp.refl _)
 |false=>exact k H1 Q w1 q1 P1
def EZ {u:TE}{n:Rs Bool}(h:EvB K Er S OO U t XI m)(k:EvB K Er S OO U u XI n):EvB K Er S OO U (S6 t u) XI (Pj m n):=λH Q w s P=>h.run w s FB.tr P λb x H1 s1 w1 q1 r1 P1=>⟨b,r1,by
 cases b with
 |true=>rw[if_pos rfl] at P1⊢;exact k H1 Q w1 q1 P1
 |false=>exact P1 _ H1 (Xp.refl _) rfl⟩
def WX (hc:EvT Er S OO U c mc)(ha:Ev K Er S OO OO' U ta o ma)(hb:Ev K Er S OO OO' U tb o mb):Ev K Er S OO OO' U (tIf c ta tb) o (mc.bind λb=>if b=true then ma else mb):=λH Q w s P=>
 hc.run w s FO.tr P λb H1 s1 w1 q1 P1=>by
  cases b with
  |true=>rw[if_pos rfl] at P1⊢;exact ha H1 Q w1 q1 P1
  |false=>exact hb H1 Q w1 q1 P1
end
end L2
variable {S:L2.SC}{r:L2.Enc M}{r0:L2.Enc α0}{r1:L2.Enc α1}{r2:L2.Enc α2}{r3:L2.Enc α3}{r4:L2.Enc α4}{r5:L2.Enc α5}{OO OO' OO1 bp Cs:List (List L2.XD)}{Er:L2.Exc->L2.Hp->Prop}{C Cx_ Cy:List L2.XD}{o:L2.OE M}{ma m:L2.Rs (List M)}{mb mi mk:L2.Rs Int}{mc:L2.Rs Bool}{f:M->L2.Rs L}{tb_:L2.TS}
namespace L2
open PySem PySem.Spec PyProof.Rows
section
variable (K:W.Frag)(Er:Exc->Hp->Prop)(S:SC)(OO:List (List XD))(U:St)
def FS (r:Enc M)(Q:VK)(a:M)(H:Hp):Prop:=∀ v H',Xp H H'->r K (hid H' OO) v a->Q v H'
def EvS (te:TE)(r:Enc M)(m:Rs M):Prop:=∀ H Q,W OO H->S.p (hid H OO)->PZ Er (FS K OO r Q) H m->te U H Q
def rE (r:Enc M)(H:Hp)(v:V)(as:List M):Prop:=∃ p xs,v= .ref p/\H p=some (.lst xs)/\Paired (r K (hid H OO)) xs as
def FL (r:Enc M)(Q:VK)(as:List M)(H:Hp):Prop:=∀ v H',Xp H H'->rE K OO r H' v as->Q v H'
def EvL (te:TE)(r:Enc M)(m:Rs (List M)):Prop:=∀ H Q,W OO H->S.p (hid H OO)->PZ Er (FL K OO r Q) H m->te U H Q
end
section
def FS.tr {Q:VK}:∀a H H',Xp H H'->FS K OO r Q a H->FS K OO r Q a H':=λa H H' s h v H2 s2 q=>h v H2 (s.trans s2) q
def PZ.run {F:L->Hp->Prop}{a:M}{m:Rs M}(hm:m= .ok a)(hF:∀b H H',Xp H H'->F b H->F b H')(s:Xp H H')(P:PZ Er F H (m.bind f)):PZ Er F H' (f a):=by
 subst hm
 have P':PZ Er F H (f a):=P
 revert P'
 cases f a with
 |bad=>exact λz=>z
 |err x=>exact λz H2 s2=>z H2 (s.trans s2)
 |ok b=>exact λz=>hF b H H' s z
def EvS.run {m:Rs M}(he:EvS K Er S OO U te r m){Q:VK}(w:W OO H)(s:S.p (hid H OO)){F:L->Hp->Prop}(hF:∀b H H',Xp H H'->F b H->F b H')(P:PZ Er F H (m.bind f))
  (hk:∀a v H',Xp H H'->W OO H'->S.p (hid H' OO)->r K (hid H' OO) v a->PZ Er F H' (f a)->Q v H'):te U H Q:=by
 refine he H Q w s ?_
 cases e:m with
 |bad=>rw[e] at P;exact P
 |err x=>rw[e] at P;exact P
 |ok a=>exact λv H' s' hr=>hk a v H' s' (w.keep s') (S.mono _ _ (Xh s') s) hr (PZ.run e hF s' P)
def EvL.run (he:EvL K Er S OO U te r m){Q:VK}(w:W OO H)(s:S.p (hid H OO)){f:List M->Rs L}{F:L->Hp->Prop}(hF:∀b H H',Xp H H'->F b H->F b H')(P:PZ Er F H (m.bind f))
  (hk:∀a v H',Xp H H'->W OO H'->S.p (hid H' OO)->rE K OO r H' v a->PZ Er F H' (f a)->Q v H'):te U H Q:=by
 refine he H Q w s ?_
 cases e:m with
 |bad=>rw[e] at P;exact P
 |err x=>rw[e] at P;exact P
 |ok a=>exact λv H' s' hr=>hk a v H' s' (w.keep s') (S.mono _ _ (Xh s') s) hr (PZ.run e hF s' P)
def PZ.imp {F:L->Hp->Prop}{m:Rs L}(P:PZ Er F H m)(h:∀b,m= .ok b->F b H->G b H):PZ Er G H m:=by
 cases m with
 |bad=>exact P
 |err x=>exact P
 |ok b=>exact h b rfl P
def EvS.ev {m:Rs M}(he:EvS K Er S OO U te r m):Ev K Er S OO OO U te (oF r) m:=λH Q w s P=>he H Q w s (P.imp λb _ h v H' s' q=>
 h v [] H' s' (w.keep s').nil (by rw[YK];exact Xh s') ⟨rfl,by rw[YK];exact q⟩)
def EvB.sh [z:FlatE r]{m:Rs M}(he:EvB K Er S OO U te r m):EvS K Er S OO U te r m:=λH Q w s P=>he H Q w s (P.imp λb _ h v H' s' q=>h v H' s' (z.flat (w.keep s').i q))
def Ev.sh [z:FrzC o r]{m:Rs M}(he:Ev K Er S OO OO U te o m):EvS K Er S OO U te r m:=λH Q w s P=>he.frz H Q w s (P.imp λb _ h v C H' s' w' m' q=>by
 obtain⟨rfl,q⟩:=q
 rw[YK] at q
 exact h v H' s' q)
def Tq {a:M}(i:Nat)(hσ:U[i]?=some (some v))(h:∀x,S.p x->r K x v a):EvS K Er S OO U (JP i) r (.ok a):=λH Q w s P=>⟨v,hσ,P v H (Xp.refl _) (h _ s)⟩
def EvS.ls (he:EvS K Er S OO U te (rV r) m):EvL K Er S OO U te r m:=λH Q w s P=>he H Q w s (P.imp λb _ h v H' s' r9=>by obtain⟨p,xs,e,q,pr⟩:=r9;exact h v H' s' ⟨p,xs,e,Xv _ _ q,pr⟩)
def EvB.ls [z:FlatE r](he:EvB K Er S OO U te (rV r) m):EvL K Er S OO U te r m:=λH Q w s P=>he H Q w s (P.imp λb _ h v H' s' r9=>by obtain⟨p,xs,e,q,pr⟩:=r9;exact h v H' s' ⟨p,xs,e,q,Paired.imp2 (λ_ _ z'=>z.flat (w.keep s').i z') pr⟩)
def Ev.ls [z:MonoE r](he:Ev K Er S OO OO U te (oL (oF r)) m):EvL K Er S OO U te r m:=he.sh.ls
def atR (as:List M)(i:Int):Rs M:=match atI as i with
 |some a=>.ok a
 |none=>.bad
def CC {a:M}(h:atR as i= .ok a):atI as i=some a:=by
 unfold atR at h;split at h
 ·cases h;assumption
 ·cases h
def KS {x:Exc}:atR as i≠ .err x:=by unfold atR;split<;> exact λz=>nomatch z
def JN {F:V->M->Prop}{a:M}(p:Paired F xs as)(h:atI as i=some a):∃x,atI xs i=some x/\F x a:=by
 unfold atI at h⊢
 rw[Paired.len p]
 cases e:ixN as.length i with
 |none=>rw[e] at h;cases h
 |some j=>
  rw[e] at h
  obtain⟨x,h1,h2⟩:=Paired.getR p h
  exact⟨x,h1,h2⟩
def PZ.okOf {F:L->Hp->Prop}{m:Rs L}(he:∀x,m≠ .err x)(P:PZ Er F H m):∃b,m= .ok b/\F b H:=by
 cases m with
 |bad=>exact P.elim
 |err x=>exact absurd rfl (he x)
 |ok b=>exact⟨b,rfl,P⟩
def Wz [z:MonoE r](ha:EvB K Er S OO U ta (rV r) ma)(hb:EvB K Er S OO U tb Xf mb):EvB K Er S OO U (tOp (Ij K) ta tb) r (ma.bind λas=>mb.bind λi=>atR as i):=λH Q w s P=>
 ha.run w s FB.tr P λa x H1 s1 w1 q1 ⟨p,xs,e,q,pr⟩ P1=>hb.run w1 q1 FB.tr P1 λb y H2 s2 w2 q2 r2 P2=>by
  obtain⟨c,hc,P3⟩:=P2.okOf λx=>KS
  obtain⟨u,h1,h2⟩:=JN pr (CC hc)
  exact⟨p,xs,b,u,e,r2,SqL.of (s2 _ _ q),h1,P3 u H2 (Xp.refl _) (z.mono s2 h2)⟩
def WK [z:MonoE r](ha:EvL K Er S OO U ta r ma)(hb:EvB K Er S OO U tb Xf mb):EvS K Er S OO U (tOp (Ij K) ta tb) r (ma.bind λas=>mb.bind λi=>atR as i):=λH Q w s P=>
 ha.run w s FS.tr P λa x H1 s1 w1 q1 ⟨p,xs,e,q,pr⟩ P1=>hb.run w1 q1 FS.tr P1 λb y H2 s2 w2 q2 r2 P2=>by
  obtain⟨c,hc,P3⟩:=P2.okOf λx=>KS
  obtain⟨u,h1,h2⟩:=JN pr (CC hc)
  exact⟨p,xs,b,u,e,r2,SqL.of (s2 _ _ q),h1,P3 u H2 (Xp.refl _) (z.mono (Xh s2) h2)⟩
def To [z:MonoE r](ha:EvB K Er S OO U ta (rPL r) ma)(hb:EvB K Er S OO U tb Xf mb):EvB K Er S OO U (tOp (CY K) ta tb) r (ma.bind λas=>mb.bind λi=>atR as i):=λH Q w s P=>
 ha.run w s FB.tr P λa x H1 s1 w1 q1 ⟨p,xs,e,q,pr⟩ P1=>hb.run w1 q1 FB.tr P1 λb y H2 s2 w2 q2 r2 P2=>by
  obtain⟨c,hc,P3⟩:=P2.okOf λx=>KS
  obtain⟨u,h1,h2⟩:=JN pr (CC hc)
  exact⟨p,xs,b,u,e,r2,SqT.of (s2 _ _ q),h1,P3 u H2 (Xp.refl _) (z.mono s2 h2)⟩
def Bf {q:Enc L}{m:Rs (M×L)}(ha:EvB K Er S OO U ta (rP2 r q) m):EvB K Er S OO U (tOp (CY K) ta (tC (.int 0))) r (m.bind λp=>.ok p.1):=λH Q w s P=>
 ha.run w s FB.tr P λa x H1 s1 w1 q1 r9 P1=>by obtain⟨p,x,y,e,q,h1,h2⟩:=r9;exact⟨p,_,0,x,e,rfl,SqT.of q,rfl,P1 _ H1 (Xp.refl _) h1⟩
def B7 {q:Enc L}{m:Rs (M×L)}(ha:EvB K Er S OO U ta (rP2 r q) m):EvB K Er S OO U (tOp (CY K) ta (tC (.int 1))) q (m.bind λp=>.ok p.2):=λH Q w s P=>
 ha.run w s FB.tr P λa x H1 s1 w1 q1 r9 P1=>by obtain⟨p,x,y,e,q,h1,h2⟩:=r9;exact⟨p,_,1,y,e,rfl,SqT.of q,rfl,P1 _ H1 (Xp.refl _) h2⟩
def TF {q:Enc L}{m:Rs (M×L)}(ha:EvS K Er S OO U ta (rP2 r q) m):EvS K Er S OO U (tOp (CY K) ta (tC (.int 0))) r (m.bind λp=>.ok p.1):=λH Q w s P=>
 ha.run w s FS.tr P λa x H1 s1 w1 q1 r9 P1=>by obtain⟨p,x,y,e,q,h1,h2⟩:=r9;exact⟨p,_,0,x,e,rfl,SqT.of (Xv _ _ q),rfl,P1 _ H1 (Xp.refl _) h1⟩
def TN {q:Enc L}{m:Rs (M×L)}(ha:EvS K Er S OO U ta (rP2 r q) m):EvS K Er S OO U (tOp (CY K) ta (tC (.int 1))) q (m.bind λp=>.ok p.2):=λH Q w s P=>
 ha.run w s FS.tr P λa x H1 s1 w1 q1 r9 P1=>by obtain⟨p,x,y,e,q,h1,h2⟩:=r9;exact⟨p,_,1,y,e,rfl,SqT.of (Xv _ _ q),rfl,P1 _ H1 (Xp.refl _) h2⟩
def Rr (ha:EvB K Er S OO U ta (rV r) m):EvB K Er S OO U (tCB (Kr K) (Xk ta YD)) Xf (m.bind λas=>.ok (as.length:Int)):=λH Q w s P=>
 ha.run w s FB.tr P λa x H1 s1 w1 q1 r9 P1=>by obtain⟨p,xs,e,q,pr⟩:=r9;exact⟨p,xs,by rw[e], .inl (SqL.of q),P1 _ H1 (Xp.refl _) (by rw[Paired.len pr];rfl)⟩
def Ot (ha:EvB K Er S OO U ta (rPL r) m):EvB K Er S OO U (tCB (Kr K) (Xk ta YD)) Xf (m.bind λas=>.ok (as.length:Int)):=λH Q w s P=>
 ha.run w s FB.tr P λa x H1 s1 w1 q1 r9 P1=>by obtain⟨p,xs,e,q,pr⟩:=r9;exact⟨p,xs,by rw[e], .inr (SqT.of q),P1 _ H1 (Xp.refl _) (by rw[Paired.len pr];rfl)⟩
def Lm [z:MonoE r]{Q:VK}(w:W OO H)(pr:Paired (r K (hid H OO)) xs as)(P:FO K OO OO (oL (oF r)) Q as H):∀p,H p=none->Q (.ref p) (upd H p (.lst xs)):=λp hp=>by
 have hn:=Um (OO:=OO) hp (o:=.lst xs)
 refine P (.ref p) [(p, .lst xs)] _ (Xw hp _) (w.new hp rfl) hn ?_
 refine⟨p,xs,List.replicate as.length [],rfl,(P3.of (Paired.imp2 (λ_ _ h=>z.mono hn h) pr)).imp λ_ _ _ h=>h,by rw[Yi]⟩
def Paired.take':∀{l:List M}{m:List L} (n:Nat),Paired F l m->Paired F (l.take n) (m.take n)
 |_,_,0,_=>.nil
 |_,_,_+1, .nil=>.nil
 |_,_,n+1, .cons r t=>.cons r (Paired.take' n t)
def Paired.drop':∀{l:List M}{m:List L} (n:Nat),Paired F l m->Paired F (l.drop n) (m.drop n)
 |_,_,0,h=>h
 |_,_,_+1, .nil=>.nil
 |_,_,n+1, .cons _ t=>Paired.drop' n t
def Paired.rev':∀{l:List M}{m:List L},Paired F l m->Paired F l.reverse m.reverse
 |_,_, .nil=>.nil
 |_,_, .cons r t=>by rw[List.reverse_cons,List.reverse_cons];exact Paired.app (Paired.rev' t) (.cons r .nil)
def Paired.rep' {m:List L}(h:Paired F l m):∀n:Nat,Paired F (List.replicate n l).flatten (List.replicate n m).flatten
 |0=>.nil
 |n+1=>by simp only[List.replicate_succ,List.flatten_cons];exact Paired.app h (Paired.rep' h n)
def Gb (as:List M)(lo hi:Option Int):List M:=(as.drop (HT.sIx as.length 0 lo)).take (HT.sIx as.length as.length hi-HT.sIx as.length 0 lo)
def Uj {F:V->M->Prop}(p:Paired F xs as)(lo hi:Option Int):Paired F (Pp xs lo hi) (Gb as lo hi):=by
 unfold Pp Gb;rw[Paired.len p];exact Paired.take' _ (Paired.drop' _ p)
def FP (Q:Option Int->Hp->Prop)(a:Option Int)(H:Hp):Prop:=∀ H',Xp H H'->Q a H'
def EvP (Er:Exc->Hp->Prop)(S:SC)(OO:List (List XD))(U:St)(t:TO)(m:Rs (Option Int)):Prop:=∀ H Q,W OO H->S.p (hid H OO)->PZ Er (FP Q) H m->t U H Q
def EvP.run {m:Rs (Option Int)}(he:EvP Er S OO U t m){Q:Option Int->Hp->Prop}(w:W OO H)(s:S.p (hid H OO)){f:Option Int->Rs L}{F:L->Hp->Prop}(hF:∀b H H',Xp H H'->F b H->F b H')(P:PZ Er F H (m.bind f))
  (hk:∀a H',Xp H H'->W OO H'->S.p (hid H' OO)->PZ Er F H' (f a)->Q a H'):t U H Q:=by
 refine he H Q w s ?_
 cases e:m with
 |bad=>rw[e] at P;exact P
 |err x=>rw[e] at P;exact P
 |ok a=>exact λH' s'=>hk a H' s' (w.keep s') (S.mono _ _ (Xh s') s) (PZ.run e hF s' P)
def OW:EvP Er S OO U BS (.ok none):=λH Q w s P=>P H (Xp.refl _)
def O4 {m:Rs Int}(h:EvB K Er S OO U te Xf m):EvP Er S OO U (Sc te) (m.bind λi=>.ok (some i)):=λH Q w s P=>
 h.run w s (λ_ _ _ s h H2 s2=>h H2 (s.trans s2)) P λa v H1 s1 w1 q1 r1 P1=>⟨a,r1,P1 H1 (Xp.refl _)⟩
def NS [z:MonoE r](he:EvL K Er S OO U te r m)(hl:EvP Er S OO U tl ml)(hh:EvP Er S OO U th mh):
  Ev K Er S OO OO U (tSl (Aq K) te tl th) (oL (oF r)) (m.bind λas=>ml.bind λlo=>mh.bind λhi=>.ok (Gb as lo hi)):=λH Q w s P=>
 he.run w s FO.tr P λas x H1 s1 w1 q1 ⟨p,xs,e,q,pr⟩ P1=>hl.run w1 q1 FO.tr P1 λlo H2 s2 w2 q2 P2=>hh.run w2 q2 FO.tr P2 λhi H3 s3 w3 q3 aD=>
  ⟨p,xs,e,SqL.of (s3 _ _ (s2 _ _ q)),Lm w3 (Uj (Paired.imp2 (λ_ _ h=>z.mono ((Xh s2).trans (Xh s3)) h) pr) lo hi) aD⟩
def OS (ha:EvB K Er S OO U ta (rL r) m):EvB K Er S OO U (tCB (Kr K) (Xk ta YD)) Xf (m.bind λas=>.ok (as.length:Int)):=λH Q w s P=>
 ha.run w s FB.tr P λa x H1 s1 w1 q1 r9 P1=>by obtain⟨p,xs,e,q,pr⟩:=r9;exact⟨p,xs,by rw[e], .inl q,P1 _ H1 (Xp.refl _) (by rw[Paired.len pr];rfl)⟩
def RG {ma:Rs (List Int)}(ha:EvB K Er S OO U ta (rL Xf) ma)(hb:EvB K Er S OO U tb Xf mb):EvB K Er S OO U (tOp (Ij K) ta tb) Xf (ma.bind λas=>mb.bind λi=>atR as i):=λH Q w s P=>
 ha.run w s FB.tr P λa x H1 s1 w1 q1 ⟨p,xs,e,q,pr⟩ P1=>hb.run w1 q1 FB.tr P1 λb y H2 s2 w2 q2 r2 P2=>by
  obtain⟨c,hc,P3⟩:=P2.okOf λx=>KS
  obtain⟨u,h1,h2⟩:=JN pr (CC hc)
  exact⟨p,xs,b,u,e,r2,s2.seq q,h1,P3 u H2 (Xp.refl _) h2⟩
def LZ {m:Rs (List Int)}(he:EvB K Er S OO U te (rL Xf) m)(hl:EvP Er S OO U tl ml)(hh:EvP Er S OO U th mh):
  Ev K Er S OO OO U (tSl (Aq K) te tl th) (oL (oF Xf)) (m.bind λas=>ml.bind λlo=>mh.bind λhi=>.ok (Gb as lo hi)):=λH Q w s P=>
 he.run w s FO.tr P λas x H1 s1 w1 q1 ⟨p,xs,e,q,pr⟩ P1=>hl.run w1 q1 FO.tr P1 λlo H2 s2 w2 q2 P2=>hh.run w2 q2 FO.tr P2 λhi H3 s3 w3 q3 aD=>
  ⟨p,xs,e,s3.seq (s2.seq q),Lm w3 (Uj (Paired.imp2 (λ_ _ h=>h) pr) lo hi) aD⟩
def NW (as bs:List M):Rs (List M):=chk (as.length+bs.length<=sizeLine) (.ok (as++bs))
def PD [z:MonoE r]{mb:Rs (List M)}(ha:EvL K Er S OO U ta r ma)(hb:EvL K Er S OO U tb r mb):Ev K Er S OO OO U (tOp qu ta tb) (oL (oF r)) (ma.bind λas=>mb.bind λbs=>NW as bs):=λH Q w s P=>
 ha.run w s FO.tr P λas x H1 s1 w1 q1 ⟨p,xs,e,q,pr⟩ P1=>hb.run w1 q1 FO.tr P1 λbs y H2 s2 w2 q2 ⟨p',ys,e',q',eC⟩ P2=>by
  obtain⟨c,hc,P3⟩:=P2.okOf λx=>QE
  obtain⟨h1,h2⟩:=Zc hc
  cases h2
  exact⟨p,p',xs,ys,e,e',s2 _ _ q,q',by rw[Paired.len pr,Paired.len eC];exact h1,Lm w2 (Paired.app (Paired.imp2 (λ_ _ h=>z.mono (Xh s2) h) pr) eC) P3⟩
def Mk (as:List M)(n:Int):Rs (List M):=chk (-(2^63)<=n/\n<2^63/\as.length*n.toNat<=sizeLine) (.ok (List.replicate n.toNat as).flatten)
def Ad [z:MonoE r](ha:EvL K Er S OO U ta r ma)(hb:EvB K Er S OO U tb Xf mb):Ev K Er S OO OO U (tOp A9 ta tb) (oL (oF r)) (ma.bind λas=>mb.bind λn=>Mk as n):=λH Q w s P=>
 ha.run w s FO.tr P λas x H1 s1 w1 q1 ⟨p,xs,e,q,pr⟩ P1=>hb.run w1 q1 FO.tr P1 λn y H2 s2 w2 q2 r2 P2=>by
  obtain⟨c,hc,P3⟩:=P2.okOf λx=>QE
  obtain⟨⟨h0,h1,h3⟩,h2⟩:=Zc hc
  cases h2
  exact⟨p,n,xs,e,r2,s2 _ _ q,h0,h1,by rw[Paired.len pr];exact h3,Lm w2 (Paired.rep' (Paired.imp2 (λ_ _ h=>z.mono (Xh s2) h) pr) _) P3⟩
def Re [z:MonoE r](ha:EvL K Er S OO U ta r ma):Ev K Er S OO OO U (tCB (Fx K) (Xk ta YD)) (oL (oF r)) (ma.bind λas=>.ok as):=λH Q w s P=>
 ha.run w s FO.tr P λas x H1 s1 w1 q1 r9 P1=>by obtain⟨p,xs,e,q,pr⟩:=r9;exact⟨p,xs,by rw[e], .inl (SqL.of q),Lm w1 pr P1⟩
def VL (lo hi:Int):List Int:=(List.range (hi-lo).toNat).map λ(i:Nat)=>lo+(i:Int)
def DJ {ma:Rs Int}(ha:EvB K Er S OO U ta Xf ma):Ev K Er S OO OO U (EB (Xk ta YD)) (oL (oF Xf)) (ma.bind λn=>chk (0<=n/\n<=1000) (.ok (VL 0 n))):=λH Q w s P=>
 ha.run w s FO.tr P λn x H1 s1 w1 q1 r1 P1=>by
  obtain⟨c,hc,P3⟩:=P1.okOf λx=>QE
  obtain⟨⟨h0,h1⟩,h2⟩:=Zc hc
  cases h2
  refine⟨n,by rw[show x= .int n from r1],h0,h1,Lm w1 ?_ P3⟩
  unfold VL
  rw[Int.sub_zero]
  have:∀l:List Nat,Paired (Xf K (hid H1 OO)) (l.map λ(i:Nat)=>V.int (i:Int)) (l.map λ(i:Nat)=>(0:Int)+(i:Int)):=λl=>by
   induction l with
   |nil=>exact .nil
   |cons a l ih=>exact .cons (by show V.int (a:Int)=V.int (0+(a:Int));rw[Int.zero_add]) ih
  exact this _
def Zt:Ev K Er S OO OO U (Nd YD) (oL o) (.ok []):=λH Q w s P=>⟨Nat.zero_le _,λp hp=>P (.ref p) [(p, .lst [])] _ (Xw hp _) (w.new hp rfl) (Um hp) ⟨p,[],[],rfl, .nil,rfl⟩⟩
def FA (K:W.Frag)(OO:List (List XD))(r:Enc M)(Q:List V->Hp->Prop)(as:List M)(H:Hp):Prop:=∀ vs H',Xp H H'->Paired (r K (hid H' OO)) vs as->Q vs H'
def EvA (K:W.Frag)(Er:Exc->Hp->Prop)(S:SC)(OO:List (List XD))(U:St)(t:TA)(r:Enc M)(m:Rs (List M)):Prop:=∀ H Q,W OO H->S.p (hid H OO)->PZ Er (FA K OO r Q) H m->t U H Q
def BZ:EvA K Er S OO U YD r (.ok []):=λH Q w s P=>P [] H (Xp.refl _) .nil
def Yn [z:MonoE r]{m:Rs M}{n:Rs (List M)}(he:EvS K Er S OO U te r m)(ht:EvA K Er S OO U t r n):EvA K Er S OO U (Xk te t) r (m.bind λa=>n.bind λas=>.ok (a::as)):=λH Q w s P=>
 he.run w s (λb H H' s h vs H2 s2 p=>h vs H2 (s.trans s2) p) P λa x H1 s1 w1 q1 r1 P1=>by
  refine ht H1 _ w1 q1 ?_
  cases e:n with
  |bad=>rw[e] at P1;exact P1
  |err x=>rw[e] at P1;exact P1
  |ok as=>rw[e] at P1;exact λvs H2 s2 p=>P1 (x::vs) H2 s2 (.cons (z.mono (Xh s2) r1) p)
def JY [z:MonoE r](h:EvA K Er S OO U t r m):Ev K Er S OO OO U (Nd t) (oL (oF r)) (m.bind λas=>chk (as.length<=sizeLine) (.ok as)):=λH Q w s P=>by
 refine h H _ w s ?_
 cases e:m with
 |bad=>rw[e] at P;exact P
 |err x=>rw[e] at P;exact P
 |ok as=>
  rw[e] at P
  intro vs H1 s1 p
  obtain⟨c,hc,P3⟩:=PZ.okOf (λx=>QE) (show PZ Er _ H (chk (as.length<=sizeLine) (.ok as)) from P)
  obtain⟨h1,h2⟩:=Zc hc
  cases h2
  exact⟨by rw[Paired.len p];exact h1,Lm (w.keep s1) p (FO.tr _ _ _ s1 P3)⟩
def Z9 [z:MonoE r](h:EvA K Er S OO U t r m):EvS K Er S OO U (Po t) (rPL r) (m.bind λas=>chk (as.length<=sizeLine) (.ok as)):=λH Q w s P=>by
 refine h H _ w s ?_
 cases e:m with
 |bad=>rw[e] at P;exact P
 |err x=>rw[e] at P;exact P
 |ok as=>
  rw[e] at P
  intro vs H1 s1 p
  obtain⟨c,hc,P3⟩:=PZ.okOf (λx=>QE) (show PZ Er _ H (chk (as.length<=sizeLine) (.ok as)) from P)
  obtain⟨h1,h2⟩:=Zc hc
  cases h2
  have w1:=w.keep s1
  refine⟨by rw[Paired.len p];exact h1,λa ha=>P3 _ _ (s1.trans (Xw ha _)) ⟨a,vs,rfl,Z8 w1 ha,Paired.imp2 (λ_ _ q=>z.mono (Xh (Xw ha _)) q) p⟩⟩
def FW {q:Enc L}[z:MonoE r][y:MonoE q]{ma:Rs M}{mb:Rs L}(ha:EvS K Er S OO U ta r ma)(hb:EvS K Er S OO U tb q mb):EvS K Er S OO U (Po (Xk ta (Xk tb YD))) (rP2 r q) (ma.bind λa=>mb.bind λb=>.ok (a,b)):=λH Q w s P=>
 ha.run w s FS.tr P λa x H1 s1 w1 q1 r1 P1=>hb.run w1 q1 FS.tr P1 λb y' H2 s2 w2 q2 r2 P2=>
  ⟨by show 2<=sizeLine;decide,λp hp=>P2 _ _ (Xw hp _) ⟨p,x,y',rfl,Z8 w2 hp,z.mono ((Xh s2).trans (Xh (Xw hp _))) r1,y.mono (Xh (Xw hp _)) r2⟩⟩
def FY {q:Enc L}[z:MonoE r][y:MonoE q][x:MonoE t]{ma:Rs M}{mb:Rs L}{mc:Rs B}(ha:EvS K Er S OO U ta r ma)(hb:EvS K Er S OO U tb q mb)(hc:EvS K Er S OO U tc t mc):
  EvS K Er S OO U (Po (Xk ta (Xk tb (Xk tc YD)))) (rP3 r q t) (ma.bind λa=>mb.bind λb=>mc.bind λc=>.ok (a,b,c)):=λH Q w s P=>
 ha.run w s FS.tr P λa x' H1 s1 w1 q1 r1 P1=>hb.run w1 q1 FS.tr P1 λb y' H2 s2 w2 q2 r2 P2=>hc.run w2 q2 FS.tr P2 λc z' H3 s3 w3 q3 r3 P3=>
  ⟨by show 3<=sizeLine;decide,λp hp=>P3 _ _ (Xw hp _) ⟨p,x',y',z',rfl,Z8 w3 hp,z.mono (((Xh s2).trans (Xh s3)).trans (Xh (Xw hp _))) r1,y.mono ((Xh s3).trans (Xh (Xw hp _))) r2,x.mono (Xh (Xw hp _)) r3⟩⟩
end
section
variable {α6:Type}
def noE (m:Rs M):Rs M:=match m with
 | .ok a=>.ok a
 |_=>.bad
def Ut {m:Rs M}{a:M}(h:noE m= .ok a):m= .ok a:=by
 cases m with
 |ok b=>exact h
 |bad=>cases h
 |err x=>cases h
def Uz {m:Rs M}{x:Exc}:noE m≠ .err x:=by cases m<;> exact λz=>nomatch z
def FF (K:W.Frag)(o:OE M)(Q:VK)(a:M)(H:Hp):Prop:=∀ v C H',W [C] H'->Xp H (hid H' [C])->o K (hid H' [C]) v a C->Q v H'
def sp1 (r1:Enc α1)(o:OE ρ)(f:α1->Rs ρ)(K:W.Frag):Sp:=λvs H Q _=>∃ v1 a1 b,vs=[v1]/\r1 K H v1 a1/\f a1= .ok b/\FF K o Q b H
def sp2 (r1:Enc α1)(r2:Enc α2)(o:OE ρ)(f:α1->α2->Rs ρ)(K:W.Frag):Sp:=λvs H Q _=>∃ v1 v2 a1 a2 b,vs=[v1,v2]/\r1 K H v1 a1/\r2 K H v2 a2/\f a1 a2= .ok b/\FF K o Q b H
def sp3 (r1:Enc α1)(r2:Enc α2)(r3:Enc α3)(o:OE ρ)(f:α1->α2->α3->Rs ρ)(K:W.Frag):Sp:=λvs H Q _=>∃ v1 v2 v3 a1 a2 a3 b,vs=[v1,v2,v3]/\r1 K H v1 a1/\r2 K H v2 a2/\r3 K H v3 a3/\f a1 a2 a3= .ok b/\FF K o Q b H
def sp4 (r1:Enc α1)(r2:Enc α2)(r3:Enc α3)(r4:Enc α4)(o:OE ρ)(f:α1->α2->α3->α4->Rs ρ)(K:W.Frag):Sp:=λvs H Q _=>∃ v1 v2 v3 v4 a1 a2 a3 a4 b,vs=[v1,v2,v3,v4]/\r1 K H v1 a1/\r2 K H v2 a2/\r3 K H v3 a3/\r4 K H v4 a4/\f a1 a2 a3 a4= .ok b/\FF K o Q b H
def sp5 (r1:Enc α1)(r2:Enc α2)(r3:Enc α3)(r4:Enc α4)(r5:Enc α5)(o:OE ρ)(f:α1->α2->α3->α4->α5->Rs ρ)(K:W.Frag):Sp:=λvs H Q _=>∃ v1 v2 v3 v4 v5 a1 a2 a3 a4 a5 b,vs=[v1,v2,v3,v4,v5]/\r1 K H v1 a1/\r2 K H v2 a2/\r3 K H v3 a3/\r4 K H v4 a4/\r5 K H v5 a5/\f a1 a2 a3 a4 a5= .ok b/\FF K o Q b H
def Tf (w:W OO H)(w':W [C] H')(m':Xp H (hid H' [C])):W (C::OO) H'/\Xp (hid H OO) (hid H' (C::OO))/\BN (hid H' [C]) (hid H' (C::OO)):=by
 have s:Xp H H':=m'.trans Xv
 have f1:fl [C]=C.map (·.1):=by simp[fl]
 have hd:∀b,b∈fl OO->b∉C.map (·.1):=λb hb hc=>by
  obtain⟨u,hu⟩:=H9 hb
  exact(XU (m' _ _ (w.tr _ hu))).2 (by rw[f1];exact hc)
 have w2:W (C::OO) H':=by
  refine⟨λc hc=>?_,?_,λc hc=>?_⟩
  ·rw[List.flatten_cons,List.mem_append] at hc
   rcases hc with hc |hc
   ·exact w'.tr c (by simp[hc])
   ·exact s _ _ (w.tr c hc)
  ·rw[XG]
   refine List.nodup_append.mpr ⟨by rw[←f1];exact w'.nd,w.nd,λa ha b hb e=>?_⟩
   subst e;exact hd a hb ha
  ·rw[List.flatten_cons,List.mem_append] at hc
   rcases hc with hc |hc
   ·exact w'.mu c (by simp[hc])
   ·exact w.mu c hc
 refine⟨w2,λb u q=>?_,λb u q i=>?_⟩
 ·obtain⟨q1,q2⟩:=XU q
  obtain⟨q3,q4⟩:=XU (m' _ _ q1)
  refine YS q3 ?_
  rw[XG,List.mem_append]
  exact λz=>z.elim (λz=>q4 (by rw[f1];exact z)) q2
 ·exact w2.i b u (XU q).1 i
def KH [z:FlatO o]{Q:VK}{b:M}(w:W OO H)(P:FO K OO OO o Q b H):FF K o Q b H:=λv C H' w' m' ho=>by
 obtain⟨w2,h2,h3⟩:=Tf w w' m'
 exact P v C H' (m'.trans Xv) w2 h2 (z.flat h3 ho)
def Hv {o:OE ρ}[FlatO o]{f:α1->Rs ρ}{ma:Rs α1}(ha:EvB K Er S OO U ta r1 ma):Ev K Er S OO OO U (Jd (sp1 r1 o f K) [] E0 (Xk ta YD)) o (ma.bind λa=>noE (f a)):=λH Q w s P=>
 ha.run w s FO.tr P λa x H1 s1 w1 q1 r1 P1=>by
  obtain⟨b,hb,P2⟩:=P1.okOf λx=>Uz
  exact⟨x,a,b,rfl,r1,Ut hb,KH w1 P2⟩
def U3 [z1:MonoE r1]{o:OE ρ}[FlatO o]{f:α1->α2->Rs ρ}{ma:Rs α1}{mb:Rs α2}(ha:EvB K Er S OO U ta r1 ma)(hb:EvB K Er S OO U tb r2 mb):
  Ev K Er S OO OO U (Jd (sp2 r1 r2 o f K) [] E0 (Xk ta (Xk tb YD))) o (ma.bind λa=>mb.bind λb=>noE (f a b)):=λH Q w s P=>
 ha.run w s FO.tr P λa x H1 s1 w1 q1 r1 P1=>hb.run w1 q1 FO.tr P1 λb y H2 s2 w2 q2 r2 P2=>by
  obtain⟨c,hc,P3⟩:=P2.okOf λx=>Uz
  exact⟨x,y,a,b,c,rfl,z1.mono s2 r1,r2,Ut hc,KH w2 P3⟩
def EX [z1:MonoE r1][z2:MonoE r2]{o:OE ρ}[FlatO o]{f:α1->α2->α3->Rs ρ}{ma:Rs α1}{mb:Rs α2}{mc:Rs α3}(ha:EvB K Er S OO U ta r1 ma)(hb:EvB K Er S OO U tb r2 mb)(hc:EvB K Er S OO U tc r3 mc):
  Ev K Er S OO OO U (Jd (sp3 r1 r2 r3 o f K) [] E0 (Xk ta (Xk tb (Xk tc YD)))) o (ma.bind λa=>mb.bind λb=>mc.bind λc=>noE (f a b c)):=λH Q w s P=>
 ha.run w s FO.tr P λa x H1 s1 w1 q1 r1 P1=>hb.run w1 q1 FO.tr P1 λb y H2 s2 w2 q2 r2 P2=>hc.run w2 q2 FO.tr P2 λc z H3 s3 w3 q3 r3 P3=>by
  obtain⟨d,hd,P4⟩:=P3.okOf λx=>Uz
  exact⟨x,y,z,a,b,c,d,rfl,z1.mono (s2.trans s3) r1,z2.mono s3 r2,r3,Ut hd,KH w3 P4⟩
def Of [z1:MonoE r1][z2:MonoE r2][z3:MonoE r3]{o:OE ρ}[FlatO o]{f:α1->α2->α3->α4->Rs ρ}{ma:Rs α1}{mb:Rs α2}{mc:Rs α3}(ha:EvB K Er S OO U ta r1 ma)(hb:EvB K Er S OO U tb r2 mb)(hc:EvB K Er S OO U tc r3 mc)(hd:EvB K Er S OO U td r4 md):
  Ev K Er S OO OO U (Jd (sp4 r1 r2 r3 r4 o f K) [] E0 (Xk ta (Xk tb (Xk tc (Xk td YD))))) o (ma.bind λa=>mb.bind λb=>mc.bind λc=>md.bind λd=>noE (f a b c d)):=λH Q w s P=>
 ha.run w s FO.tr P λa x H1 s1 w1 q1 r1 P1=>hb.run w1 q1 FO.tr P1 λb y H2 s2 w2 q2 r2 P2=>hc.run w2 q2 FO.tr P2 λc z H3 s3 w3 q3 r3 P3=>hd.run w3 q3 FO.tr P3 λd u H4 s4 w4 q4 r4 P4=>by
  obtain⟨e,he,P5⟩:=P4.okOf λx=>Uz
  exact⟨x,y,z,u,a,b,c,d,e,rfl,z1.mono (s2.trans (s3.trans s4)) r1,z2.mono (s3.trans s4) r2,z3.mono s4 r3,r4,Ut he,KH w4 P5⟩
def Oz [z1:MonoE r1][z2:MonoE r2][z3:MonoE r3][z4:MonoE r4]{o:OE ρ}[FlatO o]{f:α1->α2->α3->α4->α5->Rs ρ}{ma:Rs α1}{mb:Rs α2}{mc:Rs α3}(ha:EvB K Er S OO U ta r1 ma)(hb:EvB K Er S OO U tb r2 mb)(hc:EvB K Er S OO U tc r3 mc)(hd:EvB K Er S OO U td r4 md)(he:EvB K Er S OO U te r5 me):
  Ev K Er S OO OO U (Jd (sp5 r1 r2 r3 r4 r5 o f K) [] E0 (Xk ta (Xk tb (Xk tc (Xk td (Xk te YD)))))) o (ma.bind λa=>mb.bind λb=>mc.bind λc=>md.bind λd=>me.bind λe=>noE (f a b c d e)):=λH Q w s P=>
 ha.run w s FO.tr P λa x H1 s1 w1 q1 r1 P1=>hb.run w1 q1 FO.tr P1 λb y H2 s2 w2 q2 r2 P2=>hc.run w2 q2 FO.tr P2 λc z H3 s3 w3 q3 r3 P3=>hd.run w3 q3 FO.tr P3 λd u H4 s4 w4 q4 r4 P4=>he.run w4 q4 FO.tr P4 λe t H5 s5 w5 q5 r5 P5=>by
  obtain⟨g,hg,P6⟩:=P5.okOf λx=>Uz
  exact⟨x,y,z,u,t,a,b,c,d,e,g,rfl,z1.mono (s2.trans (s3.trans (s4.trans s5))) r1,z2.mono (s3.trans (s4.trans s5)) r2,z3.mono (s4.trans s5) r3,z4.mono s5 r4,r5,Ut hg,KH w5 P6⟩
structure Jn (B ι:Type) where
 oo:ι->List (List XD)
 ss:ι->St
 sc:B->ι->SC
inductive Ctl (ρ B:Type) where
 |ret (r:ρ) |nx (g:B)
def FTd (K:W.Frag)(o:OE ρ)(D:Ends)(r:ρ)(h:Hp):Prop:=∀ v C OO' H',W (C::OO') H'->Xp h (hid H' (C::OO'))->o K (hid H' (C::OO')) v r C->D.rt v H'
def FNd (J:Jn B ι)(D:Ends)(g:B)(h:Hp):Prop:=∀ x H',W (J.oo x) H'->Xp h (hid H' (J.oo x))->(J.sc g x).p (hid H' (J.oo x))->D.nx (J.ss x) H'
def FCd (K:W.Frag)(o:OE ρ)(J:Jn B ι)(D:Ends)(c:Ctl ρ B)(h:Hp):Prop:=match c with
 | .ret r=>FTd K o D r h
 | .nx g=>FNd J D g h
class FdOk (Fd:Ends->L->Hp->Prop):Prop where
 tr:∀D b h h',Xp h h'->Fd D b h->Fd D b h'
instance {o:OE ρ}:FdOk (FTd K o):=⟨λD b h h' s q v C O H' w m x=>q v C O H' w (s.trans m) x⟩
instance {J:Jn B ι}:FdOk (FNd J):=⟨λD b h h' s q x H' w m y=>q x H' w (s.trans m) y⟩
instance {o:OE ρ}{J:Jn B ι}:FdOk (FCd K o J):=⟨λD b h h' s q=>by
 cases b with
 |ret r=>exact λv C O H' w m x=>q v C O H' w (s.trans m) x
 |nx g=>exact λx H' w m y=>q x H' w (s.trans m) y⟩
def PZ.tr {F:L->Hp->Prop}(hF:∀b H H',Xp H H'->F b H->F b H'){m:Rs L}(s:Xp H H')(P:PZ Er F H m):PZ Er F H' m:=by
 cases m with
 |bad=>exact P
 |err x=>exact λH2 s2=>P H2 (s.trans s2)
 |ok b=>exact hF b H H' s P
def Sv (Er:Exc->Hp->Prop)(S:SC)(OO:List (List XD))(U:St)(t:TS)(Fd:Ends->L->Hp->Prop)(m:Rs L):Prop:=∀ H D,W OO H->S.p (hid H OO)->PZ Er (Fd D) (hid H OO) m->t D U H
variable [fd:FdOk Fd]{u:TS}
def Ev.st {m:Rs M}(he:Ev K Er S OO OO' U te o m){Q:VK}(w:W OO H)(s:S.p (hid H OO))(P:PZ Er (Fd D) (hid H OO) (m.bind f))
  (hk:∀a v C H',W (C::OO') H'->S.p (hid H' (C::OO'))->o K (hid H' (C::OO')) v a C->PZ Er (Fd D) (hid H' (C::OO')) (f a)->Q v H'):te U H Q:=by
 refine he H Q w s ?_
 cases m with
 |bad=>exact P
 |err x=>exact λH' s'=>P H' (Xv.trans s')
 |ok a=>exact λv C H' s' w' m' ho=>hk a v C H' w' (S.mono _ _ m' s) ho (PZ.tr (fd.tr D) m' P)
def EvB.st {m:Rs M}(he:EvB K Er S OO U te r m){Q:VK}(w:W OO H)(s:S.p (hid H OO))(P:PZ Er (Fd D) (hid H OO) (m.bind f))
  (hk:∀a v H',Xp H H'->W OO H'->S.p (hid H' OO)->r K H' v a->PZ Er (Fd D) (hid H' OO) (f a)->Q v H'):te U H Q:=by
 refine he H Q w s ?_
 cases m with
 |bad=>exact P
 |err x=>exact λH' s'=>P H' (Xv.trans s')
 |ok a=>exact λv H' s' hr=>hk a v H' s' (w.keep s') (S.mono _ _ (Xh s') s) hr (PZ.tr (fd.tr D) (Xh s') P)
def EvS.st {m:Rs M}(he:EvS K Er S OO U te r m){Q:VK}(w:W OO H)(s:S.p (hid H OO))(P:PZ Er (Fd D) (hid H OO) (m.bind f))
  (hk:∀a v H',Xp H H'->W OO H'->S.p (hid H' OO)->r K (hid H' OO) v a->PZ Er (Fd D) (hid H' OO) (f a)->Q v H'):te U H Q:=by
 refine he H Q w s ?_
 cases m with
 |bad=>exact P
 |err x=>exact λH' s'=>P H' (Xv.trans s')
 |ok a=>exact λv H' s' hr=>hk a v H' s' (w.keep s') (S.mono _ _ (Xh s') s) hr (PZ.tr (fd.tr D) (Xh s') P)
def EvT.st {m:Rs Bool}(he:EvT Er S OO U tt m){Q:Bool->Hp->Prop}(w:W OO H)(s:S.p (hid H OO)){f:Bool->Rs L}(P:PZ Er (Fd D) (hid H OO) (m.bind f))
  (hk:∀b H',W OO H'->S.p (hid H' OO)->PZ Er (Fd D) (hid H' OO) (f b)->Q b H'):tt U H Q:=by
 refine he H Q w s ?_
 cases m with
 |bad=>exact P
 |err x=>exact λH' s'=>P H' (Xv.trans s')
 |ok a=>exact λH' s'=>hk a H' (w.keep s') (S.mono _ _ (Xh s') s) (PZ.tr (fd.tr D) (Xh s') P)
def set_set:(OO.set k C).set k []=OO.set k []:=by simp
def qy (w:W (C::OO) H)(hk:k<OO.length):W (OO.set k C) H/\Xp (hid H (C::OO)) (hid H (OO.set k C)):=by
 have h1:=XN (OO:=OO) (k:=k) (C:=OO[k]) (by simp[hk])
 have h2:=XN (OO:=OO.set k C) (k:=k) (C:=C) (by simp[hk])
 rw[set_set] at h2
 have h3:(OO.set k C).flatten.Perm (C++(OO.set k []).flatten):=by simpa using h2.symm
 have h4:(C::OO).flatten.Perm (C++(OO[k]++(OO.set k []).flatten)):=by
  rw[List.flatten_cons];exact(by simpa using h1.symm:OO.flatten.Perm (OO[k]++(OO.set k []).flatten)).append_left C
 have h5:(C++(OO.set k []).flatten).Sublist (C++(OO[k]++(OO.set k []).flatten)):=List.Sublist.append (List.Sublist.refl _) (List.sublist_append_right _ _)
 have w1:W [C++(OO[k]++(OO.set k []).flatten)] H:=w.of (by simpa using h4.symm)
 have w2:W [C++(OO.set k []).flatten] H:=w1.sub (by simpa using h5)
 refine⟨w2.of (by simpa using h3),Zk (Xp.refl _) λb hb=>?_⟩
 obtain⟨o,ho⟩:=H9 hb
 exact UE (h4.mem_iff.mpr (h5.mem (h3.mem_iff.mp ho)))
def IU [MonoO o]{m:Rs M}(i k:Nat)(he:Ev K Er S OO OO' U te o m)(hk:k<OO'.length)(hr:∀a v C,Sv Er (S.addO K o v a C) (OO'.set k C) (U.set i (some v)) u Fd (f a)):Sv Er S OO U (Zf (DW te (Yr i)) u) Fd (m.bind f):=λH D w s P=>
 he.st w s P λa v C H' w' s' ho P'=>by
  obtain⟨w2,h2⟩:=qy w' hk
  exact hr a v C H' D w2 ⟨S.mono _ _ h2 s',MonoO.mono h2 ho⟩ (PZ.tr (fd.tr D) h2 P')
def W9 [MonoE r]{m:Rs M}(i:Nat)(he:EvS K Er S OO U te r m)(hr:∀a v,Sv Er (S.add K r v a) OO (U.set i (some v)) u Fd (f a)):Sv Er S OO U (Zf (DW te (Yr i)) u) Fd (m.bind f):=λH D w s P=>
 he.st w s P λa v H' s1 w' s' ho P'=>hr a v H' D w' ⟨s',ho⟩ P'
def Xu {o:OE ρ}{m:Rs ρ}(he:Ev K Er S OO OO' U te o m):Sv Er S OO U (Zf (AA te) u) (FTd K o) m:=λH D w s P=>
 he H _ w s (by
  cases m with
  |bad=>exact P
  |err x=>exact λH' s'=>P H' (Xv.trans s')
  |ok a=>exact λv C H' s' w' m' ho=>P v C OO' H' w' m' ho)
def SR {o:OE ρ}{m:Rs ρ}(h:Sv Er S OO U t (FTd K o) m):Sv Er S OO U t (FCd K o J) (m.bind λr=>.ok (.ret r)):=λH D w s P=>h H D w s (by
 cases m with
 |bad=>exact P
 |err x=>exact P
 |ok a=>exact P)
def Zs {o:OE ρ}{m:Rs B}(h:Sv Er S OO U t (FNd J) m):Sv Er S OO U t (FCd K o J) (m.bind λr=>.ok (.nx r)):=λH D w s P=>h H D w s (by
 cases m with
 |bad=>exact P
 |err x=>exact P
 |ok a=>exact P)
def Aj (x:ι)(g:B)(h1:OO=J.oo x)(h2:U=J.ss x)(h3:∀h,S.p h->(J.sc g x).p h):Sv Er S OO U Bb (FNd J) (.ok g):=λH D w s P=>by
 subst h1 h2
 exact P x H w (Xp.refl _) (h3 _ s)
def WN:Sv Er S OO U t Fd .bad:=λH D w s P=>P.elim
def J3 {o:OE ρ}(hc:EvT Er S OO U c mc)(h1:Sv Er S OO U t1 (FTd K o) m1)(h2:Sv Er S OO U u (FTd K o) m2):Sv Er S OO U (Zf (Wb c t1 Bb) u) (FTd K o) (mc.bind λb=>if b=true then m1 else m2):=λH D w s P=>
 hc.st (Fd:=FTd K o) w s P λb H' w' s' P'=>by
  cases b with
  |true=>rw[if_pos rfl] at P'⊢;exact h1 H' _ w' s' P'
  |false=>exact h2 H' D w' s' P'
def QN {o:OE ρ}(hc:EvT Er S OO U c mc)(h1:Sv Er S OO U t1 (FTd K o) m1)(h2:Sv Er S OO U u (FCd K o J) m2):Sv Er S OO U (Zf (Wb c t1 Bb) u) (FCd K o J) (mc.bind λb=>if b=true then m1.bind (λr=>.ok (.ret r)) else m2):=λH D w s P=>
 hc.st (Fd:=FCd K o J) w s P λb H' w' s' P'=>by
  cases b with
  |true=>
   rw[if_pos rfl] at P'⊢
   refine h1 H' _ w' s' ?_
   cases m1 with
   |bad=>exact P'
   |err x=>exact P'
   |ok a=>exact P'
  |false=>exact h2 H' D w' s' P'
def X2 (hc:EvT Er S OO U c mc)(h1:Sv Er S OO U t1 Fd m1)(h2:Sv Er S OO U t2 Fd m2):Sv Er S OO U (Wb c t1 t2) Fd (mc.bind λb=>if b=true then m1 else m2):=λH D w s P=>
 hc.st w s P λb H' w' s' P'=>by
  cases b with
  |true=>rw[if_pos rfl] at P'⊢;exact h1 H' _ w' s' P'
  |false=>exact h2 H' D w' s' P'
def Sr {m:Rs B}{f:B->Rs L}(hb:Sv Er S OO U t (FNd J) m)(hr:∀g x,Sv Er (J.sc g x) (J.oo x) (J.ss x) u Fd (f g)):Sv Er S OO U (Zf t u) Fd (m.bind f):=λH D w s P=>
 hb H _ w s (by
  cases m with
  |bad=>exact P
  |err x=>exact P
  |ok g=>exact λx H' w' m' q=>hr g x H' D w' q (PZ.tr (fd.tr D) m' P))
def Vm (f:B->Rs ρ):Ctl ρ B->Rs ρ
 | .ret r=>.ok r
 | .nx g=>f g
def UL (f:B->Rs (Ctl ρ δ)):Ctl ρ B->Rs (Ctl ρ δ)
 | .ret r=>.ok (.ret r)
 | .nx g=>f g
def Tt {o:OE ρ}{m:Rs (Ctl ρ B)}{f:B->Rs ρ}(hb:Sv Er S OO U t (FCd K o J) m)(hr:∀g x,Sv Er (J.sc g x) (J.oo x) (J.ss x) u (FTd K o) (f g)):Sv Er S OO U (Zf t u) (FTd K o) (m.bind (Vm f)):=λH D w s P=>
 hb H _ w s (by
  cases m with
  |bad=>exact P
  |err x=>exact P
  |ok g=>
   cases g with
   |ret r=>exact P
   |nx g=>exact λx H' w' m' q=>hr g x H' D w' q (PZ.tr (FdOk.tr D) m' P))
def OR {o:OE ρ}{m:Rs (Ctl ρ B)}{f:B->Rs (Ctl ρ δ)}(hb:Sv Er S OO U t (FCd K o J) m)(hr:∀g x,Sv Er (J.sc g x) (J.oo x) (J.ss x) u (FCd K o J2) (f g)):Sv Er S OO U (Zf t u) (FCd K o J2) (m.bind (UL f)):=λH D w s P=>
 hb H _ w s (by
  cases m with
  |bad=>exact P
  |err x=>exact P
  |ok g=>
   cases g with
   |ret r=>exact P
   |nx g=>exact λx H' w' m' q=>hr g x H' D w' q (PZ.tr (FdOk.tr D) m' P))
def Lp [z:FrzC o r][MonoE r]{a:M}{m:Rs L}(k:Nat)(hk:OO[k]?=some C)(h:∀x,S.p x->o K x v a C)(hr:Sv Er (S.add K r v a) (OO.set k []) U t Fd m):Sv Er S OO U t Fd m:=λH D w s P=>by
 have hp:=XN hk
 have w1:W (C::OO.set k []) H:=w.of hp
 have hs:Xp (hid H OO) (hid H (OO.set k [])):=by
  rw[←XE hp]
  exact Zk (Xp.refl _) λb hb=>by rw[XG];simp[hb]
 refine hr H D w1.tail ⟨S.mono _ _ hs s,z.frz (h _ s) hs λc hc=>YS (w1.cell c hc) ?_⟩ (PZ.tr (fd.tr D) hs P)
 have:=w1.nd
 rw[XG] at this
 exact λhb=>(List.nodup_append.mp this).2.2 c.1 (List.mem_map.mpr ⟨c,hc,rfl⟩) c.1 hb rfl
def jF {D:List XD}{o:HO}(w:W (D::OO) H)(hk:OO[k]?=some C)(hp:p∈C.map (·.1))(hC:(C'.map (·.1)).Perm ((C++D).map (·.1)))(ht:∀c∈C',upd H p o c.1=some c.2)(hm:∀c∈C',TW c.2=true):
  W (OO.set k C') (upd H p o)/\hid (upd H p o) (OO.set k C')=hid H (D::OO):=by
 have ah:k<OO.length:=by
  rcases Nat.lt_or_ge k OO.length with h |h
  ·exact h
  ·rw[List.getElem?_eq_none h] at hk;cases hk
 have h1:=XN hk
 have h2:=XN (OO:=OO.set k C') (k:=k) (C:=C') (by simp[ah])
 rw[set_set] at h2
 have h3:(OO.set k C').flatten.Perm (C'++(OO.set k []).flatten):=by simpa using h2.symm
 have h4:(D::OO).flatten.Perm (D++(C++(OO.set k []).flatten)):=by
  rw[List.flatten_cons];exact(by simpa using h1.symm:OO.flatten.Perm (C++(OO.set k []).flatten)).append_left D
 have jH:(fl (OO.set k C')).Perm (fl (D::OO)):=by
  unfold fl
  refine(h3.map _).trans (List.Perm.trans ?_ (h4.map _).symm)
  simp only[List.map_append]
  refine(hC.append_right _).trans ?_
  simp only[List.map_append]
  rw[←List.append_assoc]
  exact List.perm_append_comm.append_right _
 have nd:=w.nd
 refine⟨⟨λc hc=>?_,jH.nodup_iff.mpr nd,λc hc=>?_⟩,?_⟩
 ·rcases List.mem_append.mp (h3.mem_iff.mp hc) with hc |hc
  ·exact ht c hc
  ·have aN:c.1≠p:=λe=>by
    have ft:((D++(C++(OO.set k []).flatten)).map (·.1)).Nodup:=(h4.map _).nodup_iff.mp nd
    simp only[List.map_append] at ft
    have jI:=(List.nodup_append.mp ft).2.1
    exact(List.nodup_append.mp jI).2.2 p hp c.1 (List.mem_map.mpr ⟨c,hc,rfl⟩) e.symm
   rw[XH aN]
   exact w.tr c (h4.mem_iff.mpr (by simp[hc]))
 ·rcases List.mem_append.mp (h3.mem_iff.mp hc) with hc |hc
  ·exact hm c hc
  ·exact w.mu c (h4.mem_iff.mpr (by simp[hc]))
 ·funext b
  unfold hid
  by_cases hb:b∈fl (D::OO)
  ·rw[if_pos hb,if_pos (jH.mem_iff.mpr hb)]
  ·rw[if_neg hb,if_neg λz=>hb (jH.mem_iff.mp z)]
   refine XH λe=>hb ?_
   rw[e]
   obtain⟨c,hc,rfl⟩:=List.mem_map.mp hp
   exact UE (h4.mem_iff.mpr (by simp[hc]))
def QC {D:List XD}:(Cs++[D]).flatten=Cs.flatten++D:=by simp
def Wc [MonoO o]{m:Rs M}{f:List M->Rs L}(i k:Nat)(hσ:U[i]?=some (some v))(hk:OO[k]?=some C)(ci:OO'[k]?=some C)(h:∀x,S.p x->oL o K x v as C)(he:Ev K Er S OO OO' U ta o m)
  (hr:∀a C',Sv Er (S.addO K (oL o) v (as++[a]) C') (OO'.set k C') U u Fd (f (as++[a]))):Sv Er S OO U (Zf (Gh (tBM K "list" G5 (JP i) (Xk ta YD))) u) Fd (m.bind λa=>chk (as.length<sizeLine) (f (as++[a]))):=λH D w s P=>by
 obtain⟨p,xs,Cs,e,q,c⟩:=h _ s
 subst c
 have hH:H p=some (.lst xs):=w.tr (p, .lst xs) (List.mem_flatten.mpr ⟨_,List.mem_of_getElem? hk,List.mem_cons_self⟩)
 refine⟨v,hσ,by rw[e];exact .inl ⟨rfl,_,SqL.of hH⟩,he.st w s P λa y D' H' w' s' ho P'=>?_⟩
 obtain⟨p',xs',Cs',e2,q2,c2⟩:=h _ s'
 rw[e] at e2;cases e2
 have c3:(p,HO.lst xs)=(p,HO.lst xs')/\Cs.flatten=Cs'.flatten:=by
  injection c2 with h1 h2
  exact⟨h1,h2⟩
 obtain⟨c3,c4⟩:=c3
 cases c3
 have jJ:H' p=some (.lst xs):=w'.tr (p, .lst xs) (by rw[List.flatten_cons];exact List.mem_append_right _ (List.mem_flatten.mpr ⟨_,List.mem_of_getElem? ci,List.mem_cons_self⟩))
 cases ah:decide (as.length<sizeLine) with
 |false=>rw[chk,if_neg (by simpa using ah)] at P';exact P'.elim
 |true=>
  have jK:as.length<sizeLine:=by simpa using ah
  rw[Xj jK] at P'
  have wnd:=w'.nd
  have cu:∀c∈(p,HO.lst (xs++[y]))::(Cs'++[D']).flatten,upd H' p (.lst (xs++[y])) c.1=some c.2:=λc hc=>by
   rcases List.mem_cons.mp hc with rfl |hc
   ·exact Ym
   ·have hp1:=XN ci
    have w3:W [D'++(((p,HO.lst xs)::Cs.flatten)++(OO'.set k []).flatten)] H':=w'.of (by
     simp only[List.flatten_cons,List.flatten_nil,List.append_nil]
     exact(by simpa using hp1:(((p,HO.lst xs)::Cs.flatten)++(OO'.set k []).flatten).Perm OO'.flatten).append_left D')
    have bq:c∈D'++(((p,HO.lst xs)::Cs.flatten)++(OO'.set k []).flatten):=by
     rw[QC,List.mem_append] at hc
     rcases hc with hc |hc
     ·rw[←c4] at hc;simp[hc]
     ·simp[hc]
    have aN:c.1≠p:=λee=>by
     have jI:=w3.nd
     rw[QC,List.mem_append, ←c4] at hc
     simp only[fl,List.flatten_cons,List.flatten_nil,List.append_nil,List.map_append,List.cons_append,List.map_cons] at jI
     rw[List.nodup_append] at jI
     obtain⟨_,n2,n3⟩:=jI
     rcases hc with hc |hc
     ·exact(List.nodup_cons.mp n2).1 (List.mem_append_left _ (List.mem_map.mpr ⟨c,hc,ee⟩))
     ·exact n3 c.1 (List.mem_map.mpr ⟨c,hc,rfl⟩) p List.mem_cons_self ee
    rw[XH aN]
    exact w3.tr c (by simpa using bq)
  obtain⟨w4,h4⟩:=jF (C':=(p, .lst (xs++[y]))::(Cs'++[D']).flatten) w' ci List.mem_cons_self (by simp[QC,c4]) cu (λc hc=>by
   rcases List.mem_cons.mp hc with rfl |hc
   ·rfl
   ·rw[QC,List.mem_append, ←c4] at hc
    rcases hc with hc |hc
    ·exact w'.mu c (by rw[List.flatten_cons];exact List.mem_append_right _ (List.mem_flatten.mpr ⟨_,List.mem_of_getElem? ci,List.mem_cons_of_mem _ hc⟩))
    ·exact w'.mu c (by rw[List.flatten_cons];exact List.mem_append_left _ hc))
  refine⟨p,xs,y,e,rfl,jJ,by rw[(P3.len q).1];exact jK,?_⟩
  refine hr a _ _ D w4 ?_ (by rw[h4];exact P')
  rw[h4]
  exact⟨s',⟨p,xs++[y],Cs'++[D'],e,q2.snoc ho,rfl⟩⟩
end
section
variable [fd:FdOk Fd]{u:TS}
def forN:List M->B->(B->M->Rs B)->Rs B
 | [],g,_=>.ok g
 |a::as,g,f=>(f g a).bind λg'=>forN as g' f
def C0:List M->B->(B->M->Rs (Ctl ρ B))->Rs (Ctl ρ B)
 | [],g,_=>.ok (.nx g)
 |a::as,g,f=>(f g a).bind λc=>match c with
  | .ret r=>.ok (.ret r)
  | .nx g'=>C0 as g' f
def XQ {m:Rs M}:(m.bind f).bind g=m.bind λa=>(f a).bind g:=by cases m<;> rfl
structure Tgt (K:W.Frag)(OO:List (List XD))(g:TG)(r:Enc M)(κ:Type) where
 set:κ->St->St
 sc:M->κ->SC->SC
 ok:∀{H:Hp}{v:V}{a:M}{U:St}{S:SC}{Q:St->Hp->Prop},r K (hid H OO) v a->S.p (hid H OO)->(∀x,(sc a x S).p (hid H OO)->Q (set x U) H)->g v U H Q
@[reducible] def tg1 [MonoE r](i:Nat):Tgt K OO (Yr i) r V where
 set:=λv U=>U.set i (some v)
 sc:=λa v S=>S.add K r v a
 ok:=fun {H v a U S Q} hr hs hq=>hq v ⟨hs,hr⟩
@[reducible] def tg2 {q:Enc L}[MonoE r][MonoE q](i j:Nat):Tgt K OO (OG K 2 (Z3 (Yr i) (Z3 (Yr j) Pl))) (rP2 r q) (V×V) where
 set:=λv U=>(U.set i (some v.1)).set j (some v.2)
 sc:=λa v S=>(S.add K r v.1 a.1).add K q v.2 a.2
 ok:=fun {H v a U S Q} r9 hs hq=>by obtain⟨p,x,y,e,h,h1,h2⟩:=r9;exact⟨p,_,e,SqT.of (Xv _ _ h),rfl,x,[y],rfl,y,[],rfl,rfl,hq (x,y) ⟨⟨hs,h1⟩,h2⟩⟩
@[reducible] def tg3 {q:Enc L}[MonoE r][MonoE q][MonoE t](i j k:Nat):Tgt K OO (OG K 3 (Z3 (Yr i) (Z3 (Yr j) (Z3 (Yr k) Pl)))) (rP3 r q t) (V×V×V) where
 set:=λv U=>((U.set i (some v.1)).set j (some v.2.1)).set k (some v.2.2)
 sc:=λa v S=>((S.add K r v.1 a.1).add K q v.2.1 a.2.1).add K t v.2.2 a.2.2
 ok:=fun {H v a U S Q} r9 hs hq=>by obtain⟨p,x,y,z,e,h,h1,h2,h3⟩:=r9;exact⟨p,_,e,SqT.of (Xv _ _ h),rfl,x,[y,z],rfl,y,[z],rfl,z,[],rfl,rfl,hq (x,y,z) ⟨⟨⟨hs,h1⟩,h2⟩,h3⟩⟩
structure Walk (K:W.Frag)(Er:Exc->Hp->Prop)(S:SC)(OO:List (List XD))(U:St)(wi:TI)(r:Enc M)(m:Rs (List M)):Prop where
 ok:∀{H:Hp}{R:It->Hp->Prop},W OO H->S.p (hid H OO)->PZ Er (λas H=>∀ J H',Xp H H'->
   (∀(i:Nat) a,as[i]?=some a->∀bp H2,W bp H2->Xp (hid H' OO) (hid H2 bp)->J.go i H2/\∀x H3,J.yld i H2 x H3->Xp H2 H3/\r K (hid H3 bp) x a)->
   (∀bp H2,W bp H2->Xp (hid H' OO) (hid H2 bp)->J.stop as.length H2)->R J H') H m->wi U H R
def Zv [z:MonoE r](he:EvS K Er S OO U te (rV r) m):Walk K Er S OO U (Ft K te) r m:=⟨fun {H R} w s P=>by
 refine he H _ w s (P.imp λas _ h v H' s' ⟨p,xs,e,hp,pr⟩=>⟨p,e,⟨xs,SqL.of (Xv _ _ hp)⟩,h _ H' s' ?_ ?_⟩)
 ·intro i a ha bp H2 w2 m2
  obtain⟨x,hx,rx⟩:=Paired.getR pr ha
  have hq:SqL K H2 p xs:=SqL.of (Xv _ _ (m2 _ _ hp))
  refine⟨⟨xs,x,hq,hx⟩,λy H3 r9=>?_⟩
  obtain⟨e3,hy⟩:=r9
  subst e3
  refine⟨Xp.refl _,?_⟩
  have:=hy xs hq
  rw[hx] at this
  cases this
  exact z.mono m2 rx
 ·intro bp H2 w2 m2
  exact⟨xs,SqL.of (Xv _ _ (m2 _ _ hp)),by rw[Paired.len pr];exact Nat.le_refl _⟩⟩
def Ej (as:List M):List (Int×M):=(List.range as.length).map (λ(i:Nat)=>(i:Int)) |>.zip as
def DT {i:Nat}{p:Int×M}(h:(Ej as)[i]?=some p):p.1=(i:Int)/\as[i]?=some p.2:=by
 unfold Ej at h
 rw[List.getElem?_zip_eq_some] at h
 obtain⟨h1,h2⟩:=h
 rw[List.getElem?_map] at h1
 have ah:i<as.length:=by
  rcases Nat.lt_or_ge i as.length with q |q
  ·exact q
  ·rw[List.getElem?_eq_none q] at h2;cases h2
 rw[List.getElem?_range ah] at h1
 exact⟨(Option.some.inj h1).symm,h2⟩
def Iy:(Ej as).length=as.length:=by simp[Ej]
def Jz [z:MonoE r](he:EvS K Er S OO U te (rV r) m):Walk K Er S OO U (WO K te) (rP2 Xf r) (m.bind λas=>.ok (Ej as)):=⟨fun {H R} w s P=>by
 refine he H _ w s ?_
 cases em:m with
 |bad=>rw[em] at P;exact P
 |err x=>rw[em] at P;exact P
 |ok as=>
  rw[em] at P
  intro v H' s' ⟨p,xs,e,hp,pr⟩
  refine⟨p,e,⟨xs,SqL.of (Xv _ _ hp)⟩,P _ H' s' ?_ ?_⟩
  ·intro i a ha bp H2 w2 m2
   obtain⟨ha1,ha2⟩:=DT ha
   obtain⟨x,hx,rx⟩:=Paired.getR pr ha2
   have hq:SqL K H2 p xs:=SqL.of (Xv _ _ (m2 _ _ hp))
   refine⟨⟨xs,x,hq,hx⟩,λy H3 h3=>?_⟩
   obtain⟨b,x',rfl,hb,rfl,hy⟩:=h3
   have:=hy xs hq
   rw[hx] at this
   cases this
   refine⟨Xw hb _,⟨b, .int i,x,rfl,Z8 w2 hb,by show V.int _=V.int _;rw[ha1],z.mono (m2.trans (Xh (Xw hb _))) rx⟩⟩
  ·intro bp H2 w2 m2
   exact⟨xs,SqL.of (Xv _ _ (m2 _ _ hp)),by rw[Iy,Paired.len pr];exact Nat.le_refl _⟩⟩
def Gy {lo hi:Int}{i:Nat}{a:Int}(h:(VL lo hi)[i]?=some a):a=lo+i/\i<(hi-lo).toNat:=by
 unfold VL at h
 rw[List.getElem?_map] at h
 rcases Nat.lt_or_ge i (hi-lo).toNat with q |q
 ·rw[List.getElem?_range q] at h;exact⟨(Option.some.inj h).symm,q⟩
 ·rw[List.getElem?_eq_none (by simpa using q)] at h;cases h
def Gu {lo hi:Int}:(VL lo hi).length=(hi-lo).toNat:=by simp[VL]
def Ny (lo hi:Int):Rs (List Int):=chk (-(2^62)<=lo/\lo<2^62/\ -(2^62)<=hi/\hi<2^62) (.ok (VL lo hi))
def K6 {m:Rs Int}(he:EvB K Er S OO U te Xf m):Walk K Er S OO U (TL (Xk te YD)) Xf (m.bind λn=>Ny 0 n):=⟨fun {H R} w s P=>
 he.run w s (λas H H' s' h J H2 s2=>h J H2 (s'.trans s2)) P λn v H1 s1 w1 q1 r1 P1=>by
  obtain⟨c,hc,P2⟩:=P1.okOf λx=>QE
  obtain⟨⟨_,_,h1,h2⟩,h3⟩:=Zc hc
  cases h3
  refine⟨n,by rw[show v= .int n from r1],h1,h2,P2 _ H1 (Xp.refl _) (λi a ha bp H2 w2 m2=>?_) λbp H2 w2 m2=>?_⟩
  ·obtain⟨e1,e2⟩:=Gy ha
   rw[Int.sub_zero] at e2
   refine⟨e2,λx H3 r9=>?_⟩
   obtain⟨e3,e4⟩:=r9
   subst e3
   exact⟨Xp.refl _,by rw[e4,e1];rfl⟩
  ·show n.toNat<=_
   rw[Gu,Int.sub_zero];exact Nat.le_refl _⟩
def B6 {ma:Rs Int}(ha:EvB K Er S OO U ta Xf ma)(hb:EvB K Er S OO U tb Xf mb):Walk K Er S OO U (Td (Xk ta (Xk tb YD))) Xf (ma.bind λlo=>mb.bind λn=>Ny lo n):=⟨fun {H R} w s P=>
 ha.run w s (λas H H' s' h J H2 s2=>h J H2 (s'.trans s2)) P λlo v H1 s1 w1 q1 r1 P1=>hb.run w1 q1 (λas H H' s' h J H2 s2=>h J H2 (s'.trans s2)) P1 λn v2 H2 s2 w2 q2 r2 P2'=>by
  obtain⟨c,hc,P2⟩:=P2'.okOf λx=>QE
  obtain⟨h1,h3⟩:=Zc hc
  cases h3
  refine⟨lo,n,by rw[show v= .int lo from r1,show v2= .int n from r2],h1,P2 _ H2 (Xp.refl _) (λi a ha bp H3 w3 m3=>?_) λbp H3 w3 m3=>?_⟩
  ·obtain⟨e1,e2⟩:=Gy ha
   refine⟨e2,λx H4 r9=>?_⟩
   obtain⟨e3,e4⟩:=r9
   subst e3
   exact⟨Xp.refl _,by rw[e4,e1];rfl⟩
  ·show(n-lo).toNat<=_
   rw[Gu];exact Nat.le_refl _⟩
def WZ {tb:TS}{f:B->Rs L}(J:Jn B ι)(T:∀OO,Tgt K OO g r κ)(x0:ι)(g0:B)(he:Walk K Er S OO U wi r m)(h1:OO=J.oo x0)(h2:U=J.ss x0)(h3:∀h,S.p h->(J.sc g0 x0).p h)
  (hb:∀g x a v,Sv Er ((T (J.oo x)).sc a v (J.sc g x)) (J.oo x) ((T (J.oo x)).set v (J.ss x)) tb (FNd J) (body g a))
  (hr:∀g x,Sv Er (J.sc g x) (J.oo x) (J.ss x) u Fd (f g)):Sv Er S OO U (Zf (Il wi g tb) u) Fd (m.bind λas=>(forN as g0 body).bind f):=λH D w s P=>by
 refine he.ok w s ?_
 cases em:m with
 |bad=>rw[em] at P;exact P
 |err x=>rw[em] at P;exact λH' s'=>P H' (Xv.trans s')
 |ok as=>
  rw[em] at P
  have P:PZ Er (Fd D) (hid H OO) ((forN as g0 body).bind f):=P
  intro It H' s' eW bG
  refine⟨λi mm U' H2=>mm=as.length-i/\i<=as.length/\∃x gg,U'=J.ss x/\W (J.oo x) H2/\Xp (hid H' OO) (hid H2 (J.oo x))/\(J.sc gg x).p (hid H2 (J.oo x))/\PZ Er (Fd D) (hid H2 (J.oo x)) ((forN (as.drop i) gg body).bind f),⟨as.length,rfl,Nat.zero_le _,x0,g0,h2,?_,?_,?_,?_⟩,?_⟩
  ·rw[←h1];exact w.keep s'
  ·rw[←h1];exact Xp.refl _
  ·rw[←h1];exact h3 _ (S.mono _ _ (Xh s') s)
  ·rw[←h1,List.drop_zero];exact PZ.tr (fd.tr D) (Xh s') P
  ·rintro i mm U' H2 ⟨rfl,hi,x,gg,rfl,w2,m2,cQ,P2⟩
   by_cases ah:i<as.length
   ·right
    have ha:as[i]?=some as[i]:=by simp[ah]
    obtain⟨h4,h5⟩:=eW i _ ha (J.oo x) H2 w2 m2
    refine⟨h4,λσ3 H3=>∃ x gg,σ3=J.ss x/\W (J.oo x) H3/\Xp (hid H' OO) (hid H3 (J.oo x))/\(J.sc gg x).p (hid H3 (J.oo x))/\PZ Er (Fd D) (hid H3 (J.oo x)) ((forN (as.drop (i+1)) gg body).bind f),λσ3 H3 q=>⟨as.length-(i+1),Nat.sub_lt_sub_left ah (Nat.lt_succ_self i),rfl,ah,q⟩,λy H3 hy=>?_⟩
    obtain⟨s3,r3⟩:=h5 y H3 hy
    have w3:=w2.keep s3
    have m3:=Xh (OO:=J.oo x) s3
    refine(T (J.oo x)).ok r3 ((J.sc gg x).mono _ _ m3 cQ) λv hv=>hb gg x as[i] v H3 _ w3 hv ?_
    rw[List.drop_eq_getElem_cons ah] at P2
    have P3:PZ Er (Fd D) (hid H2 (J.oo x)) ((body gg as[i]).bind λg'=>(forN (as.drop (i+1)) g' body).bind f):=by rw[←XQ];exact P2
    cases eb:body gg as[i] with
    |bad=>rw[eb] at P3;exact P3
    |err x=>rw[eb] at P3;exact λH4 s4=>P3 H4 (m3.trans s4)
    |ok g'=>
     rw[eb] at P3
     exact λx' H4 w4 m4 fJ=>⟨x',g',rfl,w4,m2.trans (m3.trans m4),fJ,PZ.tr (fd.tr D) (m3.trans m4) P3⟩
   ·left
    have e:i=as.length:=Nat.le_antisymm hi (Nat.not_lt.mp ah)
    subst e
    refine⟨bG (J.oo x) H2 w2 m2,hr gg x H2 D w2 cQ ?_⟩
    rw[List.drop_length] at P2
    exact P2
def SD {o:OE ρ}{tb:TS}{f:B->Rs ρ}(J:Jn B ι)(T:∀OO,Tgt K OO g r κ)(x0:ι)(g0:B)(he:Walk K Er S OO U wi r m)(h1:OO=J.oo x0)(h2:U=J.ss x0)(h3:∀h,S.p h->(J.sc g0 x0).p h)
  (hb:∀g x a v,Sv Er ((T (J.oo x)).sc a v (J.sc g x)) (J.oo x) ((T (J.oo x)).set v (J.ss x)) tb (FCd K o J) (body g a))
  (hr:∀g x,Sv Er (J.sc g x) (J.oo x) (J.ss x) u (FTd K o) (f g)):Sv Er S OO U (Zf (Il wi g tb) u) (FTd K o) (m.bind λas=>(C0 as g0 body).bind (Vm f)):=λH D w s P=>by
 refine he.ok w s ?_
 cases em:m with
 |bad=>rw[em] at P;exact P
 |err x=>rw[em] at P;exact λH' s'=>P H' (Xv.trans s')
 |ok as=>
  rw[em] at P
  have P:PZ Er (FTd K o D) (hid H OO) ((C0 as g0 body).bind (Vm f)):=P
  intro It H' s' eW bG
  refine⟨λi mm U' H2=>mm=as.length-i/\i<=as.length/\∃x gg,U'=J.ss x/\W (J.oo x) H2/\Xp (hid H' OO) (hid H2 (J.oo x))/\(J.sc gg x).p (hid H2 (J.oo x))/\PZ Er (FTd K o D) (hid H2 (J.oo x)) ((C0 (as.drop i) gg body).bind (Vm f)),⟨as.length,rfl,Nat.zero_le _,x0,g0,h2,?_,?_,?_,?_⟩,?_⟩
  ·rw[←h1];exact w.keep s'
  ·rw[←h1];exact Xp.refl _
  ·rw[←h1];exact h3 _ (S.mono _ _ (Xh s') s)
  ·rw[←h1,List.drop_zero];exact PZ.tr (FdOk.tr D) (Xh s') P
  ·rintro i mm U' H2 ⟨rfl,hi,x,gg,rfl,w2,m2,cQ,P2⟩
   by_cases ah:i<as.length
   ·right
    have ha:as[i]?=some as[i]:=by simp[ah]
    obtain⟨h4,h5⟩:=eW i _ ha (J.oo x) H2 w2 m2
    refine⟨h4,λσ3 H3=>∃ x gg,σ3=J.ss x/\W (J.oo x) H3/\Xp (hid H' OO) (hid H3 (J.oo x))/\(J.sc gg x).p (hid H3 (J.oo x))/\PZ Er (FTd K o D) (hid H3 (J.oo x)) ((C0 (as.drop (i+1)) gg body).bind (Vm f)),λσ3 H3 q=>⟨as.length-(i+1),Nat.sub_lt_sub_left ah (Nat.lt_succ_self i),rfl,ah,q⟩,λy H3 hy=>?_⟩
    obtain⟨s3,r3⟩:=h5 y H3 hy
    have w3:=w2.keep s3
    have m3:=Xh (OO:=J.oo x) s3
    refine(T (J.oo x)).ok r3 ((J.sc gg x).mono _ _ m3 cQ) λv hv=>hb gg x as[i] v H3 _ w3 hv ?_
    rw[List.drop_eq_getElem_cons ah] at P2
    have P3:PZ Er (FTd K o D) (hid H2 (J.oo x)) ((body gg as[i]).bind λc=>(match c with
     | .ret r=>Rs.ok (Ctl.ret r)
     | .nx g'=>C0 (as.drop (i+1)) g' body).bind (Vm f)):=by rw[←XQ];exact P2
    cases eb:body gg as[i] with
    |bad=>rw[eb] at P3;exact P3
    |err x=>rw[eb] at P3;exact λH4 s4=>P3 H4 (m3.trans s4)
    |ok c=>
     rw[eb] at P3
     cases c with
     |ret r=>exact FdOk.tr (Fd:=FTd K o) D r _ _ m3 P3
     |nx g'=>exact λx' H4 w4 m4 fJ=>⟨x',g',rfl,w4,m2.trans (m3.trans m4),fJ,PZ.tr (FdOk.tr D) (m3.trans m4) P3⟩
   ·left
    have e:i=as.length:=Nat.le_antisymm hi (Nat.not_lt.mp ah)
    subst e
    refine⟨bG (J.oo x) H2 w2 m2,hr gg x H2 D w2 cQ ?_⟩
    rw[List.drop_length] at P2
    exact P2
def NQ {o:OE ρ}{tb:TS}{f:B->Rs (Ctl ρ δ)}(J:Jn B ι)(T:∀OO,Tgt K OO g r κ)(x0:ι)(g0:B)(he:Walk K Er S OO U wi r m)(h1:OO=J.oo x0)(h2:U=J.ss x0)(h3:∀h,S.p h->(J.sc g0 x0).p h)
  (hb:∀g x a v,Sv Er ((T (J.oo x)).sc a v (J.sc g x)) (J.oo x) ((T (J.oo x)).set v (J.ss x)) tb (FCd K o J) (body g a))
  (hr:∀g x,Sv Er (J.sc g x) (J.oo x) (J.ss x) u (FCd K o J2) (f g)):Sv Er S OO U (Zf (Il wi g tb) u) (FCd K o J2) (m.bind λas=>(C0 as g0 body).bind (UL f)):=λH D w s P=>by
 refine he.ok w s ?_
 cases em:m with
 |bad=>rw[em] at P;exact P
 |err x=>rw[em] at P;exact λH' s'=>P H' (Xv.trans s')
 |ok as=>
  rw[em] at P
  have P:PZ Er (FCd K o J2 D) (hid H OO) ((C0 as g0 body).bind (UL f)):=P
  intro It H' s' eW bG
  refine⟨λi mm U' H2=>mm=as.length-i/\i<=as.length/\∃x gg,U'=J.ss x/\W (J.oo x) H2/\Xp (hid H' OO) (hid H2 (J.oo x))/\(J.sc gg x).p (hid H2 (J.oo x))/\PZ Er (FCd K o J2 D) (hid H2 (J.oo x)) ((C0 (as.drop i) gg body).bind (UL f)),⟨as.length,rfl,Nat.zero_le _,x0,g0,h2,?_,?_,?_,?_⟩,?_⟩
  ·rw[←h1];exact w.keep s'
  ·rw[←h1];exact Xp.refl _
  ·rw[←h1];exact h3 _ (S.mono _ _ (Xh s') s)
  ·rw[←h1,List.drop_zero];exact PZ.tr (FdOk.tr D) (Xh s') P
  ·rintro i mm U' H2 ⟨rfl,hi,x,gg,rfl,w2,m2,cQ,P2⟩
   by_cases ah:i<as.length
   ·right
    have ha:as[i]?=some as[i]:=by simp[ah]
    obtain⟨h4,h5⟩:=eW i _ ha (J.oo x) H2 w2 m2
    refine⟨h4,λσ3 H3=>∃ x gg,σ3=J.ss x/\W (J.oo x) H3/\Xp (hid H' OO) (hid H3 (J.oo x))/\(J.sc gg x).p (hid H3 (J.oo x))/\PZ Er (FCd K o J2 D) (hid H3 (J.oo x)) ((C0 (as.drop (i+1)) gg body).bind (UL f)),λσ3 H3 q=>⟨as.length-(i+1),Nat.sub_lt_sub_left ah (Nat.lt_succ_self i),rfl,ah,q⟩,λy H3 hy=>?_⟩
    obtain⟨s3,r3⟩:=h5 y H3 hy
    have w3:=w2.keep s3
    have m3:=Xh (OO:=J.oo x) s3
    refine(T (J.oo x)).ok r3 ((J.sc gg x).mono _ _ m3 cQ) λv hv=>hb gg x as[i] v H3 _ w3 hv ?_
    rw[List.drop_eq_getElem_cons ah] at P2
    have P3:PZ Er (FCd K o J2 D) (hid H2 (J.oo x)) ((body gg as[i]).bind λc=>(match c with
     | .ret r=>Rs.ok (Ctl.ret r)
     | .nx g'=>C0 (as.drop (i+1)) g' body).bind (UL f)):=by rw[←XQ];exact P2
    cases eb:body gg as[i] with
    |bad=>rw[eb] at P3;exact P3
    |err x=>rw[eb] at P3;exact λH4 s4=>P3 H4 (m3.trans s4)
    |ok c=>
     rw[eb] at P3
     cases c with
     |ret r=>exact FdOk.tr (Fd:=FTd K o) D r _ _ m3 P3
     |nx g'=>exact λx' H4 w4 m4 fJ=>⟨x',g',rfl,w4,m2.trans (m3.trans m4),fJ,PZ.tr (FdOk.tr D) (m3.trans m4) P3⟩
   ·left
    have e:i=as.length:=Nat.le_antisymm hi (Nat.not_lt.mp ah)
    subst e
    refine⟨bG (J.oo x) H2 w2 m2,hr gg x H2 D w2 cQ ?_⟩
    rw[List.drop_length] at P2
    exact P2
def Kd:Nat->B->(B->Rs Bool)->(B->Rs B)->Rs B
 |0,_,_,_=>.bad
 |n+1,g,c,f=>(c g).bind λb=>if b=true then(f g).bind λg'=>Kd n g' c f else .ok g
def NH {tb:TS}{mc:B->Rs Bool}{f:B->Rs L}(J:Jn B ι)(n:Nat)(x0:ι)(g0:B)(h1:OO=J.oo x0)(h2:U=J.ss x0)(h3:∀h,S.p h->(J.sc g0 x0).p h)
  (hc:∀g x,EvT Er (J.sc g x) (J.oo x) (J.ss x) c (mc g))(hb:∀g x,Sv Er (J.sc g x) (J.oo x) (J.ss x) tb (FNd J) (body g))
  (hr:∀g x,Sv Er (J.sc g x) (J.oo x) (J.ss x) u Fd (f g)):Sv Er S OO U (Zf (Du c tb) u) Fd ((Kd n g0 mc body).bind f):=λH D w s P=>by
 refine⟨λmm U' H2=>∃ x gg,U'=J.ss x/\W (J.oo x) H2/\(J.sc gg x).p (hid H2 (J.oo x))/\PZ Er (Fd D) (hid H2 (J.oo x)) ((Kd mm gg mc body).bind f),⟨n,x0,g0,h2,by rw[←h1];exact w,by rw[←h1];exact h3 _ s,by rw[←h1];exact P⟩,?_⟩
 rintro mm U' H2 ⟨x,gg,rfl,w2,cQ,P2⟩
 cases mm with
 |zero=>exact P2.elim
 |succ mm=>
  have P3:PZ Er (Fd D) (hid H2 (J.oo x)) ((mc gg).bind λb=>(if b=true then(body gg).bind λg'=>Kd mm g' mc body else .ok gg).bind f):=by rw[←XQ];exact P2
  refine(hc gg x).st w2 cQ P3 λb H3 w3 sc3 P4=>?_
  cases b with
  |false=>exact hr gg x H3 D w3 sc3 P4
  |true=>
   rw[if_pos rfl] at P4⊢
   refine⟨λσ3 H4=>∃ x gg,σ3=J.ss x/\W (J.oo x) H4/\(J.sc gg x).p (hid H4 (J.oo x))/\PZ Er (Fd D) (hid H4 (J.oo x)) ((Kd mm gg mc body).bind f),λσ3 H4 q=>⟨mm,Nat.lt_succ_self _,q⟩,hb gg x H3 _ w3 sc3 ?_⟩
   rw[XQ] at P4
   cases eb:body gg with
   |bad=>rw[eb] at P4;exact P4
   |err x=>rw[eb] at P4;exact P4
   |ok g'=>
    rw[eb] at P4
    exact λx' H5 w5 m5 sc5=>⟨x',g',rfl,w5,sc5,PZ.tr (fd.tr D) m5 P4⟩
def EG (as:List M)(f:M->Rs L):Rs (List L):=match as with
 | []=>.ok []
 |a::as=>(f a).bind λb=>(EG as f).bind λbs=>.ok (b::bs)
def Nw (as:List M)(f:M->Rs L):Rs (List L):=chk (as.length<=sizeLine) (EG as f)
def Gc (as:List M)(c:M->Rs Bool)(f:M->Rs L):Rs (List L):=match as with
 | []=>.ok []
 |a::as=>(c a).bind λb=>if b=true then(f a).bind λb=>(Gc as c f).bind λbs=>.ok (b::bs) else Gc as c f
def T3 (as:List M)(c:M->Rs Bool)(f:M->Rs L):Rs (List L):=chk (as.length<=sizeLine) (Gc as c f)
def PZ.chk {F:L->Hp->Prop}[Decidable c]{m:Rs L}(P:PZ Er F H (chk c m)):c/\PZ Er F H m:=by
 unfold L2.chk at P;split at P
 ·exact⟨by assumption,P⟩
 ·exact P.elim
def SA [z:MonoO o]{Q:VK}(w:W (Cs.flatten::OO) H)(m0:Xp (hid H0 OO) (hid H (Cs.flatten::OO)))(s0:Xp H0 H)(pr:P3 (o K (hid H (Cs.flatten::OO))) xs as Cs)(P:FO K OO OO (oL o) Q as H0):∀p,H p=none->Q (.ref p) (upd H p (.lst xs)):=λp hp=>by
 have hn:=Um (OO:=Cs.flatten::OO) hp (o:=.lst xs)
 have wn:=w.new hp (o:=.lst xs) rfl
 have pe:(((p,HO.lst xs)::Cs.flatten)::OO).flatten.Perm ([(p,HO.lst xs)]::Cs.flatten::OO).flatten:=by simp
 refine P (.ref p) ((p, .lst xs)::Cs.flatten) _ (s0.trans (Xw hp _)) (wn.of pe) ?_ ?_
 ·rw[XE pe];exact m0.trans hn
 ·rw[XE pe]
  exact⟨p,xs,Cs,rfl,pr.imp λ_ _ _ h=>z.mono hn h,rfl⟩
def YG {o:OE L}[z:MonoO o](T:∀OO,Tgt K OO g r κ)(he:Walk K Er S OO U wi r m)
  (hb:∀C a v,Ev K Er ((T (C::OO)).sc a v S) (C::OO) (C::OO) ((T (C::OO)).set v (X6 n caps U)) te o (f a)):Ev K Er S OO OO U (Cr n caps wi g FC te) (oL o) (m.bind λas=>Nw as f):=λH Q w s P=>by
 refine he.ok w s ?_
 cases em:m with
 |bad=>rw[em] at P;exact P
 |err x=>rw[em] at P;exact P
 |ok as=>
  rw[em] at P
  obtain⟨hsz,P⟩:=PZ.chk (show PZ Er _ H (chk (as.length<=sizeLine) (EG as f)) from P)
  intro It H' s' eW bG
  -- what is left: dC ZI of dC items, then all
  refine⟨λi mm ys H2=>mm=as.length-i/\i<=as.length/\∃bs Cs,Xp H H2/\W (Cs.flatten::OO) H2/\Xp (hid H' OO) (hid H2 (Cs.flatten::OO))/\P3 (o K (hid H2 (Cs.flatten::OO))) ys bs Cs/\bs.length=i/\PZ Er (FO K OO OO (oL o) Q) H ((EG (as.drop i) f).bind λZI=>.ok (bs++ZI)),
   ⟨as.length,rfl,Nat.zero_le _,[],[],s',(w.keep s').nil,by show Xp _ (hid H' ([]::OO));rw[YK];exact Xp.refl _, .nil,rfl,?_⟩,?_⟩
  ·rw[List.drop_zero]
   revert P
   cases EG as f<;> exact λz=>z
  ·rintro i mm ys H2 ⟨rfl,hi,bs,Cs,s2,w2,m2,pr,ae,P2⟩
   refine⟨by rw[pr.len.1,ae];omega,?_⟩
   by_cases ah:i<as.length
   ·right
    have ha:as[i]?=some as[i]:=by simp[ah]
    obtain⟨h4,h5⟩:=eW i _ ha (Cs.flatten::OO) H2 w2 m2
    refine⟨h4,λys' H3=>∃ bs Cs,Xp H H3/\W (Cs.flatten::OO) H3/\Xp (hid H' OO) (hid H3 (Cs.flatten::OO))/\P3 (o K (hid H3 (Cs.flatten::OO))) ys' bs Cs/\bs.length=i+1/\PZ Er (FO K OO OO (oL o) Q) H ((EG (as.drop (i+1)) f).bind λZI=>.ok (bs++ZI)),λys' H3 q=>⟨as.length-(i+1),Nat.sub_lt_sub_left ah (Nat.lt_succ_self i),rfl,ah,q⟩,λy H3 hy=>?_⟩
    obtain⟨s3,r3⟩:=h5 y H3 hy
    have w3:=w2.keep s3
    have m3:=Xh (OO:=Cs.flatten::OO) s3
    have sS:S.p (hid H3 (Cs.flatten::OO)):=S.mono _ _ ((Xh s').trans (m2.trans m3)) s
    refine(T (Cs.flatten::OO)).ok r3 sS λv hv=>?_
    show FC _ _ _
    refine Wd ?_
    rw[List.drop_eq_getElem_cons ah] at P2
    have aD:PZ Er (FO K OO OO (oL o) Q) H ((f as[i]).bind λb=>(EG (as.drop (i+1)) f).bind λZI=>.ok (bs++b::ZI)):=by
     have:((f as[i]).bind λb=>(EG (as.drop (i+1)) f).bind λZI=>Rs.ok (bs++b::ZI))=(EG (as[i]::as.drop (i+1)) f).bind λZI=>.ok (bs++ZI):=by
      show _=((f as[i]).bind λb=>(EG (as.drop (i+1)) f).bind λbs=>Rs.ok (b::bs)).bind _
      rw[XQ];congr 1;funext b;rw[XQ];rfl
     rw[this];exact P2
    refine hb Cs.flatten as[i] v H3 _ w3 hv ?_
    cases eb:f as[i] with
    |bad=>rw[eb] at aD;exact aD
    |err x=>rw[eb] at aD;exact λH4 s4=>aD H4 (s2.trans (s3.trans s4))
    |ok b=>
     rw[eb] at aD
     intro v' C' H4 s4 w4 m4 ho
     have pe:((Cs++[C']).flatten::OO).flatten.Perm (C'::Cs.flatten::OO).flatten:=by
      simp only[QC,List.flatten_cons]
      rw[List.append_assoc, ←List.append_assoc, ←List.append_assoc]
      exact List.perm_append_comm.append_right _
     refine⟨bs++[b],Cs++[C'],s2.trans (s3.trans s4),w4.of pe,?_,?_,by simp[ae],?_⟩
     ·rw[XE pe];exact m2.trans (m3.trans m4)
     ·rw[XE pe];exact P3.snoc (pr.imp λ_ _ _ h=>z.mono (m3.trans m4) h) ho
     ·have P4:PZ Er (FO K OO OO (oL o) Q) H ((EG (as.drop (i+1)) f).bind λZI=> .ok (bs++b::ZI)):=aD
      simpa using P4
   ·left
    have e:i=as.length:=Nat.le_antisymm hi (Nat.not_lt.mp ah)
    subst e
    refine⟨bG (Cs.flatten::OO) H2 w2 m2,?_⟩
    rw[List.drop_length] at P2
    have aD:FO K OO OO (oL o) Q (bs++[]) H:=P2
    rw[List.append_nil] at aD
    exact SA (H0:=H) w2 ((Xh s').trans m2) s2 pr aD
def ZF {o:OE L}[z:MonoO o](T:∀OO,Tgt K OO g r κ)(he:Walk K Er S OO U wi r m)
  (hc:∀C a v,EvT Er ((T (C::OO)).sc a v S) (C::OO) ((T (C::OO)).set v (X6 n caps U)) tt (c a))
  (hb:∀C a v,Ev K Er ((T (C::OO)).sc a v S) (C::OO) (C::OO) ((T (C::OO)).set v (X6 n caps U)) te o (f a)):Ev K Er S OO OO U (Cr n caps wi g tt te) (oL o) (m.bind λas=>T3 as c f):=λH Q w s P=>by
 refine he.ok w s ?_
 cases em:m with
 |bad=>rw[em] at P;exact P
 |err x=>rw[em] at P;exact P
 |ok as=>
  rw[em] at P
  obtain⟨hsz,P⟩:=PZ.chk (show PZ Er _ H (chk (as.length<=sizeLine) (Gc as c f)) from P)
  intro It H' s' eW bG
  refine⟨λi mm ys H2=>mm=as.length-i/\i<=as.length/\∃bs Cs,Xp H H2/\W (Cs.flatten::OO) H2/\Xp (hid H' OO) (hid H2 (Cs.flatten::OO))/\P3 (o K (hid H2 (Cs.flatten::OO))) ys bs Cs/\bs.length<=i/\PZ Er (FO K OO OO (oL o) Q) H ((Gc (as.drop i) c f).bind λZI=>.ok (bs++ZI)),
   ⟨as.length,rfl,Nat.zero_le _,[],[],s',(w.keep s').nil,by show Xp _ (hid H' ([]::OO));rw[YK];exact Xp.refl _, .nil,Nat.zero_le _,?_⟩,?_⟩
  ·rw[List.drop_zero]
   revert P
   cases Gc as c f<;> exact λz=>z
  ·rintro i mm ys H2 ⟨rfl,hi,bs,Cs,s2,w2,m2,pr,ae,P2⟩
   refine⟨by rw[pr.len.1];omega,?_⟩
   by_cases ah:i<as.length
   ·right
    have ha:as[i]?=some as[i]:=by simp[ah]
    obtain⟨h4,h5⟩:=eW i _ ha (Cs.flatten::OO) H2 w2 m2
    refine⟨h4,λys' H3=>∃ bs Cs,Xp H H3/\W (Cs.flatten::OO) H3/\Xp (hid H' OO) (hid H3 (Cs.flatten::OO))/\P3 (o K (hid H3 (Cs.flatten::OO))) ys' bs Cs/\bs.length<=i+1/\PZ Er (FO K OO OO (oL o) Q) H ((Gc (as.drop (i+1)) c f).bind λZI=>.ok (bs++ZI)),λys' H3 q=>⟨as.length-(i+1),Nat.sub_lt_sub_left ah (Nat.lt_succ_self i),rfl,ah,q⟩,λy H3 hy=>?_⟩
    obtain⟨s3,r3⟩:=h5 y H3 hy
    have w3:=w2.keep s3
    have m3:=Xh (OO:=Cs.flatten::OO) s3
    have sS:S.p (hid H3 (Cs.flatten::OO)):=S.mono _ _ ((Xh s').trans (m2.trans m3)) s
    refine(T (Cs.flatten::OO)).ok r3 sS λv hv=>?_
    rw[List.drop_eq_getElem_cons ah] at P2
    have aD:PZ Er (FO K OO OO (oL o) Q) H ((c as[i]).bind λb=>(if b=true then(f as[i]).bind λb=>(Gc (as.drop (i+1)) c f).bind λbs=>.ok (b::bs) else Gc (as.drop (i+1)) c f).bind λZI=>.ok (bs++ZI)):=by
     rw[←XQ];exact P2
    refine hc Cs.flatten as[i] v H3 _ w3 hv ?_
    cases ec:c as[i] with
    |bad=>rw[ec] at aD;exact aD
    |err x=>rw[ec] at aD;exact λH4 s4=>aD H4 (s2.trans (s3.trans s4))
    |ok b=>
     rw[ec] at aD
     intro H4 s4
     have w4:=w3.keep s4
     have m4:=Xh (OO:=Cs.flatten::OO) s4
     cases b with
     |false=>exact⟨bs,Cs,s2.trans (s3.trans s4),w4,m2.trans (m3.trans m4),pr.imp λ_ _ _ h=>z.mono (m3.trans m4) h,Nat.le_succ_of_le ae,aD⟩
     |true=>
      rw[if_pos rfl]
      have P4:PZ Er (FO K OO OO (oL o) Q) H ((f as[i]).bind λb=>(Gc (as.drop (i+1)) c f).bind λZI=>.ok (bs++b::ZI)):=by
       have:((f as[i]).bind λb=>(Gc (as.drop (i+1)) c f).bind λZI=>Rs.ok (bs++b::ZI))=((f as[i]).bind λb=>(Gc (as.drop (i+1)) c f).bind λbs=>Rs.ok (b::bs)).bind λZI=>.ok (bs++ZI):=by
        rw[XQ];congr 1;funext b;rw[XQ];rfl
       rw[this];exact aD
      refine hb Cs.flatten as[i] v H4 _ w4 (((T (Cs.flatten::OO)).sc as[i] v S).mono _ _ m4 hv) ?_
      cases eb:f as[i] with
      |bad=>rw[eb] at P4;exact P4
      |err x=>rw[eb] at P4;exact λH5 s5=>P4 H5 (s2.trans (s3.trans (s4.trans s5)))
      |ok b=>
       rw[eb] at P4
       intro v' C' H5 s5 w5 m5 ho
       have pe:((Cs++[C']).flatten::OO).flatten.Perm (C'::Cs.flatten::OO).flatten:=by
        simp only[QC,List.flatten_cons]
        rw[List.append_assoc, ←List.append_assoc, ←List.append_assoc]
        exact List.perm_append_comm.append_right _
       refine⟨bs++[b],Cs++[C'],s2.trans (s3.trans (s4.trans s5)),w5.of pe,?_,?_,by simpa using ae,?_⟩
       ·rw[XE pe];exact m2.trans (m3.trans (m4.trans m5))
       ·rw[XE pe];exact P3.snoc (pr.imp λ_ _ _ h=>z.mono (m3.trans (m4.trans m5)) h) ho
       ·have P5:PZ Er (FO K OO OO (oL o) Q) H ((Gc (as.drop (i+1)) c f).bind λZI=> .ok (bs++b::ZI)):=P4
        simpa using P5
   ·left
    have e:i=as.length:=Nat.le_antisymm hi (Nat.not_lt.mp ah)
    subst e
    refine⟨bG (Cs.flatten::OO) H2 w2 m2,?_⟩
    rw[List.drop_length] at P2
    have aD:FO K OO OO (oL o) Q (bs++[]) H:=P2
    rw[List.append_nil] at aD
    exact SA (H0:=H) w2 ((Xh s').trans m2) s2 pr aD
def US (as:List M)(i:Int)(a:M):Rs (List M):=match ixN as.length i with
 |some j=>.ok (as.set j a)
 |none=>.bad
end
section
variable [fd:FdOk Fd]{u:TS}
def Im {D:List XD}{o:HO}(w:W (D::OO) H)(hk:OO[k]?=some C)(hp:p∈C.map (·.1))(dS:p∈C'.map (·.1))(cX:(C'.map (·.1)).Nodup)(bq:∀b∈C'.map (·.1),b∈(C++D).map (·.1))(ht:∀c∈C',upd H p o c.1=some c.2)(hm:∀c∈C',TW c.2=true):
  W (OO.set k C') (upd H p o)/\Xp (hid H (D::OO)) (hid (upd H p o) (OO.set k C')):=by
 have ah:k<OO.length:=by
  rcases Nat.lt_or_ge k OO.length with h |h
  ·exact h
  ·rw[List.getElem?_eq_none h] at hk;cases hk
 have h1:=XN hk
 have h2:=XN (OO:=OO.set k C') (k:=k) (C:=C') (by simp[ah])
 rw[set_set] at h2
 have h3:(OO.set k C').flatten.Perm (C'++(OO.set k []).flatten):=by simpa using h2.symm
 have h4:(D::OO).flatten.Perm ((C++D)++(OO.set k []).flatten):=by
  rw[List.flatten_cons]
  refine((by simpa using h1.symm:OO.flatten.Perm (C++(OO.set k []).flatten)).append_left D).trans ?_
  rw[←List.append_assoc]
  exact List.perm_append_comm.append_right _
 have ft:(((C++D)++(OO.set k []).flatten).map (·.1)).Nodup:=(h4.map _).nodup_iff.mp w.nd
 rw[List.map_append] at ft
 obtain⟨n1,n2,n3⟩:=List.nodup_append.mp ft
 refine⟨⟨λc hc=>?_,?_,λc hc=>?_⟩,λb v q=>?_⟩
 ·rcases List.mem_append.mp (h3.mem_iff.mp hc) with hc |hc
  ·exact ht c hc
  ·have aN:c.1≠p:=λe=>n3 p (bq p dS) c.1 (List.mem_map.mpr ⟨c,hc,rfl⟩) e.symm
   rw[XH aN]
   exact w.tr c (h4.mem_iff.mpr (by simp[hc]))
 ·refine((h3.map _).nodup_iff).mpr ?_
  rw[List.map_append]
  exact List.nodup_append.mpr ⟨cX,n2,λa ha b hb=>n3 a (bq a ha) b hb⟩
 ·rcases List.mem_append.mp (h3.mem_iff.mp hc) with hc |hc
  ·exact hm c hc
  ·exact w.mu c (h4.mem_iff.mpr (by simp[hc]))
 ·obtain⟨q1,q2⟩:=XU q
  have hbp:b≠p:=λe=>q2 (by
   rw[e]
   obtain⟨c,hc,rfl⟩:=List.mem_map.mp hp
   exact UE (h4.mem_iff.mpr (by simp[hc])))
  refine YS (by rw[XH hbp];exact q1) λz=>q2 ?_
  obtain⟨o',cN⟩:=H9 z
  rcases List.mem_append.mp (h3.mem_iff.mp cN) with hc |hc
  ·obtain⟨c,eM,e⟩:=List.mem_map.mp (bq b (List.mem_map.mpr ⟨_,hc,rfl⟩))
   rw[←e]
   exact UE (h4.mem_iff.mpr (List.mem_append_left _ eM))
  ·exact UE (c:=(b,o')) (h4.mem_iff.mpr (by simp[hc]))
def Ax {D:List XD}{Cs':List (List XD)}{xs':List V}(w:W (D::OO) H)(hk:OO[k]?=some ((p, .lst xs)::Cs.flatten))(bq:∀c∈Cs'.flatten,c∈Cs.flatten++D)(cX:(Cs'.flatten.map (·.1)).Nodup):
  W (OO.set k ((p, .lst xs')::Cs'.flatten)) (upd H p (.lst xs'))/\Xp (hid H (D::OO)) (hid (upd H p (.lst xs')) (OO.set k ((p, .lst xs')::Cs'.flatten))):=by
 have h1:=XN hk
 have w3:W [((p,HO.lst xs)::(Cs.flatten++D))++(OO.set k []).flatten] H:=w.of (by
  simp only[List.flatten_cons,List.flatten_nil,List.append_nil]
  refine List.Perm.trans ?_ ((by simpa using h1:(((p,HO.lst xs)::Cs.flatten)++(OO.set k []).flatten).Perm OO.flatten).append_left D)
  rw[←List.append_assoc]
  refine List.Perm.append_right _ ?_
  exact(List.perm_append_comm (l₁:=(p,HO.lst xs)::Cs.flatten) (l₂:=D)))
 have nd:=w3.nd
 simp only[fl,List.flatten_cons,List.flatten_nil,List.append_nil,List.map_append,List.cons_append,List.map_cons] at nd
 have aN:∀c∈Cs'.flatten,c.1≠p:=λc hc e=>by
  refine(List.nodup_cons.mp nd).1 ?_
  rw[←e]
  refine List.mem_append_left _ ?_
  rw[←List.map_append]
  exact List.mem_map.mpr ⟨c,bq c hc,rfl⟩
 refine Im w hk List.mem_cons_self List.mem_cons_self ?_ ?_ ?_ ?_
 ·rw[List.map_cons,List.nodup_cons]
  refine⟨λz=>?_,cX⟩
  obtain⟨c,hc,e⟩:=List.mem_map.mp z
  exact aN c hc e
 ·intro b hb
  rcases List.mem_cons.mp hb with rfl |hb
  ·exact List.mem_cons_self
  ·obtain⟨c,hc,rfl⟩:=List.mem_map.mp hb
   rw[List.cons_append,List.map_cons]
   exact List.mem_cons_of_mem _ (List.mem_map.mpr ⟨c,bq c hc,rfl⟩)
 ·intro c hc
  rcases List.mem_cons.mp hc with rfl |hc
  ·exact Ym
  ·rw[XH (aN c hc)]
   exact w3.tr c (by
    rw[List.flatten_cons,List.flatten_nil,List.append_nil]
    exact List.mem_append_left _ (List.mem_cons_of_mem _ (bq c hc)))
 ·intro c hc
  rcases List.mem_cons.mp hc with rfl |hc
  ·rfl
  ·exact w3.mu c (by
    rw[List.flatten_cons,List.flatten_nil,List.append_nil]
    exact List.mem_append_left _ (List.mem_cons_of_mem _ (bq c hc)))
def LA {R:List XD}(q:oL o K h (.ref p) as ((p, .lst xs)::R)):∃Cs,P3 (o K h) xs as Cs/\R=Cs.flatten:=by
 obtain⟨p',xs',Cs,e,q,c⟩:=q
 injection c with c1 c2
 injection c1 with c3 c4
 injection c4 with c5
 subst c5
 exact⟨Cs,q,c2⟩
def Mn {a:M}(h:US as i a= .ok bs):∃j,ixN as.length i=some j/\bs=as.set j a:=by
 unfold US at h;split at h
 ·cases h;exact⟨_,by assumption,rfl⟩
 ·cases h
def Mg {a:M}{x:Exc}:US as i a≠ .err x:=by unfold US;split<;> exact λz=>nomatch z
def Ub {r m:List XD}(h:(l++r).Perm m)(n:(m.map (·.1)).Nodup):(l.map (·.1)).Nodup:=by
 have:((l++r).map (·.1)).Nodup:=(h.map _).nodup_iff.mpr n
 rw[List.map_append] at this
 exact(List.nodup_append.mp this).1
def JR {D:List XD}(hj:j<Cs.length):((Cs.set j D).flatten++Cs[j]).Perm (Cs.flatten++D):=by
 have h1:=XN (OO:=Cs) (k:=j) (C:=Cs[j]) (by simp[hj])
 have h2:=XN (OO:=Cs.set j D) (k:=j) (C:=D) (by simp[hj])
 rw[set_set] at h2
 have h3:(Cs.set j D).flatten.Perm (D++(Cs.set j []).flatten):=by simpa using h2.symm
 have h4:Cs.flatten.Perm (Cs[j]++(Cs.set j []).flatten):=by simpa using h1.symm
 refine(h3.append_right _).trans (List.Perm.trans ?_ (h4.append_right _).symm)
 refine List.perm_append_comm.trans ((List.perm_append_comm.append_left _).trans ?_)
 rw[List.append_assoc]
def Q6 {D:List XD}(w:W (D::OO) H)(hk:OO[k]?=some ((p, .lst xs)::Cs.flatten)):((Cs.flatten++D).map (·.1)).Nodup:=by
 have h1:=XN hk
 have w3:W [((p,HO.lst xs)::(Cs.flatten++D))++(OO.set k []).flatten] H:=w.of (by
  simp only[List.flatten_cons,List.flatten_nil,List.append_nil]
  refine List.Perm.trans ?_ ((by simpa using h1:(((p,HO.lst xs)::Cs.flatten)++(OO.set k []).flatten).Perm OO.flatten).append_left D)
  rw[←List.append_assoc]
  refine List.Perm.append_right _ ?_
  exact(List.perm_append_comm (l₁:=(p,HO.lst xs)::Cs.flatten) (l₂:=D)))
 have nd:=w3.nd
 simp only[fl,List.flatten_cons,List.flatten_nil,List.append_nil,List.cons_append,List.map_cons] at nd
 have n2:=(List.nodup_cons.mp nd).2
 rw[List.map_append] at n2
 exact(List.nodup_append.mp n2).1
def NP {ti:TE}[MonoO o]{m:Rs M}{f:List M->Rs L}{v:V}(i k:Nat)(hσ:U[i]?=some (some v))(ci:OO'[k]?=some C)(h:∀x,S.p x->oL o K x v as C)(he:Ev K Er S OO OO' U ta o m)
  (hi:∀D,EvB K Er S (D::OO') U ti Xf mi)
  (hr:∀bs C',Sv Er (S.addO K (oL o) v bs C') (OO'.set k C') U u Fd (f bs)):Sv Er S OO U (Zf (DW ta (AJ (JP i) ti N7)) u) Fd (m.bind λa=>mi.bind λj=>(US as j a).bind f):=λH D w s P=>
 he.st w s P λa y D' H' w' s' ho P'=>⟨v,hσ,(hi D').st w' s' P' λj z H2 s2 w2 q2 r2 P2=>by
  obtain⟨p,xs,Cs,e,q,c⟩:=h _ q2
  subst c
  have hH:H2 p=some (.lst xs):=w2.tr (p, .lst xs) (by rw[List.flatten_cons];exact List.mem_append_right _ (List.mem_flatten.mpr ⟨_,List.mem_of_getElem? ci,List.mem_cons_self⟩))
  cases es:US as j a with
  |bad=>rw[es] at P2;exact P2.elim
  |err x=>exact absurd es Mg
  |ok bs=>
   rw[es] at P2
   obtain⟨jj,h1,rfl⟩:=Mn es
   have hjl:jj<as.length:=by
    unfold ixN at h1
    split at h1
    ·split at h1
     ·cases h1;omega
     ·cases h1
    ·split at h1
     ·cases h1;omega
     ·cases h1
   have hjC:jj<Cs.length:=by rw[q.len.2];exact hjl
   have hp:=JR (Cs:=Cs) (j:=jj) (D:=D') hjC
   obtain⟨w3,m3⟩:=Ax (xs':=xs.set jj y) (Cs':=Cs.set jj D') w2 ci (λc hc=>hp.mem_iff.mp (List.mem_append_left _ hc)) (Ub hp (Q6 w2 ci))
   refine⟨p,xs,j,jj,e,r2,hH,by rw[q.len.1];exact h1,hr _ _ _ D w3 ⟨S.mono _ _ m3 q2,⟨p,_,_,e,P3.imp (λ_ _ _ z=>MonoO.mono m3 z) (P3.set (MonoO.mono (Xh s2) ho) jj q),rfl⟩⟩ (PZ.tr (fd.tr D) m3 P2)⟩⟩
def Ao [MonoO o]{f:List M->Rs L}{v:V}(i k:Nat)(hσ:U[i]?=some (some v))(hk:OO[k]?=some C)(ci:OO'[k]?=some C)(h:∀x,S.p x->oL o K x v as C)(he:Ev K Er S OO OO' U ta (oL o) m)
  (hr:∀bs C',Sv Er (S.addO K (oL o) v (as++bs) C') (OO'.set k C') U u Fd (f (as++bs))):Sv Er S OO U (Zf (Gh (tBM K "list" BK (JP i) (Xk ta YD))) u) Fd (m.bind λbs=>chk (as.length+bs.length<=sizeLine) (f (as++bs))):=λH D w s P=>by
 obtain⟨p,xs,Cs,e,q,c⟩:=h _ s
 subst c
 have hH:H p=some (.lst xs):=w.tr (p, .lst xs) (List.mem_flatten.mpr ⟨_,List.mem_of_getElem? hk,List.mem_cons_self⟩)
 refine⟨v,hσ,by rw[e];exact .inl ⟨rfl,_,SqL.of hH⟩,he.st w s P λbs y D' H' w' s' ho P'=>?_⟩
 obtain⟨hsz,P'⟩:=PZ.chk P'
 subst e
 obtain⟨Cs2,q2,c2⟩:=LA (h _ s')
 obtain⟨p',zs,Ds,e3,q3,c3⟩:=ho
 subst c3
 have jJ:H' p=some (.lst xs):=w'.tr (p, .lst xs) (by rw[List.flatten_cons];exact List.mem_append_right _ (List.mem_flatten.mpr ⟨_,List.mem_of_getElem? ci,List.mem_cons_self⟩))
 have gJ:H' p'=some (.lst zs):=w'.tr (p', .lst zs) (by rw[List.flatten_cons];exact List.mem_append_left _ List.mem_cons_self)
 have cn:=Q6 w' ci
 obtain⟨w3,m3⟩:=Ax (xs':=xs++zs) (Cs':=Cs2++Ds) w' ci (λc hc=>by
   rw[List.flatten_append,List.mem_append] at hc
   rcases hc with hc |hc
   ·rw[c2];exact List.mem_append_left _ hc
   ·exact List.mem_append_right _ (List.mem_cons_of_mem _ hc)) (by
   rw[List.flatten_append, ←c2]
   refine List.Nodup.sublist (List.Sublist.map _ ?_) cn
   exact List.Sublist.append (List.Sublist.refl _) (List.sublist_cons_self _ _))
 refine⟨p,p',xs,zs,rfl,by rw[e3],jJ,gJ,by rw[q2.len.1,q3.len.1];exact hsz,?_⟩
 exact hr bs _ _ D w3 ⟨S.mono _ _ m3 s',⟨p,_,_,rfl,P3.imp (λ_ _ _ z=>MonoO.mono m3 z) (q2.app q3),rfl⟩⟩ (PZ.tr (fd.tr D) m3 P')
def Ov (as:List M)(i:Int):Rs (M×List M):=chk (-(2^63)<=i/\i<2^63) (match seqIndex? i as.length with
 |none=>.bad
 |some k=>match as[k]? with
  |none=>.bad
  |some a=>.ok (a,as.eraseIdx k))
def RJ {p:M×List M}(h:Ov as i= .ok p):(-(2^63)<=i/\i<2^63)/\∃k,seqIndex? i as.length=some k/\as[k]?=some p.1/\p.2=as.eraseIdx k:=by
 obtain⟨h1,h2⟩:=Zc h
 refine⟨h1,?_⟩
 split at h2
 ·cases h2
 ·split at h2
  ·cases h2
  ·cases h2;exact⟨_,by assumption,by assumption,rfl⟩
def Tw {x:Exc}:Ov as i≠ .err x:=by
 unfold Ov chk;split
 ·split
  ·exact λz=>nomatch z
  ·split<;> exact λz=>nomatch z
 ·exact λz=>nomatch z
def Paired.erase' {F:M->B->Prop}:∀{l:List M}{m:List B} (n:Nat),Paired F l m->Paired F (l.eraseIdx n) (m.eraseIdx n)
 |_,_,_, .nil=>.nil
 |_,_,0, .cons _ t=>t
 |_,_,n+1, .cons r t=>.cons r (Paired.erase' n t)
def Rw {te ti:TE}[MonoE r]{f:M×List M->Rs L}{v:V}{Q:VK}(i k:Nat)(hσ:U[i]?=some (some v))(hk:OO[k]?=some C)(h:∀x,S.p x->oL (oF r) K x v as C)(hi:EvB K Er S OO U ti Xf mi)
  (w:W OO H)(s:S.p (hid H OO))(P:PZ Er (Fd D) (hid H OO) (mi.bind λj=>(Ov as j).bind f))
  (hr:∀a bs y C' H',W (OO.set k C') H'->((S.add K r y a).addO K (oL (oF r)) v bs C').p (hid H' (OO.set k C'))->PZ Er (Fd D) (hid H' (OO.set k C')) (f (a,bs))->Q y H'):tBM K "list" E2 (JP i) (Xk ti YD) U H Q:=by
 obtain⟨p,xs,Cs,e,q,c⟩:=h _ s
 subst c
 have hH:H p=some (.lst xs):=w.tr (p, .lst xs) (List.mem_flatten.mpr ⟨_,List.mem_of_getElem? hk,List.mem_cons_self⟩)
 refine⟨v,hσ,by rw[e];exact .inl ⟨rfl,_,SqL.of hH⟩,hi.st w s P λj z H' s1 w' s' ho P'=>?_⟩
 subst e
 obtain⟨Cs2,q2,c2⟩:=LA (h _ s')
 obtain⟨pr,jH⟩:=P3.flat q2
 cases es:Ov as j with
 |bad=>rw[es] at P';exact P'.elim
 |err x=>exact absurd es Tw
 |ok pp=>
  rw[es] at P'
  obtain⟨a,bs⟩:=pp
  obtain⟨h1,kk,h2,h3,h4⟩:=RJ es
  obtain⟨y,hy,ry⟩:=Paired.getR pr h3
  have w0:W ([]::OO) H':=w'.nil
  have hk0:OO[k]?=some ((p, .lst xs)::([]:List (List XD)).flatten):=by rw[hk,c2,jH];rfl
  obtain⟨w3,m3⟩:=Ax (D:=[]) (Cs:=[]) (xs':=xs.eraseIdx kk) (Cs':=List.replicate bs.length []) w0 hk0 (λc hc=>by rw[Yi] at hc;cases hc) (by rw[Yi];exact List.nodup_nil)
  rw[YK] at m3
  refine⟨p,xs,j,kk,y,rfl,by rw[show z= .int j from ho],s1 _ _ hH,h1.1,h1.2,by rw[Paired.len pr];exact h2,hy,?_⟩
  have cZ:Paired (r K (hid H' OO)) (xs.eraseIdx kk) bs:=by rw[show bs=as.eraseIdx kk from h4];exact Paired.erase' kk pr
  exact hr a bs y _ _ w3 ⟨⟨S.mono _ _ m3 s',MonoE.mono m3 ry⟩,⟨p,_,_,rfl,(P3.of (Paired.imp2 (λ_ _ z=>MonoE.mono m3 z) cZ)).imp λ_ _ _ z=>z,rfl⟩⟩ (PZ.tr (fd.tr D) m3 P')
def WD [MonoE r]{f:M×List M->Rs L}(x i k:Nat)(hσ:U[i]?=some (some v))(hk:OO[k]?=some C)(h:∀x,S.p x->oL (oF r) K x v as C)(hi:EvB K Er S OO U ti Xf mi)
  (hr:∀a bs y C',Sv Er ((S.add K r y a).addO K (oL (oF r)) v bs C') (OO.set k C') (U.set x (some y)) u Fd (f (a,bs))):Sv Er S OO U (Zf (DW (tBM K "list" E2 (JP i) (Xk ti YD)) (Yr x)) u) Fd (mi.bind λj=>(Ov as j).bind f):=λH D w s P=>
 Rw (te:=ti) i k hσ hk h hi w s P λa bs y C' H' w' s' P'=>hr a bs y C' H' D w' s' P'
def ES {q:Enc B}[z:MonoE r][MonoE q]{ma:Rs M}{mb:Rs B}{f:M->B->Rs L}(i j:Nat)(ha:EvS K Er S OO U ta r ma)(hb:EvS K Er S OO U tb q mb)
  (hr:∀a b v w,Sv Er ((S.add K r v a).add K q w b) OO ((U.set i (some v)).set j (some w)) u Fd (f a b)):Sv Er S OO U (Zf (jb i j (Xk ta (Xk tb YD))) u) Fd (ma.bind λa=>mb.bind λb=>f a b):=λH D w s P=>
 ha.st w s P λa x H1 s1 w1 q1 r1 P1=>hb.st w1 q1 P1 λb y H2 s2 w2 q2 r2 P2=>⟨x,y,rfl,hr a b x y H2 D w2 ⟨⟨q2,z.mono (Xh s2) r1⟩,r2⟩ P2⟩
def LC {q:Enc B}[MonoE r][MonoE q]{m:Rs (M×B)}{f:M×B->Rs L}(i j:Nat)(he:EvS K Er S OO U te (rP2 r q) m)
  (hr:∀a v w,Sv Er ((S.add K r v a.1).add K q w a.2) OO ((U.set i (some v)).set j (some w)) u Fd (f a)):Sv Er S OO U (Zf (DW te (OG K 2 (Z3 (Yr i) (Z3 (Yr j) Pl)))) u) Fd (m.bind f):=λH D w s P=>
 he.st w s P λa v H1 s1 w1 q1 r9 P1=>by obtain⟨p,x,y,e,h,h1,h2⟩:=r9;exact⟨p,_,e,SqT.of (Xv _ _ h),rfl,x,[y],rfl,y,[],rfl,rfl,hr a x y H1 D w1 ⟨⟨q1,h1⟩,h2⟩ P1⟩
def Wl {m:Rs Int}{f:Int->Rs L}{a:Int}(i:Nat)(hσ:U[i]?=some (some v))(h:∀x,S.p x->Xf K x v a)(he:EvB K Er S OO U te Xf m)
  (hr:∀b v,Sv Er (S.add K Xf v b) OO (U.set i (some v)) u Fd (f b)):Sv Er S OO U (Zf (AF i te (ipI g)) u) Fd (m.bind λb=>f (g a b)):=λH D w s P=>
 ⟨v,hσ,he.st w s P λb y H1 s1 w1 q1 r1 P1=>⟨a,b,h _ s,r1,hr _ _ H1 D w1 ⟨q1,rfl⟩ P1⟩⟩
def Nk {ma:Rs Int}(ha:EvB K Er S OO U ta Xf ma)(hb:EvB K Er S OO U tb Xf mb):EvB K Er S OO U (tCB (λxs H Q=>∃ i j:Int,xs=[.int i, .int j]/\Q (.int (if j > i then j else i)) H) (Xk ta (Xk tb YD))) Xf (ma.bind λa=>mb.bind λb=>.ok (max a b)):=λH Q w s P=>
 ha.run w s FB.tr P λa x H1 s1 w1 q1 r1 P1=>hb.run w1 q1 FB.tr P1 λb y H2 s2 w2 q2 r2 P2=>⟨a,b,by rw[show x= .int a from r1,show y= .int b from r2],P2 _ H2 (Xp.refl _) (by show V.int _=V.int _;congr 1;omega)⟩
def BJ {ma:Rs Int}(ha:EvB K Er S OO U ta Xf ma)(hb:EvB K Er S OO U tb Xf mb):EvB K Er S OO U (tCB (λxs H Q=>∃ i j:Int,xs=[.int i, .int j]/\Q (.int (if j<i then j else i)) H) (Xk ta (Xk tb YD))) Xf (ma.bind λa=>mb.bind λb=>.ok (min a b)):=λH Q w s P=>
 ha.run w s FB.tr P λa x H1 s1 w1 q1 r1 P1=>hb.run w1 q1 FB.tr P1 λb y H2 s2 w2 q2 r2 P2=>⟨a,b,by rw[show x= .int a from r1,show y= .int b from r2],P2 _ H2 (Xp.refl _) (by show V.int _=V.int _;congr 1;omega)⟩
def Sa {ma:Rs (List Int)}(ha:EvB K Er S OO U ta (rV Xf) ma):EvB K Er S OO U (tCB (ja K) (Xk ta YD)) Xf (ma.bind λa=>.ok a.sum):=λH Q w s P=>
 ha.run w s FB.tr P λa x H1 s1 w1 q1 r9 P1=>by obtain⟨p,xs,e,q,pr⟩:=r9;exact⟨p,a,by rw[e],by rw[←QR pr];exact SqL.of q,P1 _ H1 (Xp.refl _) rfl⟩
def UD:∀{xs:List V}{bs:List Bool}{H:Hp},Paired (XI K H) xs bs->xs=bs.map V.bl
 |_,_,_, .nil=>rfl
 |_,_,_, .cons r t=>by rw[show _=V.bl _ from r,UD t];rfl
def M8 {ma:Rs (List Bool)}(ha:EvB K Er S OO U ta (rV XI) ma):EvB K Er S OO U (tCB (q9 K) (Xk ta YD)) XI (ma.bind λa=>.ok (a.all id)):=λH Q w s P=>
 ha.run w s FB.tr P λa x H1 s1 w1 q1 r9 P1=>by obtain⟨p,xs,e,q,pr⟩:=r9;exact⟨p,a,by rw[e],by rw[←UD pr];exact SqL.of q,P1 _ H1 (Xp.refl _) rfl⟩
class TyE {M:Type}(r:Enc M)(n:outParam String):Prop where
 ty:∀{K:W.Frag}{H:Hp}{v:V}{a:M},r K H v a->TyOf K H v (.type n)
instance:TyE Xf "int":=⟨fun {K H v a} h=>by cases(show v= .int a from h);exact .int a⟩
instance:TyE XI "bool":=⟨fun {K H v a} h=>by cases(show v= .bl a from h);exact .bl a⟩
instance:TyE Hm "str":=⟨fun {K H v a} h=>by cases(show v= .str a from h);exact .str a⟩
instance {r:Enc M}:TyE (rV r) "list":=⟨λr9=>by obtain⟨p,xs,e,q,_⟩:=r9;exact by subst e;exact .lst q⟩
instance {r:Enc M}:TyE (rPL r) "tuple":=⟨λr9=>by obtain⟨p,xs,e,q,_⟩:=r9;exact by subst e;exact .tup q⟩
instance {r:Enc M}{q:Enc B}:TyE (rP2 r q) "tuple":=⟨λr9=>by obtain⟨p,x,y,e,q,_⟩:=r9;exact by subst e;exact .tup q⟩
instance {r:Enc M}{q:Enc B}{t:Enc δ}:TyE (rP3 r q t) "tuple":=⟨λr9=>by obtain⟨p,x,y,z,e,q,_⟩:=r9;exact by subst e;exact .tup q⟩
def Ua {n:String}[z:TyE r n]{m:Rs M}(t:String)(b:Bool)(hk:W.kitOne K (.type n) (.type t)=some b)(he:EvB K Er S OO U te r m):
  EvB K Er S OO U (tCB (λxs H Q=>∃ x n t b,xs=[x, .ty n]/\TyOf K H x t/\W.kitOne K t (.type n)=some b/\Q (.bl b) H) (Xk te (Xk (tC (.ty t)) YD))) XI (m.bind λ_=>.ok b):=λH Q w s P=>
 he.run w s FB.tr P λa x H1 s1 w1 q1 r1 P1=>⟨x,t, .type n,b,rfl,z.ty r1,hk,P1 _ H1 (Xp.refl _) rfl⟩
def Tc {ma:Rs Int}(ha:EvB K Er S OO U ta Xf ma):EvB K Er S OO U (tCB (λxs H Q=>∃ i:Int,xs=[.int i]/\Q (.int (if i<0 then-i else i)) H) (Xk ta YD)) Xf (ma.bind λa=>.ok (a.natAbs:Int)):=λH Q w s P=>
 ha.run w s FB.tr P λa x H1 s1 w1 q1 r1 P1=>⟨a,by rw[show x= .int a from r1],P1 _ H1 (Xp.refl _) (by show V.int _=V.int _;congr 1;omega)⟩
end
section
variable [fd:FdOk Fd]{u:TS}
def W7 (n:Nat)(H:Hp):W (List.replicate n []) H:=⟨λc hc=>(by rw[Yi] at hc;cases hc),(by unfold fl;rw[Yi];exact List.nodup_nil),λc hc=>(by rw[Yi] at hc;cases hc)⟩
def N6 (n:Nat)(H:Hp):hid H (List.replicate n [])=H:=by funext b;unfold hid fl;rw[Yi];simp
def PV {o:OE ρ}[z:MonoO o]{Q:VK}{b:ρ}(q:FF K o Q b H):∀v C OO' H',W (C::OO') H'->Xp H (hid H' (C::OO'))->o K (hid H' (C::OO')) v b C->Q v H':=λv C OO' H' w m ho=>by
 have hs:Xp (hid H' (C::OO')) (hid H' [C]):=Zk (Xp.refl _) λb hb=>by
  rw[XG]
  refine List.mem_append_left _ ?_
  simpa[fl] using hb
 exact q v C H' (w.sub (by simp)) (m.trans hs) (z.mono hs ho)
def Bj {o:OE ρ}[MonoO o]{m:Rs ρ}{Q:VK}{b:ρ}(n:Nat)(h:Sv (λ_ _=>False) S (List.replicate n []) U t (FTd K o) m)(hs:S.p H)(hm:m= .ok b)(q:FF K o Q b H)(hD:D.rt=Q):t D U H:=by
 refine h H D (W7 n H) (by rw[N6];exact hs) ?_
 subst hm
 rw[N6]
 intro v C OO' H' w mm ho
 rw[hD]
 exact PV q v C OO' H' w mm ho
def oU:OE Unit:=λ_ _ v _ C=>v= .non/\C=[]
instance:MonoO oU:=⟨λ_ h=>h⟩
instance:FlatO oU:=⟨λ_ h=>h⟩
def rU0:Enc Unit:=λ_ _ v _=>v= .non
instance:FlatE rU0:=⟨λ_ h=>h⟩
instance:FrzC oU rU0:=⟨λh _ _=>h.1⟩
def NM {m:Rs Unit}{Q:VK}{b:Unit}(n:Nat)(h:Sv (λ_ _=>False) S (List.replicate n []) U t (FNd J) m)(hs:S.p H)(hm:m= .ok b)(q:FF K oU Q b H)(hD:∀U H,D.nx U H=Q .non H):t D U H:=by
 refine h H D (W7 n H) (by rw[N6];exact hs) ?_
 subst hm
 rw[N6]
 intro x H' w mm ho
 rw[hD]
 have hs:Xp (hid H' (J.oo x)) (hid H' [[]]):=Zk (Xp.refl _) λb hb=>by simp[fl] at hb
 exact q .non [] H' ⟨λc hc=>by simp at hc,by simp[fl],λc hc=>by simp at hc⟩ (mm.trans hs) ⟨rfl,rfl⟩
def FQ {m:Rs L}(k:Nat)(hr:Sv Er S (OO.set k []) U t Fd m):Sv Er S OO U t Fd m:=λH D w s P=>by
 cases hk:OO[k]? with
 |none=>
  rw[List.set_eq_of_length_le (List.getElem?_eq_none_iff.mp hk)] at hr
  exact hr H D w s P
 |some C=>
  have hp:=XN hk
  have w1:W (C::OO.set k []) H:=w.of hp
  have hs:Xp (hid H OO) (hid H (OO.set k [])):=by
   rw[←XE hp]
   exact Zk (Xp.refl _) λb hb=>by rw[XG];simp[hb]
  exact hr H D w1.tail (S.mono _ _ hs s) (PZ.tr (fd.tr D) hs P)
def Vt {m:Rs M}{f:Rs L}(he:EvB K Er S OO U te r m)(hr:Sv Er S OO U u Fd f):Sv Er S OO U (Zf (Gh te) u) Fd (m.bind λ_=>f):=λH D w s P=>
 he.st w s P λa v H' s1 w' s' ho P'=>hr H' D w' s' P'
def FAO (K:W.Frag)(OO OO':List (List XD))(o:OE M)(Q:List V->Hp->Prop)(as:List M)(H:Hp):Prop:=∀ vs Cs H',Xp H H'->W (Cs.flatten::OO') H'->Xp (hid H OO) (hid H' (Cs.flatten::OO'))->P3 (o K (hid H' (Cs.flatten::OO'))) vs as Cs->Q vs H'
def AH (K:W.Frag)(Er:Exc->Hp->Prop)(S:SC)(OO OO':List (List XD))(U:St)(t:TA)(o:OE M)(m:Rs (List M)):Prop:=∀ H Q,W OO H->S.p (hid H OO)->PZ Er (FAO K OO OO' o Q) H m->t U H Q
def JH:AH K Er S OO OO U YD o (.ok []):=λH Q w s P=>P [] [] H (Xp.refl _) w.nil (by show Xp _ (hid H ([]::OO));rw[YK];exact Xp.refl _) .nil
def ZU [z:MonoO o]{m:Rs M}{n:Rs (List M)}(he:Ev K Er S OO OO1 U te o m)(ht:∀C,AH K Er S (C::OO1) (C::bp) U t o n):AH K Er S OO bp U (Xk te t) o (m.bind λa=>n.bind λas=>.ok (a::as)):=λH Q w s P=>by
 refine he H _ w s ?_
 cases em:m with
 |bad=>rw[em] at P;exact P
 |err x=>rw[em] at P;exact P
 |ok a=>
  rw[em] at P
  intro v C H1 s1 w1 m1 ho
  refine ht C H1 _ w1 (S.mono _ _ m1 s) ?_
  have P1:PZ Er (FAO K OO bp o Q) H (n.bind λas=>.ok (a::as)):=P
  cases en:n with
  |bad=>rw[en] at P1;exact P1
  |err x=>rw[en] at P1;exact λH2 s2=>P1 H2 (s1.trans s2)
  |ok as=>
   rw[en] at P1
   have P1:FAO K OO bp o Q (a::as) H:=P1
   intro vs Cs H2 s2 w2 m2 pr
   have pe:((C::Cs).flatten::bp).flatten.Perm (Cs.flatten::C::bp).flatten:=by
    simp only[List.flatten_cons]
    rw[←List.append_assoc]
    exact List.perm_append_comm.append_right _
   refine P1 (v::vs) (C::Cs) H2 (s1.trans s2) (w2.of pe) ?_ ?_
   ·rw[XE pe];exact m1.trans m2
   ·rw[XE pe];exact .cons (z.mono m2 ho) pr
def Ud [z:MonoO o](h:AH K Er S OO OO U t o m):Ev K Er S OO OO U (Nd t) (oL o) (m.bind λas=>chk (as.length<=sizeLine) (.ok as)):=λH Q w s P=>by
 refine h H _ w s ?_
 cases e:m with
 |bad=>rw[e] at P;exact P
 |err x=>rw[e] at P;exact P
 |ok as=>
  rw[e] at P
  obtain⟨hsz,P⟩:=PZ.chk (show PZ Er _ H (chk (as.length<=sizeLine) (.ok as)) from P)
  intro vs Cs H1 s1 w1 m1 p
  exact⟨by rw[p.len.1];exact hsz,SA w1 m1 s1 p P⟩
class InE {M:Type}[DecidableEq M](r:Enc M):Prop where
 fl:∀{K:W.Frag}{H:Hp}{x:V}{a:M},r K H x a->Vy x=true
 eq:∀{K:W.Frag}{H H':Hp}{x y:V}{a b:M},r K H x a->r K H' y b->eqV x y=decide (a=b)
instance:InE Xf:=⟨fun {K H x a} h=>by cases(show x= .int a from h);rfl,fun {K H H' x y a b} h h'=>by
 cases(show x= .int a from h);cases(show y= .int b from h');show(a==b)=_;rw[ND]⟩
instance:InE Hm:=⟨fun {K H x a} h=>by cases(show x= .str a from h);rfl,fun {K H H' x y a b} h h'=>by
 cases(show x= .str a from h);cases(show y= .str b from h');show(a==b)=_
 rw[Bool.eq_iff_iff];simp⟩
def ZJ [DecidableEq M][z:InE r]{x:V}{a:M}(hx:r K H x a):∀{xs:List V}{as:List M},Paired (r K H') xs as->xs.all Vy=true/\inV x xs=decide (a∈as)
 |_,_, .nil=>⟨rfl,by simp[inV]⟩
 |_,_, .cons h t=>by
  obtain⟨h1,h2⟩:=ZJ hx t
  refine⟨by rw[List.all_cons,h1,z.fl h];rfl,?_⟩
  unfold inV at h2⊢
  rw[List.any_cons,h2,z.eq h hx,Bool.eq_iff_iff,Bool.or_eq_true,decide_eq_true_eq,decide_eq_true_eq,decide_eq_true_eq,List.mem_cons]
  exact or_congr ⟨Eq.symm,Eq.symm⟩ Iff.rfl
def Pb [DecidableEq M][z:InE r]{ma:Rs M}{mb:Rs (List M)}(ha:EvB K Er S OO U ta r ma)(hb:EvB K Er S OO U tb (rV r) mb):EvB K Er S OO U (tOp (rIn K false) ta tb) XI (ma.bind λa=>mb.bind λas=>.ok (decide (a∈as))):=λH Q w s P=>
 ha.run w s FB.tr P λa x H1 s1 w1 q1 r1 P1=>hb.run w1 q1 FB.tr P1 λb y H2 s2 w2 q2 ⟨p,xs,e,q,pr⟩ P2=>by
  obtain⟨h1,h2⟩:=ZJ r1 pr
  exact⟨p,xs,e, .inl (SqL.of q),z.fl r1,h1,P2 _ H2 (Xp.refl _) (by rw[h2];rfl)⟩
def Ts [DecidableEq M][z:InE r]{ma:Rs M}{mb:Rs (List M)}(ha:EvB K Er S OO U ta r ma)(hb:EvB K Er S OO U tb (rV r) mb):EvB K Er S OO U (tOp (rIn K true) ta tb) XI (ma.bind λa=>mb.bind λas=>.ok (!decide (a∈as))):=λH Q w s P=>
 ha.run w s FB.tr P λa x H1 s1 w1 q1 r1 P1=>hb.run w1 q1 FB.tr P1 λb y H2 s2 w2 q2 ⟨p,xs,e,q,pr⟩ P2=>by
  obtain⟨h1,h2⟩:=ZJ r1 pr
  exact⟨p,xs,e, .inl (SqL.of q),z.fl r1,h1,P2 _ H2 (Xp.refl _) (by rw[h2];rfl)⟩
def P9 [DecidableEq M][z:InE r]{ma:Rs M}{mb:Rs (List M)}(ha:EvB K Er S OO U ta r ma)(hb:EvB K Er S OO U tb (rPL r) mb):EvB K Er S OO U (tOp (rIn K false) ta tb) XI (ma.bind λa=>mb.bind λas=>.ok (decide (a∈as))):=λH Q w s P=>
 ha.run w s FB.tr P λa x H1 s1 w1 q1 r1 P1=>hb.run w1 q1 FB.tr P1 λb y H2 s2 w2 q2 ⟨p,xs,e,q,pr⟩ P2=>by
  obtain⟨h1,h2⟩:=ZJ r1 pr
  exact⟨p,xs,e, .inr (SqT.of q),z.fl r1,h1,P2 _ H2 (Xp.refl _) (by rw[h2];rfl)⟩
def EI [DecidableEq M][z:InE r]{ma:Rs M}{mb:Rs (List M)}(ha:EvB K Er S OO U ta r ma)(hb:EvB K Er S OO U tb (rPL r) mb):EvB K Er S OO U (tOp (rIn K true) ta tb) XI (ma.bind λa=>mb.bind λas=>.ok (!decide (a∈as))):=λH Q w s P=>
 ha.run w s FB.tr P λa x H1 s1 w1 q1 r1 P1=>hb.run w1 q1 FB.tr P1 λb y H2 s2 w2 q2 ⟨p,xs,e,q,pr⟩ P2=>by
  obtain⟨h1,h2⟩:=ZJ r1 pr
  exact⟨p,xs,e, .inr (SqT.of q),z.fl r1,h1,P2 _ H2 (Xp.refl _) (by rw[h2];rfl)⟩
def Oe [DecidableEq M](as:List M)(a:M):Rs Int:=match as.findIdx? (λb=>decide (b=a)) with
 |some j=>.ok (j:Int)
 |none=>.bad
def Gr [DecidableEq M][z:InE r]{x:V}{a:M}(hx:r K H x a)(p:Paired (r K H') xs as)(hj:as.findIdx? (λb=>decide (b=a))=some j):
  (∃y,xs[j]?=some y/\eqV y x=true)/\∀(m:Nat) y,m<j->xs[m]?=some y->eqV y x=false:=by
 rw[List.findIdx?_eq_some_iff_getElem] at hj
 obtain⟨h1,h2,h3⟩:=hj
 constructor
 ·obtain⟨y,hy,ry⟩:=Paired.getR p (i:=j) (b:=as[j]) (by simp[h1])
  exact⟨y,hy,by rw[z.eq ry hx];exact h2⟩
 ·intro m y hm hy
  obtain⟨b,hb,rb⟩:=Paired.getL p hy
  have hml:m<as.length:=by omega
  have e:b=as[m]:=by rw[List.getElem?_eq_getElem hml] at hb;exact(Option.some.inj hb).symm
  rw[z.eq rb hx,e]
  have:=h3 m hm
  simpa using this
def M6 [DecidableEq M]{a:M}{x:Exc}:Oe as a≠ .err x:=by unfold Oe;split<;> exact λz=>nomatch z
def Ms [DecidableEq M]{a:M}{n:Int}(h:Oe as a= .ok n):∃j:Nat,as.findIdx? (λb=>decide (b=a))=some j/\n=j:=by
 unfold Oe at h;split at h
 ·cases h;exact⟨_,by assumption,rfl⟩
 ·cases h
def Nc [DecidableEq M][z:InE r][y:MonoE r]{mb:Rs M}(ha:EvB K Er S OO U ta (rV r) ma)(hb:EvB K Er S OO U tb r mb):EvB K Er S OO U (tBM K "list" (L9 K) ta (Xk tb YD)) Xf (ma.bind λas=>mb.bind λa=>Oe as a):=λH Q w s P=>
 ha.run w s FB.tr P λas x H1 s1 w1 q1 ⟨p,xs,e,q,pr⟩ P1=>⟨by rw[e];exact .inl ⟨rfl,_,SqL.of q⟩,hb.run w1 q1 FB.tr P1 λb v H2 s2 w2 q2 r2 P2=>by
  obtain⟨c,hc,P3⟩:=P2.okOf λx=>M6
  obtain⟨j,hj,rfl⟩:=Ms hc
  have cZ:=Paired.imp2 (G:=r K H2) (λ_ _ h=>y.mono s2 h) pr
  obtain⟨h1,h2⟩:=Gr r2 cZ hj
  exact⟨p,xs,v,j,e,rfl,SqL.of (s2 _ _ q),z.fl r2,(ZJ r2 cZ).1,h1,h2,P3 _ H2 (Xp.refl _) rfl⟩⟩
def Fp {tb:TE}{m:Rs (Option M)}(ha:EvB K Er S OO U ta (UT r) m):EvB K Er S OO U (tOp (λx y H Q=>y= .non/\Q (.bl (decide (x= .non))) H) ta (tC .non)) XI (m.bind λa=>.ok a.isNone):=λH Q w s P=>
 ha.run w s FB.tr P λa x H1 s1 w1 q1 r1 P1=>⟨rfl,P1 _ H1 (Xp.refl _) (by
  cases a with
  |none=>rw[show x= .non from r1];rfl
  |some a=>show V.bl _=V.bl _;rw[decide_eq_false r1.1];rfl)⟩
def Hw {tb:TE}{m:Rs (Option M)}(ha:EvB K Er S OO U ta (UT r) m):EvB K Er S OO U (tOp (λx y H Q=>y= .non/\Q (.bl (!decide (x= .non))) H) ta (tC .non)) XI (m.bind λa=>.ok a.isSome):=λH Q w s P=>
 ha.run w s FB.tr P λa x H1 s1 w1 q1 r1 P1=>⟨rfl,P1 _ H1 (Xp.refl _) (by
  cases a with
  |none=>rw[show x= .non from r1];rfl
  |some a=>show V.bl _=V.bl _;rw[decide_eq_false r1.1];rfl)⟩
def Lc {p q:Int->Int->Bool}{ma mc:Rs Int}(ha:EvB K Er S OO U ta Xf ma)(hb:EvB K Er S OO U tb Xf mb)(hc:EvB K Er S OO U tc Xf mc):
  EvB K Er S OO U (O9 (rI0 λi j=>.bl (p i j)) (rI0 λi j=>.bl (q i j)) ta tb tc) XI (ma.bind λa=>mb.bind λb=>if p a b=true then mc.bind λc=>.ok (q b c) else .ok false):=λH Q w s P=>
 ha.run w s FB.tr P λa x H1 s1 w1 q1 r1 P1=>hb.run w1 q1 FB.tr P1 λb y H2 s2 w2 q2 r2 P2=>⟨a,b,r1,r2,p a b,rfl,by
  cases h:p a b with
  |false=>rw[h] at P2;exact P2 _ H2 (Xp.refl _) rfl
  |true=>
   rw[h,if_pos rfl] at P2
   rw[if_pos rfl]
   exact hc.run w2 q2 FB.tr P2 λc z H3 s3 w3 q3 r3 P3=>⟨b,c,r2,r3,P3 _ H3 (Xp.refl _) rfl⟩⟩
def LU [DecidableEq M]{d:Nat}(E:EqOk r d)(h:∀{K:W.Frag}{H:Hp}{v:V}{a:M},r' K H v a->r K H v a)(m:MonoE r'):EqOk r' d where
 uniq:=λI h1 h2=>E.uniq I (h h1) (h h2)
 eq:=λI rx ry h1 h2 hu=>E.eq I rx ry (h h1) (h h2) hu
 rc:=λI rx ry h1 h2 hu=>E.rc I rx ry (h h1) (h h2) hu
 ne:=λI rx ry h1 h2 hu=>E.ne I rx ry (h h1) (h h2) hu
 keep:=λs q=>m.mono s q
def Pw [DecidableEq M]{d:Nat}[m:MonoE r](E:EqOk r d):EqOk (rV r) (d+1):=LU (Lq E) (λr9=>by obtain⟨a,xs,e,q,p⟩:=r9;exact⟨a,xs,e,SqL.of q,p⟩) inferInstance
def R5 [DecidableEq M][DecidableEq L]{q:Enc L}{d:Nat}[m:MonoE r][n:MonoE q](E:EqOk r d)(F:EqOk q d):EqOk (rP2 r q) (d+1):=LU (Sq E F) (λr9=>by obtain⟨a,x,y,e,q,p⟩:=r9;exact⟨a,x,y,e,SqT.of q,p⟩) inferInstance
end
section
variable [fd:FdOk Fd]{u:TS}
def Sx {m:Rs M}(hn:∀{K h v a C},o K h v a C->v≠ .non)(he:Ev K Er S OO OO' U te o m):Ev K Er S OO OO' U te (R1 o) (m.bind λa=>.ok (some a)):=λH Q w s P=>by
 refine he H Q w s ?_
 cases m with
 |bad=>exact P
 |err x=>exact P
 |ok a=>exact λv C H' s' w' m' ho=>P v C H' s' w' m' ⟨hn ho,ho⟩
def JU {q:OE L}[z:MonoO o][y:MonoO q]{ma:Rs M}{mb:Rs L}(ha:Ev K Er S OO OO1 U ta o ma)(hb:∀C,Ev K Er S (C::OO1) (C::bp) U tb q mb):Ev K Er S OO bp U (Po (Xk ta (Xk tb YD))) (oT2 o q) (ma.bind λa=>mb.bind λb=>.ok (a,b)):=λH Q w s P=>by
 refine ha H _ w s ?_
 cases em:ma with
 |bad=>rw[em] at P;exact P
 |err x=>rw[em] at P;exact P
 |ok a=>
  rw[em] at P
  intro v C H1 s1 w1 m1 ho
  refine hb C H1 _ w1 (S.mono _ _ m1 s) ?_
  have P1:PZ Er (FO K OO bp (oT2 o q) Q) H (mb.bind λb=>.ok (a,b)):=P
  cases en:mb with
  |bad=>rw[en] at P1;exact P1
  |err x=>rw[en] at P1;exact λH2 s2=>P1 H2 (s1.trans s2)
  |ok b=>
   rw[en] at P1
   have P1:FO K OO bp (oT2 o q) Q (a,b) H:=P1
   intro v2 C2 H2 s2 w2 m2 d9
   refine⟨by show 2<=sizeLine;decide,λp hp=>?_⟩
   have pe:((C++C2)::bp).flatten.Perm (C2::C::bp).flatten:=by
    simp only[List.flatten_cons]
    rw[←List.append_assoc]
    exact List.perm_append_comm.append_right _
   have s3:Xp H2 (upd H2 p (.tup [v,v2])):=Xw hp _
   have w3:=(w2.keep s3).of pe
   have m3:Xp (hid H2 (C2::C::bp)) (hid (upd H2 p (.tup [v,v2])) ((C++C2)::bp)):=by rw[XE pe];exact Xh s3
   refine P1 (.ref p) (C++C2) _ (s1.trans (s2.trans s3)) w3 (m1.trans (m2.trans m3)) ⟨p,v,v2,C,C2,rfl,?_,z.mono (m2.trans m3) ho,y.mono m3 d9,rfl⟩
   rw[XE pe]
   exact Z8 w2 hp
def Pr (hc:EvT Er S OO U c mc)(h2:Sv Er S OO U u Fd m2):Sv Er S OO U (Zf (Wb c t1 Bb) u) Fd (mc.bind λb=>if b=true then .bad else m2):=λH D w s P=>
 hc.st w s P λb H' w' s' P'=>by
  cases b with
  |true=>rw[if_pos rfl] at P';exact P'.elim
  |false=>exact h2 H' D w' s' P'
def CK:∀{l:List XD}{a b:XD},(l.map (·.1)).Nodup->a∈l->b∈l->a.1=b.1->a=b
 | [],_,_,_,h,_,_=>by cases h
 |c::l,a,b,n,ha,hb,e=>by
  rw[List.map_cons,List.nodup_cons] at n
  cases ha with
  |head=>cases hb with
   |head=>rfl
   |tail _ hb=>exact absurd (List.mem_map.mpr ⟨b,hb,e.symm⟩) n.1
  |tail _ ha=>cases hb with
   |head=>exact absurd (List.mem_map.mpr ⟨a,ha,e⟩) n.1
   |tail _ hb=>exact CK n.2 ha hb e
def GN (h:Cs[k]?=some C):∀c∈C,c∈Cs.flatten:=λc hc=>List.mem_flatten.mpr ⟨C,List.mem_of_getElem? h,hc⟩
def M0 {a:M}(h:atR as i= .ok a):∃k,ixN as.length i=some k/\as[k]?=some a:=by
 have:=CC h
 unfold atI at this
 cases e:ixN as.length i with
 |none=>rw[e] at this;cases this
 |some k=>rw[e] at this;exact⟨k,rfl,this⟩
def MM [z:MonoE r]{v:V}{as:List (List M)}(w:W OO H)(hk:OO[k]?=some ((p, .lst xs)::Cs.flatten))(hP:P3 (oL (oF r) K (hid H OO)) xs as Cs)(bv:as[kk]?=some row)
  (hx:xs[kk]?=some (.ref q))(hq:H q=some (.lst ys))(fo:Cs[kk]?=some [(q, .lst ys)])(pr:Paired (r K (hid H OO)) ys' row'):
  ∃C',W (OO.set k C') (upd H q (.lst ys'))/\Xp (hid H OO) (hid (upd H q (.lst ys')) (OO.set k C'))/\oL (oL (oF r)) K (hid (upd H q (.lst ys')) (OO.set k C')) (.ref p) (as.set kk row') C':=by
 have gN:kk<Cs.length:=by
  rcases Nat.lt_or_ge kk Cs.length with h |h
  ·exact h
  ·rw[List.getElem?_eq_none h] at fo;cases fo
 have bq:∀c∈(p,HO.lst xs)::Cs.flatten,c∈OO.flatten:=λc hc=>List.mem_flatten.mpr ⟨_,List.mem_of_getElem? hk,hc⟩
 have w0:W ([]::OO) H:=w.nil
 have cn0:=Q6 w0 hk
 rw[List.append_nil] at cn0
 have e0:Cs[kk]=[(q, .lst ys)]:=by
  rw[List.getElem?_eq_getElem gN] at fo;exact Option.some.inj fo
 have hp:=JR (Cs:=Cs) (j:=kk) (D:=[(q,HO.lst ys')]) gN
 rw[e0] at hp
 have dU:((Cs.set kk [(q,HO.lst ys')]).flatten.map (·.1)).Perm (Cs.flatten.map (·.1)):=by
  have:=hp.map (·.1)
  simp only[List.map_append,List.map_cons,List.map_nil] at this
  exact(List.perm_append_right_iff _).mp this
 have jL:p∉Cs.flatten.map (·.1):=by
  have h1:=XN hk
  have:=(w.of (OO':=((p,HO.lst xs)::Cs.flatten)::OO.set k []) h1).nd
  rw[XG,List.map_cons,List.cons_append,List.nodup_cons] at this
  exact λz=>this.1 (List.mem_append_left _ z)
 have hqC:q∈Cs.flatten.map (·.1):=List.mem_map.mpr ⟨(q, .lst ys),GN fo _ (by simp),rfl⟩
 have hpq:p≠q:=λe=>jL (e▸hqC)
 have eX:∀c∈(p,HO.lst xs)::(Cs.set kk [(q,HO.lst ys')]).flatten,upd H q (.lst ys') c.1=some c.2/\TW c.2=true:=λc hc=>by
  rcases List.mem_cons.mp hc with rfl |hc
  ·rw[XH hpq];exact⟨w.tr _ (bq _ List.mem_cons_self),rfl⟩
  ·obtain⟨D,hD,hcD⟩:=List.mem_flatten.mp hc
   rcases List.mem_or_eq_of_mem_set hD with hD |hD
   ·by_cases hcq:c.1=q
    ·-- a cell at q in another place:then it is this one
     have eM:c∈(Cs.set kk [(q,HO.lst ys')]).flatten:=hc
     have n1:((Cs.set kk [(q,HO.lst ys')]).flatten.map (·.1)).Nodup:=dU.nodup_iff.mpr cn0
     have hm:(q,HO.lst ys')∈(Cs.set kk [(q,HO.lst ys')]).flatten:=List.mem_flatten.mpr ⟨[(q, .lst ys')],List.mem_set (by simpa using gN) _,by simp⟩
     have e1:c=(q,HO.lst ys'):=by
      have:=CK n1 eM hm hcq
      exact this
     rw[e1];exact⟨Ym,rfl⟩
    ·rw[XH hcq]
     have:c∈OO.flatten:=bq c (List.mem_cons_of_mem _ (List.mem_flatten.mpr ⟨D,hD,hcD⟩))
     exact⟨w.tr c this,w.mu c this⟩
   ·rw[hD] at hcD
    have e1:c=(q,HO.lst ys'):=by simpa using hcD
    rw[e1];exact⟨Ym,rfl⟩
 have gi:q∈(Cs.set kk [(q,HO.lst ys')]).flatten.map (·.1):=dU.mem_iff.mpr hqC
 obtain⟨w2,m2⟩:=Im (C':=(p, .lst xs)::(Cs.set kk [(q,HO.lst ys')]).flatten) (p:=q) (o:=.lst ys') w0 hk (List.mem_cons_of_mem _ hqC) (List.mem_cons_of_mem _ gi) (by
   rw[List.map_cons,List.nodup_cons]
   exact⟨λz=>jL (dU.mem_iff.mp z),dU.nodup_iff.mpr cn0⟩) (λb hb=>by
   rw[List.append_nil]
   rcases List.mem_cons.mp hb with rfl |hb
   ·exact List.mem_cons_self
   ·exact List.mem_cons_of_mem _ (dU.mem_iff.mp hb)) (λc hc=>(eX c hc).1) λc hc=>(eX c hc).2
 rw[YK] at m2
 have e3:xs.set kk (.ref q)=xs:=by
  apply List.ext_getElem?
  intro n
  by_cases hn:n=kk
  ·subst hn
   rw[hx,List.getElem?_set_self (by
    rcases Nat.lt_or_ge n xs.length with h |h
    ·exact h
    ·rw[List.getElem?_eq_none h] at hx;cases hx)]
  ·rw[List.getElem?_set_ne (λe=>hn e.symm)]
 refine⟨_,w2,m2,⟨p,xs,Cs.set kk [(q,HO.lst ys')],rfl,?_,rfl⟩⟩
 have:=P3.set (F:=oL (oF r) K (hid (upd H q (.lst ys')) (OO.set k ((p, .lst xs)::(Cs.set kk [(q,HO.lst ys')]).flatten)))) (a:=V.ref q) (b:=row') (c:=[(q,HO.lst ys')])
  ⟨q,ys',List.replicate row'.length [],rfl,(P3.of (Paired.imp2 (λ_ _ h=>z.mono m2 h) pr)).imp λ_ _ _ h=>h,by rw[Yi]⟩ kk (P3.imp (λ_ _ _ h=>MonoO.mono m2 h) hP)
 rw[e3] at this
 exact this
def Na {h:Hp}{as:List (List M)}{kk:Nat}{row:List M}(q:P3 (oL (oF r) K h) xs as Cs)(bv:as[kk]?=some row):∃q0 ys,xs[kk]?=some (.ref q0)/\Cs[kk]?=some [(q0, .lst ys)]/\Paired (r K h) ys row:=by
 obtain⟨x,c,h1,h2,p,ys,Ds,e,h3,h4⟩:=q.get bv
 obtain⟨h5,h6⟩:=P3.flat h3
 rw[h6] at h4
 exact⟨p,ys,by rw[h1,e],by rw[h2,h4],h5⟩
def GB {F:V->M->Prop}{y:V}{a:M}(r:F y a):∀{l:List V}{m:List M} (i:Nat),Paired F l m->Paired F (l.set i y) (m.set i a)
 |_,_,_, .nil=>.nil
 |_,_,0, .cons _ t=>.cons r t
 |_,_,i+1, .cons q t=>.cons q (GB r i t)
def DY {ti tj:TE}[z:MonoE r]{m:Rs M}{mj:Rs Int}{f:List (List M)->Rs L}{v:V}{as:List (List M)}(i k:Nat)(hσ:U[i]?=some (some v))(hk:OO[k]?=some C)(h:∀x,S.p x->oL (oL (oF r)) K x v as C)(he:EvS K Er S OO U ta r m)
  (hi:EvB K Er S OO U ti Xf mi)(hj:EvB K Er S OO U tj Xf mj)
  (hr:∀bs C',Sv Er (S.addO K (oL (oL (oF r))) v bs C') (OO.set k C') U u Fd (f bs)):
  Sv Er S OO U (Zf (DW ta (AJ (tOp (Ij K) (JP i) ti) tj N7)) u) Fd (m.bind λa=>mi.bind λx=>(atR as x).bind λrow=>mj.bind λy=>(US row y a).bind λrow'=>(US as x row').bind f):=λH D w s P=>
 he.st w s P λa va H1 s1 w1 q1 r1 P1=>⟨v,hσ,hi.st w1 q1 P1 λx vx H2 s2 w2 q2 r2 P2=>by
  cases ea:atR as x with
  |bad=>rw[ea] at P2;exact P2.elim
  |err ex=>exact absurd ea KS
  |ok row=>
   rw[ea] at P2
   obtain⟨kk,fG,bv⟩:=M0 ea
   obtain⟨p,xs,Cs,e,q,c⟩:=h _ q2
   subst c e
   obtain⟨q0,ys,g1,g2,g3⟩:=Na q bv
   have bq:∀c∈(p,HO.lst xs)::Cs.flatten,c∈OO.flatten:=λc hc=>List.mem_flatten.mpr ⟨_,List.mem_of_getElem? hk,hc⟩
   have hH:H2 p=some (.lst xs):=w2.tr (p, .lst xs) (bq _ List.mem_cons_self)
   have ir:H2 q0=some (.lst ys):=w2.tr (q0, .lst ys) (bq _ (List.mem_cons_of_mem _ (GN g2 _ (by simp))))
   refine⟨p,xs,x, .ref q0,rfl,r2,SqL.of hH,by unfold atI;rw[q.len.1,fG];exact g1,hj.st w2 q2 (f:=λy=>(US row y a).bind λrow'=>(US as x row').bind f) P2 λy vy H3 s3 w3 q3 r3 aD=>?_⟩
   cases eb:US row y a with
   |bad=>rw[eb] at aD;exact aD.elim
   |err ex=>exact absurd eb Mg
   |ok row'=>
    rw[eb] at aD
    obtain⟨jj,hjj,rfl⟩:=Mn eb
    have P4:PZ Er (Fd D) (hid H3 OO) (f (as.set kk (row.set jj a))):=by
     have e5:US as x (row.set jj a)= .ok (as.set kk (row.set jj a)):=by unfold US;rw[fG]
     have:PZ Er (Fd D) (hid H3 OO) ((US as x (row.set jj a)).bind f):=aD
     rw[e5] at this
     exact this
    have m3:=Xh (OO:=OO) s3
    obtain⟨C',w4,m4,o4⟩:=MM (ys':=ys.set jj va) (row':=row.set jj a) (v:=.ref p) w3 hk (P3.imp (λ_ _ _ h=>MonoO.mono m3 h) q) bv g1 (s3 _ _ ir) g2 (GB (z.mono ((Xh s2).trans m3) r1) jj (Paired.imp2 (λ_ _ h=>z.mono m3 h) g3))
    exact⟨q0,ys,y,jj,rfl,r3,s3 _ _ ir,by rw[Paired.len g3];exact hjj,hr _ C' _ D w4 ⟨S.mono _ _ m4 q3,o4⟩ (PZ.tr (fd.tr D) m4 P4)⟩⟩
def O2 {ti:TE}[z:MonoE r]{m:Rs M}{f:List (List M)->Rs L}{v:V}{as:List (List M)}(i k:Nat)(hσ:U[i]?=some (some v))(hk:OO[k]?=some C)(h:∀x,S.p x->oL (oL (oF r)) K x v as C)(he:EvS K Er S OO U ta r m)
  (hi:EvB K Er S OO U ti Xf mi)
  (hr:∀bs C',Sv Er (S.addO K (oL (oL (oF r))) v bs C') (OO.set k C') U u Fd (f bs)):
  Sv Er S OO U (Zf (Gh (tBM K "list" G5 (tOp (Ij K) (JP i) ti) (Xk ta YD))) u) Fd (mi.bind λx=>(atR as x).bind λrow=>m.bind λa=>chk (row.length<sizeLine) ((US as x (row++[a])).bind f)):=λH D w s P=>
 ⟨v,hσ,hi.st w s P λx vx H2 s2 w2 q2 r2 P2=>by
  cases ea:atR as x with
  |bad=>rw[ea] at P2;exact P2.elim
  |err ex=>exact absurd ea KS
  |ok row=>
   rw[ea] at P2
   obtain⟨kk,fG,bv⟩:=M0 ea
   obtain⟨p,xs,Cs,e,q,c⟩:=h _ q2
   subst c e
   obtain⟨q0,ys,g1,g2,g3⟩:=Na q bv
   have bq:∀c∈(p,HO.lst xs)::Cs.flatten,c∈OO.flatten:=λc hc=>List.mem_flatten.mpr ⟨_,List.mem_of_getElem? hk,hc⟩
   have hH:H2 p=some (.lst xs):=w2.tr (p, .lst xs) (bq _ List.mem_cons_self)
   have ir:H2 q0=some (.lst ys):=w2.tr (q0, .lst ys) (bq _ (List.mem_cons_of_mem _ (GN g2 _ (by simp))))
   refine⟨p,xs,x, .ref q0,rfl,r2,SqL.of hH,by unfold atI;rw[q.len.1,fG];exact g1, .inl ⟨rfl,_,SqL.of ir⟩,he.st w2 q2 (f:=λa=>chk (row.length<sizeLine) ((US as x (row++[a])).bind f)) P2 λa va H3 s3 w3 q3 r3 aD=>?_⟩
   obtain⟨hsz,aD⟩:=PZ.chk aD
   have P4:PZ Er (Fd D) (hid H3 OO) (f (as.set kk (row++[a]))):=by
    have e5:US as x (row++[a])= .ok (as.set kk (row++[a])):=by unfold US;rw[fG]
    rw[e5] at aD
    exact aD
   have m3:=Xh (OO:=OO) s3
   obtain⟨C',w4,m4,o4⟩:=MM (ys':=ys++[va]) (row':=row++[a]) (v:=.ref p) w3 hk (P3.imp (λ_ _ _ h=>MonoO.mono m3 h) q) bv g1 (s3 _ _ ir) g2 (Paired.app (Paired.imp2 (λ_ _ h=>z.mono m3 h) g3) (.cons r3 .nil))
   exact⟨q0,ys,va,rfl,rfl,s3 _ _ ir,by rw[Paired.len g3];exact hsz,hr _ C' _ D w4 ⟨S.mono _ _ m4 q3,o4⟩ (PZ.tr (fd.tr D) m4 P4)⟩⟩
def AM {D:List XD}(w:W OO H)(hk:OO[k]?=some C)(s:Xp H H')(w':W (D::OO.set k []) H')(m:Xp (hid H (OO.set k [])) (hid H' (D::OO.set k []))):
  W (D::OO) H'/\Xp (hid H OO) (hid H' (D::OO))/\BN (hid H' (D::OO.set k [])) (hid H' (D::OO)):=by
 have hp:=XN hk
 have wk:W (C::OO.set k []) H:=w.of hp
 have hC:∀c∈C,hid H (OO.set k []) c.1=some c.2:=λc hc=>YS (wk.cell c hc) (by
  have:=wk.nd
  rw[XG] at this
  exact λhb=>(List.nodup_append.mp this).2.2 c.1 (List.mem_map.mpr ⟨c,hc,rfl⟩) c.1 hb rfl)
 have hC':∀c∈C,H' c.1=some c.2/\c.1∉fl (D::OO.set k []):=λc hc=>XU (m _ _ (hC c hc))
 have w2:W (C::D::OO.set k []) H':=by
  refine⟨λc hc=>?_,?_,λc hc=>?_⟩
  ·rw[List.flatten_cons,List.mem_append] at hc
   exact hc.elim (λhc=>(hC' c hc).1) λhc=>w'.tr c hc
  ·rw[XG]
   refine List.nodup_append.mpr ⟨?_,w'.nd,λa ha b hb e=>?_⟩
   ·have:=wk.nd
    rw[XG] at this
    exact(List.nodup_append.mp this).1
   ·obtain⟨c,hc,rfl⟩:=List.mem_map.mp ha
    subst e
    exact(hC' c hc).2 hb
  ·rw[List.flatten_cons,List.mem_append] at hc
   exact hc.elim (λhc=>wk.mu c (by simp[hc])) λhc=>w'.mu c hc
 have pe:(D::OO).flatten.Perm (C::D::OO.set k []).flatten:=by
  simp only[List.flatten_cons]
  refine List.Perm.trans (List.Perm.append_left D (by simpa using hp.symm:OO.flatten.Perm (C++(OO.set k []).flatten))) ?_
  rw[←List.append_assoc, ←List.append_assoc]
  exact List.perm_append_comm.append_right _
 have w3:=w2.of pe
 refine⟨w3,λb u q=>?_,λb u q i=>w3.i b u (XU q).1 i⟩
 obtain⟨q1,q2⟩:=XU q
 have q3:hid H (OO.set k []) b=some u:=YS q1 λz=>q2 ((Uo hp b).mp (by rw[XG];simp[z]))
 obtain⟨q4,q5⟩:=XU (m _ _ q3)
 refine YS q4 λz=>?_
 have z2:=(Uo pe b).mp z
 rw[XG,List.mem_append] at z2
 rcases z2 with z2 |z2
 ·exact q2 ((Uo hp b).mp (by rw[XG];exact List.mem_append_left _ z2))
 ·exact q5 z2
def qj {r1:Enc B}[z:FrzC o1 r1][MonoE r1]{a:B}(w:W OO H)(hk:OO[k]?=some C)(s:S.p (hid H OO))(h:∀x,S.p x->o1 K x v a C):
  W (OO.set k []) H/\(S.add K r1 v a).p (hid H (OO.set k [])):=by
 have hp:=XN hk
 have wk:W (C::OO.set k []) H:=w.of hp
 have hs:Xp (hid H OO) (hid H (OO.set k [])):=by
  rw[←XE hp]
  exact Zk (Xp.refl _) λb hb=>by rw[XG];simp[hb]
 refine⟨wk.tail,S.mono _ _ hs s,z.frz (h _ s) hs λc hc=>YS (wk.cell c hc) ?_⟩
 have:=wk.nd
 rw[XG] at this
 exact λhb=>(List.nodup_append.mp this).2.2 c.1 (List.mem_map.mpr ⟨c,hc,rfl⟩) c.1 hb rfl
def Bx [y:FlatO o]{r1:Enc B}[FrzC o1 r1][MonoE r1]{m:Rs M}{a:B}(k:Nat)(hk:OO[k]?=some C)(h:∀x,S.p x->o1 K x v a C)(he:Ev K Er (S.add K r1 v a) (OO.set k []) (OO.set k []) U te o m):Ev K Er S OO OO U te o m:=λH Q w s P=>by
 obtain⟨w1,s1⟩:=qj (r1:=r1) w hk s h
 refine he H Q w1 s1 (P.imp λb _ hb v' D H' s' w' m' ho=>?_)
 obtain⟨w3,m3,i3⟩:=AM w hk s' w' m'
 exact hb v' D H' s' w3 m3 (y.flat i3 ho)
def He (K:W.Frag)(T:String):W.kitOne K (.type T) (.type T)=some true:=by
 unfold W.kitOne
 rw[if_pos (beq_self_eq_true _)]
def DP (K:W.Frag):W.kitOne K (.type "int") (.type "bool")=some false:=by
 first
  |rfl
  |decide+kernel
  | (unfold W.kitOne PySem.W.kitCls;rfl)
end
section
variable [fd:FdOk Fd]{u:TS}
def qD:Option M->Rs M
 |some a=>.ok a
 |none=>.bad
def Ce {m:Rs (Option M)}(he:EvB K Er S OO U te (UT r) m):EvB K Er S OO U te r (m.bind qD):=λH Q w s P=>by
 refine he H Q w s ?_
 cases m with
 |bad=>exact P
 |err x=>exact P
 |ok a=>
  cases a with
  |none=>exact P.elim
  |some a=>exact λv H' s' hr=>P v H' s' hr.2
def SI {q:Enc B}{a:M×B}(q:oF (rP2 r q) K h v a C):v≠ .non:=by
 obtain⟨_,p,x,y,e,_⟩:=q
 rw[e];exact λz=>nomatch z
def ji {a:List M}(q:oL o K h v a C):v≠ .non:=by
 obtain⟨p,x,Cs,e,_⟩:=q
 rw[e];exact λz=>nomatch z
end
section
--
def rP4 (r1:Enc α1)(r2:Enc α2)(r3:Enc α3)(r4:Enc α4):Enc (α1×α2×α3×α4):=λK H v p=>∃ a x1 x2 x3 x4,v= .ref a/\H a=some (.tup [x1,x2,x3,x4])/\r1 K H x1 p.1/\r2 K H x2 p.2.1/\r3 K H x3 p.2.2.1/\r4 K H x4 p.2.2.2
instance {r1:Enc α1}{r2:Enc α2}{r3:Enc α3}{r4:Enc α4}[m1:MonoE r1][m2:MonoE r2][m3:MonoE r3][m4:MonoE r4]:MonoE (rP4 r1 r2 r3 r4):=⟨λs r9=>by obtain⟨a,x1,x2,x3,x4,e,h,p1,p2,p3,p4⟩:=r9;exact⟨a,x1,x2,x3,x4,e,s _ _ h,m1.mono s p1,m2.mono s p2,m3.mono s p3,m4.mono s p4⟩⟩
instance {r1:Enc α1}{r2:Enc α2}{r3:Enc α3}{r4:Enc α4}[m1:FlatE r1][m2:FlatE r2][m3:FlatE r3][m4:FlatE r4]:FlatE (rP4 r1 r2 r3 r4):=⟨λs r9=>by obtain⟨a,x1,x2,x3,x4,e,h,p1,p2,p3,p4⟩:=r9;exact⟨a,x1,x2,x3,x4,e,s _ _ h rfl,m1.flat s p1,m2.flat s p2,m3.flat s p3,m4.flat s p4⟩⟩
instance {r1:Enc α1}{r2:Enc α2}{r3:Enc α3}{r4:Enc α4}:TyE (rP4 r1 r2 r3 r4) "tuple":=⟨λr9=>by obtain⟨p,x1,x2,x3,x4,e,q,_⟩:=r9;exact by subst e;exact .tup q⟩
def Vl {m:Rs (α1×α2×α3×α4)}(ha:EvB K Er S OO U ta (rP4 r1 r2 r3 r4) m):EvB K Er S OO U (tOp (CY K) ta (tC (.int 2))) r3 (m.bind λp=>.ok p.2.2.1):=λH Q w s P=>
 ha.run w s FB.tr P λa x H1 s1 w1 q1 r9 P1=>by obtain⟨p,x1,x2,x3,x4,e,q,h1,h2,h3,h4⟩:=r9;exact⟨p,_,2,x3,e,rfl,SqT.of q,rfl,P1 _ H1 (Xp.refl _) h3⟩
def GQ {m:Rs (α1×α2×α3×α4)}(ha:EvB K Er S OO U ta (rP4 r1 r2 r3 r4) m):EvB K Er S OO U (tOp (CY K) ta (tC (.int 3))) r4 (m.bind λp=>.ok p.2.2.2):=λH Q w s P=>
 ha.run w s FB.tr P λa x H1 s1 w1 q1 r9 P1=>by obtain⟨p,x1,x2,x3,x4,e,q,h1,h2,h3,h4⟩:=r9;exact⟨p,_,3,x4,e,rfl,SqT.of q,rfl,P1 _ H1 (Xp.refl _) h4⟩
def FM [z1:MonoE r1][z2:MonoE r2][z3:MonoE r3][z4:MonoE r4](h1:EvS K Er S OO U t1 r1 m1)(h2:EvS K Er S OO U t2 r2 m2)(h3:EvS K Er S OO U t3 r3 m3)(h4:EvS K Er S OO U t4 r4 m4):EvS K Er S OO U (Po (Xk t1 (Xk t2 (Xk t3 (Xk t4 YD))))) (rP4 r1 r2 r3 r4) (m1.bind λa1=>m2.bind λa2=>m3.bind λa3=>m4.bind λa4=>.ok (a1,a2,a3,a4)):=λH Q w s P=>
 h1.run w s FS.tr P λa1 y1 H1 s1 w1 u1 q1 P1=>h2.run w1 u1 FS.tr P1 λa2 y2 H2 s2 w2 u2 q2 P2=>h3.run w2 u2 FS.tr P2 λa3 y3 H3 s3 w3 u3 q3 P3=>h4.run w3 u3 FS.tr P3 λa4 y4 H4 s4 w4 u4 q4 P4=>⟨by show 4<=sizeLine;decide,λp hp=>P4 _ _ (Xw hp _) ⟨p,y1,y2,y3,y4,rfl,Z8 w4 hp,z1.mono ((Xh s2).trans ((Xh s3).trans ((Xh s4).trans (Xh (Xw hp _))))) q1,z2.mono ((Xh s3).trans ((Xh s4).trans (Xh (Xw hp _)))) q2,z3.mono ((Xh s4).trans (Xh (Xw hp _))) q3,z4.mono (Xh (Xw hp _)) q4⟩⟩
@[reducible] def tg4 [MonoE r1][MonoE r2][MonoE r3][MonoE r4](i1 i2 i3 i4:Nat):Tgt K OO (OG K 4 (Z3 (Yr i1) (Z3 (Yr i2) (Z3 (Yr i3) (Z3 (Yr i4) Pl))))) (rP4 r1 r2 r3 r4) (V×V×V×V) where
 set:=λv U=>((((U.set i1 (some v.1)).set i2 (some v.2.1)).set i3 (some v.2.2.1)).set i4 (some v.2.2.2))
 sc:=λa v S=>((((S.add K r1 v.1 a.1).add K r2 v.2.1 a.2.1).add K r3 v.2.2.1 a.2.2.1).add K r4 v.2.2.2 a.2.2.2)
 ok:=fun {H v a U S Q} r9 hs hq=>by obtain⟨p,x1,x2,x3,x4,e,h,h1,h2,h3,h4⟩:=r9;exact⟨p,_,e,SqT.of (Xv _ _ h),rfl,x1,[x2,x3,x4],rfl,x2,[x3,x4],rfl,x3,[x4],rfl,x4,[],rfl,rfl,hq (x1,x2,x3,x4) ⟨⟨⟨⟨hs,h1⟩,h2⟩,h3⟩,h4⟩⟩
def rP5 (r1:Enc α1)(r2:Enc α2)(r3:Enc α3)(r4:Enc α4)(r5:Enc α5):Enc (α1×α2×α3×α4×α5):=λK H v p=>∃ a x1 x2 x3 x4 x5,v= .ref a/\H a=some (.tup [x1,x2,x3,x4,x5])/\r1 K H x1 p.1/\r2 K H x2 p.2.1/\r3 K H x3 p.2.2.1/\r4 K H x4 p.2.2.2.1/\r5 K H x5 p.2.2.2.2
instance {r1:Enc α1}{r2:Enc α2}{r3:Enc α3}{r4:Enc α4}{r5:Enc α5}[m1:MonoE r1][m2:MonoE r2][m3:MonoE r3][m4:MonoE r4][m5:MonoE r5]:MonoE (rP5 r1 r2 r3 r4 r5):=⟨λs r9=>by obtain⟨a,x1,x2,x3,x4,x5,e,h,p1,p2,p3,p4,p5⟩:=r9;exact⟨a,x1,x2,x3,x4,x5,e,s _ _ h,m1.mono s p1,m2.mono s p2,m3.mono s p3,m4.mono s p4,m5.mono s p5⟩⟩
instance {r1:Enc α1}{r2:Enc α2}{r3:Enc α3}{r4:Enc α4}{r5:Enc α5}[m1:FlatE r1][m2:FlatE r2][m3:FlatE r3][m4:FlatE r4][m5:FlatE r5]:FlatE (rP5 r1 r2 r3 r4 r5):=⟨λs r9=>by obtain⟨a,x1,x2,x3,x4,x5,e,h,p1,p2,p3,p4,p5⟩:=r9;exact⟨a,x1,x2,x3,x4,x5,e,s _ _ h rfl,m1.flat s p1,m2.flat s p2,m3.flat s p3,m4.flat s p4,m5.flat s p5⟩⟩
instance {r1:Enc α1}{r2:Enc α2}{r3:Enc α3}{r4:Enc α4}{r5:Enc α5}:TyE (rP5 r1 r2 r3 r4 r5) "tuple":=⟨λr9=>by obtain⟨p,x1,x2,x3,x4,x5,e,q,_⟩:=r9;exact by subst e;exact .tup q⟩
def ET [z1:MonoE r1][z2:MonoE r2][z3:MonoE r3][z4:MonoE r4][z5:MonoE r5](h1:EvS K Er S OO U t1 r1 m1)(h2:EvS K Er S OO U t2 r2 m2)(h3:EvS K Er S OO U t3 r3 m3)(h4:EvS K Er S OO U t4 r4 m4)(h5:EvS K Er S OO U t5 r5 m5):EvS K Er S OO U (Po (Xk t1 (Xk t2 (Xk t3 (Xk t4 (Xk t5 YD)))))) (rP5 r1 r2 r3 r4 r5) (m1.bind λa1=>m2.bind λa2=>m3.bind λa3=>m4.bind λa4=>m5.bind λa5=>.ok (a1,a2,a3,a4,a5)):=λH Q w s P=>
 h1.run w s FS.tr P λa1 y1 H1 s1 w1 u1 q1 P1=>h2.run w1 u1 FS.tr P1 λa2 y2 H2 s2 w2 u2 q2 P2=>h3.run w2 u2 FS.tr P2 λa3 y3 H3 s3 w3 u3 q3 P3=>h4.run w3 u3 FS.tr P3 λa4 y4 H4 s4 w4 u4 q4 P4=>h5.run w4 u4 FS.tr P4 λa5 y5 H5 s5 w5 u5 q5 P5=>⟨by show 5<=sizeLine;decide,λp hp=>P5 _ _ (Xw hp _) ⟨p,y1,y2,y3,y4,y5,rfl,Z8 w5 hp,z1.mono ((Xh s2).trans ((Xh s3).trans ((Xh s4).trans ((Xh s5).trans (Xh (Xw hp _)))))) q1,z2.mono ((Xh s3).trans ((Xh s4).trans ((Xh s5).trans (Xh (Xw hp _))))) q2,z3.mono ((Xh s4).trans ((Xh s5).trans (Xh (Xw hp _)))) q3,z4.mono ((Xh s5).trans (Xh (Xw hp _))) q4,z5.mono (Xh (Xw hp _)) q5⟩⟩
@[reducible] def tg5 [MonoE r1][MonoE r2][MonoE r3][MonoE r4][MonoE r5](i1 i2 i3 i4 i5:Nat):Tgt K OO (OG K 5 (Z3 (Yr i1) (Z3 (Yr i2) (Z3 (Yr i3) (Z3 (Yr i4) (Z3 (Yr i5) Pl)))))) (rP5 r1 r2 r3 r4 r5) (V×V×V×V×V) where
 set:=λv U=>(((((U.set i1 (some v.1)).set i2 (some v.2.1)).set i3 (some v.2.2.1)).set i4 (some v.2.2.2.1)).set i5 (some v.2.2.2.2))
 sc:=λa v S=>(((((S.add K r1 v.1 a.1).add K r2 v.2.1 a.2.1).add K r3 v.2.2.1 a.2.2.1).add K r4 v.2.2.2.1 a.2.2.2.1).add K r5 v.2.2.2.2 a.2.2.2.2)
 ok:=fun {H v a U S Q} r9 hs hq=>by obtain⟨p,x1,x2,x3,x4,x5,e,h,h1,h2,h3,h4,h5⟩:=r9;exact⟨p,_,e,SqT.of (Xv _ _ h),rfl,x1,[x2,x3,x4,x5],rfl,x2,[x3,x4,x5],rfl,x3,[x4,x5],rfl,x4,[x5],rfl,x5,[],rfl,rfl,hq (x1,x2,x3,x4,x5) ⟨⟨⟨⟨⟨hs,h1⟩,h2⟩,h3⟩,h4⟩,h5⟩⟩
def SS (h1:i1<n)(h2:i2<n)(h3:i3<n):V6 n (OG K 3 (Z3 (Yr i1) (Z3 (Yr i2) (Z3 (Yr i3) Pl)))):=λx U H Q q=>by
 obtain⟨a,xs,e1,hq,hl,v1,r1,f1,v2,r2,f2,v3,r3,f3,e9,q⟩:=q
 exact⟨a,xs,e1,hq,hl,v1,r1,f1,v2,r2,f2,v3,r3,f3,e9,q,by simp,λk hk=>by rw[List.getElem?_set_ne (by omega),List.getElem?_set_ne (by omega),List.getElem?_set_ne (by omega)]⟩
def Ou (as:List Int):Rs Int:=chk (0<as.length) (.ok (JC as))
def qR (as:List Int):Rs Int:=chk (0<as.length) (.ok (OV as))
def GS {ma:Rs (List Int)}(ha:EvB K Er S OO U ta (rV Xf) ma):EvB K Er S OO U (tCB (WF K JC) (Xk ta YD)) Xf (ma.bind Ou):=λH Q w s P=>
 ha.run w s FB.tr P λa x H1 s1 w1 q1 ⟨p,xs,e,q,pr⟩ P1=>by
  obtain⟨h1,P1⟩:=PZ.chk P1
  exact⟨p,a,by rw[e],by rw[←QR pr];exact SqL.of q,h1,P1 _ H1 (Xp.refl _) rfl⟩
def UY {ma:Rs (List Int)}(ha:EvB K Er S OO U ta (rPL Xf) ma):EvB K Er S OO U (tCB (N9 K JC) (Xk ta YD)) Xf (ma.bind Ou):=λH Q w s P=>
 ha.run w s FB.tr P λa x H1 s1 w1 q1 ⟨p,xs,e,q,pr⟩ P1=>by
  obtain⟨h1,P1⟩:=PZ.chk P1
  exact⟨p,a,by rw[e],by rw[←QR pr];exact SqT.of q,h1,P1 _ H1 (Xp.refl _) rfl⟩
def Sj {m:Rs (Int×Int×Int)}(ha:EvB K Er S OO U ta (rP3 Xf Xf Xf) m):EvB K Er S OO U ta (rPL Xf) (m.bind λp=>.ok [p.1,p.2.1,p.2.2]):=λH Q w s P=>
 ha.run w s FB.tr P λa x H1 s1 w1 q1 r9 P1=>by obtain⟨p,x1,x2,x3,e,q,h1,h2,h3⟩:=r9;exact P1 _ H1 (Xp.refl _) ⟨p,_,e,q, .cons h1 (.cons h2 (.cons h3 .nil))⟩
def QK {m:Rs (Int×Int×Int×Int)}(ha:EvB K Er S OO U ta (rP4 Xf Xf Xf Xf) m):EvB K Er S OO U ta (rPL Xf) (m.bind λp=>.ok [p.1,p.2.1,p.2.2.1,p.2.2.2]):=λH Q w s P=>
 ha.run w s FB.tr P λa x H1 s1 w1 q1 r9 P1=>by obtain⟨p,x1,x2,x3,x4,e,q,h1,h2,h3,h4⟩:=r9;exact P1 _ H1 (Xp.refl _) ⟨p,_,e,q, .cons h1 (.cons h2 (.cons h3 (.cons h4 .nil)))⟩
def S2 {m:Rs (Int×Int×Int×Int×Int)}(ha:EvB K Er S OO U ta (rP5 Xf Xf Xf Xf Xf) m):EvB K Er S OO U ta (rPL Xf) (m.bind λp=>.ok [p.1,p.2.1,p.2.2.1,p.2.2.2.1,p.2.2.2.2]):=λH Q w s P=>
 ha.run w s FB.tr P λa x H1 s1 w1 q1 r9 P1=>by obtain⟨p,x1,x2,x3,x4,x5,e,q,h1,h2,h3,h4,h5⟩:=r9;exact P1 _ H1 (Xp.refl _) ⟨p,_,e,q, .cons h1 (.cons h2 (.cons h3 (.cons h4 (.cons h5 .nil))))⟩
def Yq [z:MonoE r](he:EvB K Er S OO U te (rPL r) m)(hl:EvP Er S OO U tl ml)(hh:EvP Er S OO U th mh):
  EvB K Er S OO U (tSl (AE K) te tl th) (rPL r) (m.bind λas=>ml.bind λlo=>mh.bind λhi=>chk (¬(HT.sIx as.length 0 lo=0/\HT.sIx as.length as.length hi=as.length)) (.ok (Gb as lo hi))):=λH Q w s P=>
 he.run w s FB.tr P λas x H1 s1 w1 q1 ⟨p,xs,e,q,pr⟩ P1=>hl.run w1 q1 FB.tr P1 λlo H2 s2 w2 q2 P2=>hh.run w2 q2 FB.tr P2 λhi H3 s3 w3 q3 aD=>by
  obtain⟨hn,aD⟩:=PZ.chk aD
  have cZ:=Uj (Paired.imp2 (G:=r K H3) (λ_ _ h=>z.mono (s2.trans s3) h) pr) lo hi
  exact⟨p,xs,e,SqT.of (s3 _ _ (s2 _ _ q)),by rw[Paired.len pr];exact hn,λa ha=>aD _ _ (Xw ha _) ⟨a,_,rfl,Ym,Paired.imp2 (λ_ _ h=>z.mono (Xw ha _) h) cZ⟩⟩
def rDP (r:Enc M)(K:W.Frag)(H:Hp)(kv:Key×V)(kx:Int×M):Prop:=kv.1= .inl kx.1/\r K H kv.2 kx.2
def rD (r:Enc M):Enc (List (Int×M)):=λK H v d=>∃ p kvs,v= .ref p/\H p=some (.dK kvs)/\Paired (rDP r K H) kvs d
def oD (r:Enc M):OE (List (Int×M)):=λK h v d C=>∃ p kvs,v= .ref p/\Paired (rDP r K h) kvs d/\C=[(p, .dK kvs)]
instance {r:Enc M}[m:MonoE r]:MonoE (rD r):=⟨λs r9=>by obtain⟨p,kvs,e,q,pr⟩:=r9;exact⟨p,kvs,e,s _ _ q,Paired.imp2 (λ_ _ z=>⟨z.1,m.mono s z.2⟩) pr⟩⟩
instance {r:Enc M}[m:MonoE r]:MonoO (oD r):=⟨λs r9=>by obtain⟨p,kvs,e,pr,c⟩:=r9;exact⟨p,kvs,e,Paired.imp2 (λ_ _ z=>⟨z.1,m.mono s z.2⟩) pr,c⟩⟩
instance {r:Enc M}[m:FlatE r]:FlatO (oD r):=⟨λs r9=>by obtain⟨p,kvs,e,pr,c⟩:=r9;exact⟨p,kvs,e,Paired.imp2 (λ_ _ z=>⟨z.1,m.flat s z.2⟩) pr,c⟩⟩
instance {r:Enc M}[m:MonoE r]:FrzC (oD r) (rD r):=⟨λr9 s hc=>by obtain⟨p,kvs,e,pr,c⟩:=r9;exact⟨p,kvs,e,hc (p, .dK kvs) (by rw[c];simp),Paired.imp2 (λ_ _ z=>⟨z.1,m.mono s z.2⟩) pr⟩⟩
def Jc (d:List (Int×M))(k:Int):Option M:=(d.find? λkv=>decide (kv.1=k)).map (·.2)
def KZ (d:List (Int×M))(k:Int)(v:M):List (Int×M):=if(d.any λkv=>decide (kv.1=k))=true then d.map (λkv=>if kv.1=k then(kv.1,v) else kv) else d++[(k,v)]
def GU (d:List (Int×M))(k:Int):Rs M:=qD (Jc d k)
def QT {k:Int}:∀{kvs:List (Key×V)}{d:List (Int×M)},Paired (rDP r K H) kvs d->(∀a,Jc d k=some a->∃v,CU kvs (.inl k)=some v/\r K H v a)/\(CU kvs (.inl k)).isSome=(Jc d k).isSome
 |_,_, .nil=>⟨λa h=>(by cases h),rfl⟩
 |kv::kvs,kx::d, .cons h t=>by
  obtain⟨h1,h2⟩:=QT (k:=k) t
  by_cases e:kx.1=k
  ·have e2:kv.1= .inl k:=by rw[h.1,e]
   rw[U2 e2]
   have e3:Jc (kx::d) k=some kx.2:=by simp[Jc,List.find?_cons,e]
   rw[e3]
   exact⟨λa ha=>by cases ha;exact⟨_,rfl,h.2⟩,rfl⟩
  ·have e2:¬kv.1= .inl k:=by rw[h.1];exact λz=>e (Sum.inl.inj z)
   rw[U4 e2]
   have e3:Jc (kx::d) k=Jc d k:=by simp[Jc,List.find?_cons,e]
   rw[e3]
   exact⟨h1,h2⟩
def GD {k:Int}:∀{kvs:List (Key×V)}{d:List (Int×M)},Paired (rDP r K H) kvs d->(kvs.any λkv=>decide (kv.1= .inl k))=d.any λkx=>decide (kx.1=k)
 |_,_, .nil=>rfl
 |kv::kvs,kx::d, .cons h t=>by
  rw[List.any_cons,List.any_cons,GD t,h.1]
  congr 1
  rw[Bool.eq_iff_iff];simp
def KI {k:Int}{a:M}(hv:r K H v a){d:List (Int×M)}(h:Paired (rDP r K H) kvs d):Paired (rDP r K H) (Gd kvs (.inl k) v) (KZ d k a):=by
 unfold Gd KZ
 rw[GD h]
 by_cases e:(d.any λkx=>decide (kx.1=k))=true
 ·rw[if_pos e,if_pos e]
  clear e
  induction h with
  |nil=>exact .nil
  | @cons kv kx l m h t ih=>
   refine .cons ?_ ih
   show rDP r K H (if kv.1= .inl k then(kv.1,v) else kv) (if kx.1=k then(kx.1,a) else kx)
   by_cases e:kx.1=k
   ·rw[if_pos (show kv.1= .inl k by rw[h.1,e]),if_pos e];exact⟨h.1,hv⟩
   ·rw[if_neg (show ¬kv.1= .inl k by rw[h.1];exact λz=>e (Sum.inl.inj z)),if_neg e];exact h
 ·rw[if_neg e,if_neg e]
  exact Paired.app h (.cons ⟨rfl,hv⟩ .nil)
def BM:Ev K Er S OO OO U PP (oD r) (.ok []):=λH Q w s P=>λp hp=>P (.ref p) [(p, .dK [])] _ (Xw hp _) (w.new hp rfl) (Um hp) ⟨p,[],rfl, .nil,rfl⟩
def QZ [z:MonoE r](hd:EvB K Er S OO U td (rD r) md)(hk:EvB K Er S OO U ty Xf mk):EvB K Er S OO U (T2 td ty) r (md.bind λd=>mk.bind λk=>GU d k):=λH Q w s P=>
 hd.run w s FB.tr P λd x H1 s1 w1 q1 ⟨p,kvs,e,q,pr⟩ P1=>hk.run w1 q1 FB.tr P1 λk y H2 s2 w2 q2 r2 P2=>by
  cases eg:Jc d k with
  |none=>rw[GU,eg] at P2;exact P2.elim
  |some a=>
   rw[GU,eg] at P2
   obtain⟨v,hv,rv⟩:=(QT (k:=k) pr).1 a eg
   exact⟨p,v,e, .inl ⟨kvs, .inl k, .inl (s2 _ _ q),r2,hv.symm⟩,P2 _ H2 (Xp.refl _) (z.mono s2 rv)⟩
def Eb (hk:EvB K Er S OO U ty Xf mk)(hd:EvB K Er S OO U td (rD r) md):EvB K Er S OO U (qV ty td) XI (mk.bind λk=>md.bind λd=>.ok (Jc d k).isSome):=λH Q w s P=>
 hk.run w s FB.tr P λk y H1 s1 w1 q1 r1 P1=>hd.run w1 q1 FB.tr P1 λd x H2 s2 w2 q2 r9 P2=>by obtain⟨p,kvs,e,q,pr⟩:=r9;exact⟨p,CU kvs (.inl k),e, .inl ⟨kvs, .inl k, .inl q,r1,rfl⟩,P2 _ H2 (Xp.refl _) (by rw[(QT (k:=k) pr).2];rfl)⟩
variable [fd:FdOk Fd]{u:TS}
def Ro [z:MonoE r]{f:List (Int×M)->Rs L}{d:List (Int×M)}(i k:Nat)(hσ:U[i]?=some (some v))(hk:OO[k]?=some C)(h:∀x,S.p x->oD r K x v d C)(hv:EvS K Er S OO U tv r mv)(hy:EvB K Er S OO U ty Xf mk)
  (hr:∀d' C',Sv Er (S.addO K (oD r) v d' C') (OO.set k C') U u Fd (f d')):Sv Er S OO U (Zf (RQ (JP i) ty tv) u) Fd (mv.bind λa=>mk.bind λn=>chk (d.length<sizeLine) (f (KZ d n a))):=λH D w s P=>
 hv.st w s P λa va H1 s1 w1 q1 r1 P1=>⟨v,hσ,hy.st w1 q1 P1 λn vn H2 s2 w2 q2 r2 P2=>by
  obtain⟨hsz,P2⟩:=PZ.chk P2
  obtain⟨p,kvs,e,pr,c⟩:=h _ q2
  subst c e
  have hH:H2 p=some (.dK kvs):=w2.tr (p, .dK kvs) (List.mem_flatten.mpr ⟨_,List.mem_of_getElem? hk,by simp⟩)
  obtain⟨w3,m3⟩:=Im (D:=[]) (C':=[(p, .dK (Gd kvs (.inl n) va))]) (p:=p) (o:=.dK (Gd kvs (.inl n) va)) w2.nil hk (by simp) (by simp) (by simp) (λb hb=>by simpa using hb) (λc hc=>by
   have:c=(p, .dK (Gd kvs (.inl n) va)):=by simpa using hc
   rw[this];exact Ym) (λc hc=>by
   have:c=(p, .dK (Gd kvs (.inl n) va)):=by simpa using hc
   rw[this];rfl)
  rw[YK] at m3
  refine⟨p,_,rfl, .inl ⟨kvs, .inl n,hH,r2,by rw[Paired.len pr];exact hsz,rfl⟩,?_⟩
  exact hr _ _ _ D w3 ⟨S.mono _ _ m3 q2,⟨p,_,rfl,KI (z.mono ((Xh s2).trans m3) r1) (Paired.imp2 (λ_ _ h=>⟨h.1,z.mono m3 h.2⟩) pr),rfl⟩⟩ (PZ.tr (fd.tr D) m3 P2)⟩
end
section
variable {h0 h:Heap}{T:Addr}{cls a0:Value}{l:List Env}
end
section
variable {fs fs2 ex ex2:List Addr}{H0:Hp}{h0 h:Heap}
end
section
variable {qual:Str}{f:Addr}{cd:Value}{outer:List Env}{s0:Shared}{H0:Hp}{E:XK}
end
section
variable {sp:Sp}{t:TA}{p:Pos}{E:XK}
end
section
variable {E:XK}{C:Addr}{t:TA}{np am:Pos}
end
abbrev TJ:=St->Hp->(Hp->Prop)->Prop
section
variable {t:TJ}{p:Pos}
end
section
end
section
variable {body suite:List Stmt}{b₀:Stmt}{cn n:Str}{Ch:Addr}{i:Nat}{tb:XK->TS}{ts:Addr->Addr->TS}{np hpos:Pos}
end
section
variable {α6:Type}{E:XK}
variable [fd:FdOk Fd]{u:TS}
section
variable {te:XK->TE}{m:Rs M}{ts:Addr->Addr->TS}{N i:Nat}{Ch:Addr}{o:OE ρ}{g:Exc->Rs ρ}{ns:List Str}{d:Str}
end
end
end L2
namespace L2
open PySem PySem.Spec PyProof.Rows PySem.W PySem.Builtin PySem.Builtin.ObjectAttr PySem.Builtin.Getset_descriptor
section
variable {K:Frag}{x D:Addr}
end
def Eo (h:∃u,X.mg x=some u/\XW v u)(hg:Gl X x)(hd:(x==("__debug__":Str))=false:=by decide):PE X (.Name x pos) (tC v):=by
 obtain⟨u,hm,r⟩:=h
 exact R7 hg hm r hd
section
variable {C D:Addr}{b:Bool}
end
end L2
namespace L2
open PySem PySem.Spec PyProof.Rows
def P3.dropLast {F:M->L->B->Prop}:∀{l m n},P3 F l m n->P3 F l.dropLast m.dropLast n.dropLast
 |_,_,_, .nil=>.nil
 |_,_,_, .cons _ .nil=>.nil
 |_,_,_, .cons r (.cons q t)=>.cons r (P3.dropLast (.cons q t))
def VP (l:List (List M)):l.dropLast.flatten.Sublist l.flatten:=by
 have e:l.flatten=l.dropLast.flatten++(l.drop (l.length-1)).flatten:=by rw[List.dropLast_eq_take, ←List.flatten_append,List.take_append_drop]
 rw[e]
 exact List.sublist_append_left _ _
section
variable [fd:FdOk Fd]{u:TS}
end
section
end
section
variable {ζ:Type}
variable [fd:FdOk Fd]{u:TS}
end
end L2
namespace L2
def T9 {us:List M}(h:us.length=1):∃a,us=[a]:=List.length_eq_one_iff.mp h
def Wx {us:List M}(h:us.length=2):∃a0 a1,us=[a0,a1]:=by
 cases us with
 |nil=>cases h
 |cons a0 t=>
  obtain⟨a1,rfl⟩:=T9 (Nat.succ.inj h)
  exact⟨a0,a1,rfl⟩
def W5 {us:List M}(h:us.length=3):∃a0 a1 a2,us=[a0,a1,a2]:=by
 cases us with
 |nil=>cases h
 |cons a0 t=>
  obtain⟨a1,a2,rfl⟩:=Wx (Nat.succ.inj h)
  exact⟨a0,a1,a2,rfl⟩
def Wk {us:List M}(h:us.length=4):∃a0 a1 a2 a3,us=[a0,a1,a2,a3]:=by
 cases us with
 |nil=>cases h
 |cons a0 t=>
  obtain⟨a1,a2,a3,rfl⟩:=W5 (Nat.succ.inj h)
  exact⟨a0,a1,a2,a3,rfl⟩
def qv {us:List M}(h:us.length=5):∃a0 a1 a2 a3 a4,us=[a0,a1,a2,a3,a4]:=by
 cases us with
 |nil=>cases h
 |cons a0 t=>
  obtain⟨a1,a2,a3,a4,rfl⟩:=Wk (Nat.succ.inj h)
  exact⟨a0,a1,a2,a3,a4,rfl⟩
end L2
namespace L2
open PySem PySem.Spec PyProof.Rows
section
end
section
end
section
variable {ζ:Type}
variable [fd:FdOk Fd]{u:TS}
def O5 {m:Rs (Option (Int×Int))}(he:Ev K Er S OO OO' U te (oF (UT (rP2 Xf Xf))) m):Ev K Er S OO OO' U te (oF (UT (rPL Xf))) (m.bind λa=>.ok (a.map λp=>[p.1,p.2])):=λH Q w s P=>by
 refine he H Q w s ?_
 cases m with
 |bad=>exact P
 |err x=>exact P
 |ok a=>
  refine λv C H' s' w' m' ho=>P v C H' s' w' m' ⟨ho.1,?_⟩
  cases a with
  |none=>exact ho.2
  |some a=>
   obtain⟨_,hn,p,x,y,e,h,h1,h2⟩:=ho
   exact⟨hn,p,_,e,h, .cons h1 (.cons h2 .nil)⟩
def Eu {m:Rs (Option (Int×Int×Int×Int))}(he:Ev K Er S OO OO' U te (oF (UT (rP4 Xf Xf Xf Xf))) m):Ev K Er S OO OO' U te (oF (UT (rPL Xf))) (m.bind λa=>.ok (a.map λp=>[p.1,p.2.1,p.2.2.1,p.2.2.2])):=λH Q w s P=>by
 refine he H Q w s ?_
 cases m with
 |bad=>exact P
 |err x=>exact P
 |ok a=>
  refine λv C H' s' w' m' ho=>P v C H' s' w' m' ⟨ho.1,?_⟩
  cases a with
  |none=>exact ho.2
  |some a=>
   obtain⟨_,hn,p,x,y,x3,x4,e,h,h1,h2,h3,h4⟩:=ho
   exact⟨hn,p,_,e,h, .cons h1 (.cons h2 (.cons h3 (.cons h4 .nil)))⟩
def Kl:Ev K Er S OO OO U (tC .non) (oF (UT r)) (.ok none):=λH Q w s P=>P _ [] H (Xp.refl _) w.nil (by rw[YK];exact Xp.refl _) ⟨rfl,rfl⟩
def VW {m:Rs M}(hn:∀{K h v a C},oF r K h v a C->v≠ .non)(he:Ev K Er S OO OO' U te (oF r) m):Ev K Er S OO OO' U te (oF (UT r)) (m.bind λa=>.ok (some a)):=λH Q w s P=>by
 refine he H Q w s ?_
 cases m with
 |bad=>exact P
 |err x=>exact P
 |ok a=>exact λv C H' s' w' m' ho=>P v C H' s' w' m' ⟨ho.1,hn ho,ho.2⟩
def Al {r1:Enc M}{r2:Enc L}{r3:Enc B}{r4:Enc δ}{a:M×L×B×δ}(q:oF (rP4 r1 r2 r3 r4) K h v a C):v≠ .non:=by
 obtain⟨_,p,x1,x2,x3,x4,e,_⟩:=q
 rw[e]
 exact λz=>nomatch z
end
section
def ipM:TIp:=λx y H Q=>∃ i j,x= .int i/\y= .int j/\TV i j/\Q (.int (i*j)) H
def Af:PIp X .Mult ipM:=by
 intro aa s U H x y v u Q I r1 r2 h
 obtain⟨i,j,e1,e2,hc,q⟩:=h
 subst e1;subst e2
 obtain⟨t,rfl⟩:=r1
 obtain⟨t',rfl⟩:=r2
 exact PySem.AutoIntOps.imul_0 ⟨.int _,H,I.tok _,⟨_,rfl⟩,q⟩ hc.ok
end
section
variable {ζ:Type}
variable [fd:FdOk Fd]{u:TS}
def SX {m:Rs Int}{f:Int->Rs L}{a:Int}(i:Nat)(hσ:U[i]?=some (some v))(h:∀x,S.p x->Xf K x v a)(he:EvB K Er S OO U te Xf m)
  (hr:∀b v,Sv Er (S.add K Xf v b) OO (U.set i (some v)) u Fd (f b)):Sv Er S OO U (Zf (AF i te ipM) u) Fd (m.bind λb=>(Nv a b).bind f):=λH D w s P=>
 ⟨v,hσ,he.st w s P λb y H1 s1 w1 q1 r1 P1=>by
  cases e:Nv a b with
  |bad=>rw[e] at P1;exact P1.elim
  |err x=>exact absurd e QE
  |ok c=>
   rw[e] at P1
   obtain⟨h1,h2⟩:=Zc e
   cases h2
   exact⟨a,b,h _ s,r1,h1,hr _ _ H1 D w1 ⟨q1,rfl⟩ P1⟩⟩
end
set_option maxRecDepth 100000
section
def B3:typeLookup (.type "list") "keys" =pure none:=by rw[typeLookup_type,builtinLookup_eq_fast];kernel_rfl
theorem NC {o:Obj}{xs:Array Value}{R:Option Value->Shared->Prop}(hx:s.heap.get? a=some o)(hc:o.cls= .type "list")(dm:o.data= .seq xs k)(hd:o.dict=none)(hA:A.handled=none)
    (h:∀g tk,(∀b u,s.heap.get? b=some u->g.get? b=some u)->R none {s with heap:=g,toks:=tk}):wpAny (model prog w) A (getAttr? (.ref a) "keys") R E s:=by
  obtain⟨c,dct,dat,sl⟩:=o
  simp only at hc dm hd
  subst hc dm hd
  obtain⟨hp,g,d,tk,os⟩:=s
  have hT:∀tk',(⟨hp,g,d,tk',os⟩:Shared).TypeIs (.ref a) "list":=λ_=>⟨_,hx,rfl⟩
  have f1:=sub_AttributeError
  have f3:=F.slot_list_getattribute.lookup
  have f4:=F.slot_list_getattribute.bind (.ref a)
  have f5:=am_list_getattr_none
  unfold getAttr? getAttrBy? getAttrBy
  repeat (any_goals (first
    |assumption
    |exact hT _
    | ((with_reducible show wpAny _ _ (call (Value.builtin "list.__getattribute__") _ _) _ _ _)
       refine call_meets F.slot_list_getattribute (hT _) am_entry_list_getattribute (F.args_list_getattribute_2 _ _) (meets_getattribute_miss_list a xs k sl "keys" _ B3 (by decide+kernel)) ⟨hx,hA,λh' tk' e eK=>?_⟩)
    |wp_step))
  obtain⟨t',u',he⟩:=eK.there
  show wpAny _ _ (getattributeRaised _ _ _ _ _ _ _) _ _ _
  unfold getattributeRaised
  repeat (any_goals (first |wp_step |assumption))
  exact h _ _ eK.keeps
def Q1:plainId "dict.update.loop" =true:=by decide+kernel
def Kf:entryFor table "dict.update.loop" =some Builtin.«dict.update.loop»:=entryFor_of_fast (by kernel_rfl)
end
section
variable {K:Type}[DecidableEq K]{knd:KeyKind prog w K}
def Sh (knd:KeyKind prog w K)(h:Heap)(its:Array Value)(kv:List (K×Value)):Prop:=its.size=kv.length/\∀(j:Nat) (x:Value) (p:K×Value),its[j]?=some x->kv[j]?=some p->∃t bw,x= .ref t/\h.IsTuple t #[bw,p.2]/\knd.is p.1 bw=true
def GK (acc kv:List (K×Value)):List (K×Value):=kv.foldl (λa p=>stored a p.1 p.2) acc
def HW (acc:List (K×Value))(k:K)(v:Value):(stored acc k v).length<=acc.length+1:=by
 unfold stored
 split
 ·simp
 ·simp
def CJ {h:Heap}{t l:Addr}{i:Nat}{xs:Array Value}(ht:h.IsTuple t xs)(it:h.IsListIter I l i):t≠I:=λe=>by
 subst e
 obtain⟨o,ho,hc,_⟩:=ht
 obtain⟨o',cN,eI,_⟩:=it
 rw[ho] at cN
 cases cN
 rw[hc] at eI
 exact absurd eI (by decide)
def Mt {h:Heap}{t:Addr}{xs:Array Value}{acc:List (K×Value)}(ht:h.IsTuple t xs)(hd:h.DictOf knd d acc):t≠d:=λe=>by
 subst e
 obtain⟨o,ho,hc,_⟩:=ht
 obtain⟨o',_,_,cN,eI,_⟩:=hd
 rw[ho] at cN
 cases cN
 have:=eI.1
 rw[hc] at this
 exact absurd this (by decide)
def A3 (hh:A.in1.handled=none)(hdI:d≠I)(hlI:l≠I)(hld:l≠d){its:Array Value}:
  ∀(k i:Nat) (s:Shared) (acc:List (K×Value)),its.size-i=k->i<=its.size->s.heap.IsListIter I l i->s.heap.IsList l its->Sh knd s.heap its kv->s.heap.DictOf knd d acc->acc.length+its.size<=sizeLine+i->
  (∀g tk,g.DictOf knd d (GK acc (kv.drop i))->(∀b o,b≠I->b≠d->s.heap.get? b=some o->g.get? b=some o)->R (.ok (.ret .none)) {s with heap:=g,toks:=tk})->
  codeAny (model prog w) A (.builtin "dict.update.loop" ⟨[.ref d, .ref I,rawInt i, .none],[]⟩) R s:=by
 intro k
 induction k with
 |zero=>
  intro i s acc hk hi it hl hp hd hz r
  refine codeAny_builtin Kf ?_
  rw[Around.under_plainId Q1 _]
  show wpAny _ A.in1 (pyNext (.ref I) >>= _) _ _ s
  refine wpAny_bind (wpAny_pyNext_list_end hh it hl (by simp;omega) λg hx=>?_)
  show wpAny _ _ (Builtin.Dict.addKeywords d [] >>= λ_=>ret Value.none) _ _ _
  refine wpAny_bind (wpAny_pure (wpAny_pure (r g s.toks ?_ λb o hb _ e=>hx b o hb e)))
  have e:kv.drop i=[]:=List.drop_eq_nil_of_le (by have:=hp.1;omega)
  rw[e]
  exact hd.extBut hx hdI
 |succ k ih=>
  intro i s acc hk hi it hl hp hd hz r
  have lt:i<its.size:=by omega
  refine codeAny_builtin Kf ?_
  rw[Around.under_plainId Q1 _]
  show wpAny _ A.in1 (pyNext (.ref I) >>= _) _ _ s
  refine wpAny_bind (wpAny_pyNext_list_item it hl (x:=its[i]) (by simp[lt]) λg it' hx=>?_)
  have lt2:i<kv.length:=by have:=hp.1;omega
  obtain⟨t,bw,et,ht,gD⟩:=hp.2 i its[i] kv[i] (by simp[lt]) (by simp[lt2])
  have htI:t≠I:=CJ ht it
  have ht1:g.IsTuple t #[bw,kv[i].2]:=ht.extBut hx.extBut htI
  obtain⟨o,ho,hc,n,hdt⟩:=id ht1
  rw[et]
  show wpAny _ _ (holding [Value.ref t] _ >>= λ_=>again (.builtin "dict.update.loop" ⟨[.ref d, .ref I,rawInt ((i:Int)+1), .none],[]⟩)) _ _ _
  refine wpAny_bind (wpAny_holding ?_)
  refine wpAny_bind (wpAny_tryCatch ?_)
  unfold Builtin.Dict.pairItems
  refine wpAny_bind (wpAny_typeOf (s:={s with heap:=g}) ⟨o,ho,hc⟩ ?_)
  rw[if_pos (by decide)]
  refine wpAny_bind (wpAny_seqItems (s:={s with heap:=g}) ho hdt (wpAny_pure ?_))
  show wpAny _ _ (holding [bw,kv[i].2] (dictSet d bw kv[i].2)) _ _ _
  refine wpAny_holding (wpAny_dictSet_pairs (s:={s with heap:=g}) gD (hd.extBut hx.extBut hdI) (λg2 fE eV=>?_) (by omega))
  refine wpAny_pure ⟨plainId_quiet Q1 _,?_⟩
  have aN:∀{b:Addr}{u:Obj},s.heap.get? b=some u->b≠I->b≠d->g2.get? b=some u:=fun {b u} e h1 h2=>(eV.2 b h2).trans (hx.extBut b u h1 e)
  refine ih (i+1) {s with heap:=g2,toks:=s.toks+1} (stored acc kv[i].1 kv[i].2) (by omega) (by omega) ?_ ?_ ?_ fE ?_ ?_
  ·exact it'.extBut eV.extBut (λe=>hdI e.symm)
  ·exact(hl.extBut hx.extBut hlI).extBut eV.extBut hld
  ·refine⟨hp.1,λj x p h1 h2=>?_⟩
   obtain⟨t2,gO,e2,ht2,dI⟩:=hp.2 j x p h1 h2
   exact⟨t2,gO,e2,(ht2.extBut hx.extBut (CJ ht2 it)).extBut eV.extBut (Mt ht2 hd),dI⟩
  ·have:=HW acc kv[i].1 kv[i].2
   omega
  ·intro g3 tk hd3 kp
   refine r g3 tk ?_ λb o h1 h2 e=>kp b o h1 h2 (aN e h1 h2)
   rw[List.drop_eq_getElem_cons lt2]
   exact hd3
theorem HE (hh:A.handled=none){o:Obj}{its:Array Value}(hx:s.heap.get? l=some o)(hc:o.cls= .type "list")(dm:o.data= .seq its n)(hd:o.dict=none)(hp:Sh knd s.heap its kv)(hz:its.size<=sizeLine)
  (r:∀g tk,g.DictOf knd s.heap.objs.size (GK [] kv)->(∀b u,s.heap.get? b=some u->g.get? b=some u)->Q (.ref s.heap.objs.size) {s with heap:=g,toks:=tk}):wpAny (model prog w) A (call (.type "dict") [.ref l]) Q E s:=by
 refine callType_codes (Q₁:=λobj s₁=>obj= .ref s.heap.objs.size/\s₁={s with heap:=s.heap.push {cls:=.type "dict",data:=.dict #[]}}) F.kt_called_dict (F.kt_typeCall_dict_1 _) F.entry_dict_init (kt_code_dict_new _ ⟨rfl,rfl⟩) ?_
 rintro obj s₁ ⟨rfl,rfl⟩
 have eP:(s.heap.push {cls:=.type "dict",data:=.dict #[]}).DictOf knd s.heap.objs.size []:=Heap.DictOf.new s.heap
 have jM:(s.heap.push {cls:=.type "dict",data:=.dict #[]}).get? l=some o:=Heap.get?_push_of_some _ hx
 refine⟨eP.typeIs,F.args_dict_init_2 _ _,?_⟩
 unfold Builtin.«dict.__init__»
 refine wpAny_bind ?_
 unfold Builtin.Dict.selfAndRest
 refine wpAny_bind (wpAny_notOrdered_dict eP.typeIs ?_)
 show wpAny _ _ (pure (s.heap.objs.size,[Value.ref l])) _ _ _
 refine wpAny_pure ?_
 show wpAny _ _ (Builtin.Dict.updateFrom "dict.__init__" s.heap.objs.size (.ref l) [] .none) _ _ _
 unfold Builtin.Dict.updateFrom
 refine wpAny_bind (wpAny_typeOf ⟨o,jM,hc⟩ ?_)
 rw[if_pos (by decide)]
 refine wpAny_bind (NC jM hc dm hd hh λg tk kp=>?_)
 rw[if_pos (show(none:Option Value).isNone=true from rfl)]
 refine wpAny_bind (wpAny_rule ?_)
 have hlg:g.IsList l its:=⟨o,kp _ _ jM,hc,n,dm⟩
 have hdg:g.DictOf knd s.heap.objs.size []:=by
  obtain⟨o',es,ep,ho,q⟩:=eP
  exact⟨o',es,ep,kp _ _ ho,q⟩
 have gP:s.heap.objs.size<g.objs.size:=by
  obtain⟨o',es,ep,ho,q⟩:=hdg
  exact Heap.lt_size ho
 have jN:l<s.heap.objs.size:=Heap.lt_size hx
 refine wpAny_bind (wpAny_pyIter_list (s:={s with heap:=g,toks:=tk}) hlg ?_)
 refine wpAny_pure ⟨plainId_quiet Q1 _,?_⟩
 refine A3 (A:=A.in1) (show A.in1.in1.handled=none from hh) (d:=s.heap.objs.size) (I:=g.objs.size) (l:=l) (its:=its) (kv:=kv) (Nat.ne_of_lt gP) (Nat.ne_of_lt (Nat.lt_trans jN gP)) (Nat.ne_of_lt jN) its.size 0 _ [] rfl (Nat.zero_le _) ⟨_,Heap.get?_push_size _ rfl,rfl,rfl⟩ (hlg.push _) ?_ (hdg.push _) (by simpa using hz) ?_
 ·refine⟨hp.1,λj x p h1 h2=>?_⟩
  obtain⟨t2,gO,e2,⟨ot,hot,q⟩,dI⟩:=hp.2 j x p h1 h2
  exact⟨t2,gO,e2,⟨ot,Heap.get?_push_of_some _ (kp _ _ (Heap.get?_push_of_some _ hot)),q⟩,dI⟩
 ·intro g2 tk2 fE kp2
  refine⟨rfl,r g2 tk2 fE λb u e=>?_⟩
  have hb:=Heap.lt_size e
  exact kp2 b u (Nat.ne_of_lt (Nat.lt_trans hb gP)) (Nat.ne_of_lt hb) (Heap.get?_push_of_some _ (kp _ _ (Heap.get?_push_of_some _ e)))
end
section
def VT (acc kvs:List (Key×V)):List (Key×V):=kvs.foldl (λa p=>Gd a p.1 p.2) acc
def N4 (kvs:List (Key×V))(k:Key)(v:V):(Gd kvs k v).length<=kvs.length+1:=by
 unfold Gd
 split<;> simp
def GC:∀(kvs acc:List (Key×V)),(VT acc kvs).length<=acc.length+kvs.length
 | [],acc=>by simp[VT]
 |p::kvs,acc=>by
  have h1:=GC kvs (Gd acc p.1 p.2)
  have h2:=N4 acc p.1 p.2
  show(VT (Gd acc p.1 p.2) kvs).length<=_
  rw[List.length_cons]
  omega
def KV.all (t:KV kvs vs):∀{acc:List (Key×V)}{cE:List (Key×Value)},KV acc cE->KV (VT acc kvs) (GK cE vs):=by
 induction t with
 |nil=>intro acc cE h;exact h
 | @cons p q kvs vs r _ ih=>
  intro acc cE h
  have h2:=h.put p.1 r.2
  have e:stored cE p.1 q.2=stored cE q.1 q.2:=by rw[r.1]
  rw[e] at h2
  exact ih h2
def Pm (K:W.Frag):List V->Hp->VK->Prop:=λxs H Q=>∃ l ps kvs,xs=[.ref l]/\SqL K H l ps/\Paired (λp (kv:Key×V)=>∃ t,p= .ref t/\SqT K H t [kV kv.1,kv.2]) ps kvs/\∀d,H d=none->Q (.ref d) (upd H d (.dK (VT [] kvs)))
def WQ (I:Inv X aa U H s):∀{ps:List V}{kvs:List (Key×V)}{its:List Value},Paired (λp (kv:Key×V)=>∃ t,p= .ref t/\SqT X.K H t [kV kv.1,kv.2]) ps kvs->XX ps its->∃kv,KV kvs kv/\Sh (Yu X.prog X.w) s.heap its.toArray kv:=fun {ps kvs its} p=>by
 induction p generalizing its with
 |nil=>
  intro v
  cases v
  exact⟨[], .nil,rfl,λj x p h=>by simp at h⟩
 | @cons _ b _ _ r _ ih=>
  intro v
  cases v with
  |cons rv v=>
   obtain⟨kv,h1,h2,h3⟩:=ih v
   obtain⟨t,rfl,ht⟩:=r
   cases rv
   obtain⟨i2,v2,tp,_⟩:=I.tuple ht
   obtain⟨bw,val,rfl,e1,e2⟩:=XX.two v2
   refine⟨(b.1,val)::kv, .cons ⟨rfl,e2⟩ h1,by simpa using h2,λj x p hj hp=>?_⟩
   cases j with
   |zero=>
    simp at hj hp
    subst hj hp
    exact⟨t,bw,rfl,tp,HC e1⟩
   |succ j=>exact h3 j x p (by simpa using hj) (by simpa using hp)
def Z7 (K:W.Frag)(hK:X.K=K)(hc:X.calm=true):Qv X (.type "dict") (Pm K):=by
 subst hK
 intro aa s U H xs us Q I r h
 obtain⟨l,ps,kvs,rfl,hq,hp,q⟩:=h
 obtain⟨u,rfl,ru⟩:=Uh r
 cases ru
 obtain⟨its,rv,⟨o,n,ho,gK,hdn,dm⟩,hz⟩:=I.list hq
 obtain⟨kv,h1,h2⟩:=WQ I hp rv
 have ae:=rv.length
 have gf:=Paired.len hp
 refine HE (knd:=Yu X.prog X.w) (I.ok.hd hc) ho gK dm hdn h2 (by simpa[←ae] using hz) λg tk hd kp=>?_
 refine⟨.ref s.heap.objs.size,_,I.laid (t':=tk) kp (Nat.le_refl _) (show YT X.prog X.w _ g _ (.dK (VT [] kvs)) from⟨Nat.le_trans (GC kvs []) (by simp;omega),beq_eq_false_iff_ne.mpr (Ne.symm (Nat.ne_of_lt I.big)),_,KV.all h1 .nil,hd⟩),rfl,q _ (I.hok.fresh (Nat.le_refl _))⟩
def Ve (ns:List Int):List Int:=ns.mergeSort λa b=>decide (a<=b)
def GI (ns:List Int):(Ve ns).Perm ns:=List.mergeSort_perm ns _
def HJ (ns:List Int):(Ve ns).Pairwise (· <= ·):=by
 have h:=List.pairwise_mergeSort (le:=λa b:Int=>decide (a<=b)) (λa b c h1 h2=>by rw[decide_eq_true_eq] at h1 h2⊢;omega) (λa b=>by rw[Bool.or_eq_true,decide_eq_true_eq,decide_eq_true_eq];omega) ns
 exact h.imp λh=>by simpa using h
def OA {a b:List Int}(h:a.Perm b)(r:a.Pairwise (· <= ·)):a=Ve b:=List.Perm.eq_of_pairwise (le:=(· <= ·)) (λ_ _ _ _ h1 h2=>Int.le_antisymm h1 h2) r (HJ b) (h.trans (GI b).symm)
def Oj:∀{ns:List Int}{vs:List Value},XX (ns.map V.int) vs->IntsAre vs ns:=fun {ns}=>by
 induction ns with
 |nil=>intro vs h;cases h;exact .nil
 |cons n ns ih=>
  intro vs h
  cases h with
  |cons r t=>
   obtain⟨k,rfl⟩:=r
   exact .cons n k (ih t)
def Pc (K:W.Frag):List V->Hp->VK->Prop:=λxs H Q=>∃ l ns,xs=[.ref l]/\SqL K H l (ns.map V.int)/\ns.length<64/\∀p,H p=none->Q (.ref p) (upd H p (.lst ((Ve ns).map V.int)))
def J4 (K:W.Frag)(hK:X.K=K):Qv X (.builtin "sorted") (Pc K):=by
 subst hK
 intro aa s U H xs us Q I r h
 obtain⟨l,ns,rfl,hq,fu,q⟩:=h
 obtain⟨u,rfl,ru⟩:=Uh r
 cases ru
 obtain⟨its,rv,pl,hz⟩:=I.list hq
 have ae:=rv.length
 rw[List.length_map] at ae
 refine sorted_ints pl.isList (Oj rv) (by omega) λout ns' a1 a2 a3=>?_
 obtain⟨e,he⟩:=sortedAll_at s.heap its out
 have en:ns'=Ve ns:=OA a2 a3
 have v:=Dq a1
 rw[en] at v
 have fH:H (s.heap.objs.size+1)=none:=I.hok.fresh (Nat.le_succ _)
 refine⟨.ref (s.heap.objs.size+1),_,I.laid (t':=s.toks) (λb o e=>sortedAll_old e) (Nat.le_succ _) (show YT X.prog X.w _ _ _ (.lst ((Ve ns).map V.int)) from⟨?_,out.toList,e,v,he⟩),rfl,q _ fH⟩
 rw[List.length_map,(GI ns).length_eq]
 rw[List.length_map] at hz
 exact hz
end
section
variable {o:Obj}
def LI {k:Key}(h:Ge k u=true):XW (kV k) u:=by
 cases k with
 |inl n=>
  cases u<;> simp[Ge,Value.isInt] at h
  subst h
  exact⟨_,rfl⟩
 |inr x=>
  cases u<;> simp[Ge,Value.isStrOf] at h
  subst h
  exact⟨_,rfl⟩
end
section
def Gg {o:Obj}(hb:b≠a)(e:h.get? b=some o):(sortedHeap h a vs out).get? b=some o:=
 Heap.get?_update_of_ne _ hb.symm (Heap.get?_push_of_some _ (Heap.get?_push_of_some _ (Heap.get?_update_of_ne _ hb.symm e)))
end
section
variable [fd:FdOk Fd]{u:TS}
def EM (h:Paired (Xf K H) xs ns):xs=ns.map V.int:=by
 induction h with
 |nil=>rfl
 |cons r _ ih=>rw[List.map_cons,ih,show _=V.int _ from r]
def NV (ns:List Int):Paired (Xf K H) (ns.map V.int) ns:=by
 induction ns with
 |nil=>exact .nil
 |cons n ns ih=>exact .cons rfl ih
def Hr {ma:Rs (List Int)}(ha:EvL K Er S OO U ta Xf ma):Ev K Er S OO OO U (tCB (Pc K) (Xk ta YD)) (oL (oF Xf)) (ma.bind λas=>chk (as.length<64) (.ok (Ve as))):=λH Q w s P=>
 ha.run w s FO.tr P λas x H1 s1 w1 q1 ⟨p,xs,e,q,pr⟩ P1=>by
  obtain⟨hl,P2⟩:=PZ.chk P1
  exact⟨p,as,by rw[e],SqL.of (by rw[←EM pr];exact q),hl,Lm w1 (NV _) P2⟩
def Md {d:List (Int×M)}(pr:Paired (rDP r K H) kvs d):kvs.map (λkv=>kv.1)=(d.map λkx=>kx.1).map Sum.inl:=by
 induction pr with
 |nil=>rfl
 |cons r _ ih=>rw[List.map_cons,List.map_cons,List.map_cons,r.1,ih]
def N1 [z:FlatE r](ha:EvB K Er S OO U ta (rPL r) ma):Ev K Er S OO OO U (tCB (Fx K) (Xk ta YD)) (oL (oF r)) (ma.bind λas=>.ok as):=λH Q w s P=>
 ha.run w s FO.tr P λas x H1 s1 w1 q1 r9 P1=>by obtain⟨p,xs,e,q,pr⟩:=r9;exact⟨p,xs,by rw[e], .inr (SqT.of q),Lm w1 (Paired.imp2 (λ_ _ h=>z.flat w1.i h) pr) P1⟩
def HY (d ps:List (Int×M)):List (Int×M):=ps.foldl (λd p=>KZ d p.1 p.2) d
def Dv {ps:List (Int×M)}(h:Paired (rDP r K H) kvs ps):∀{acc:List (Key×V)}{d:List (Int×M)},Paired (rDP r K H) acc d->Paired (rDP r K H) (VT acc kvs) (HY d ps):=by
 induction h with
 |nil=>intro acc d h;exact h
 | @cons kv kx _ _ r _ ih=>
  intro acc d h
  have:=KI (k:=kx.1) r.2 h
  rw[←r.1] at this
  exact ih this
def IY (hs:Xp h H){ps:List (Int×M)}(p:Paired (rP2 Xf r K h) xs ps):∃kvs,Paired (λp (kv:Key×V)=>∃ t,p= .ref t/\SqT K H t [kV kv.1,kv.2]) xs kvs/\Paired (rDP r K h) kvs ps:=by
 induction p with
 |nil=>exact⟨[], .nil, .nil⟩
 | @cons x pr _ _ q _ ih=>
  obtain⟨kvs,h1,h2⟩:=ih
  obtain⟨t,a,b,e,ht,e1,e2⟩:=q
  have e1:a= .int pr.1:=e1
  subst e1
  exact⟨(.inl pr.1,b)::kvs, .cons ⟨t,e,SqT.of (hs _ _ ht)⟩ h1, .cons ⟨rfl,e2⟩ h2⟩
def U1 [z:MonoE r]{ma:Rs (List (Int×M))}(ha:EvL K Er S OO U ta (rP2 Xf r) ma):Ev K Er S OO OO U (tCB (Pm K) (Xk ta YD)) (oD r) (ma.bind λps=>.ok (HY [] ps)):=λH Q w s P=>
 ha.run w s FO.tr P λps x H1 s1 w1 q1 ⟨p,xs,e,q,pr⟩ P1=>by
  obtain⟨kvs,h1,h2⟩:=IY (Xv (H:=H1) (OO:=OO)) pr
  refine⟨p,xs,kvs,by rw[e],SqL.of q,h1,λd hd=>?_⟩
  have hn:=Um (OO:=OO) hd (o:=.dK (VT [] kvs))
  exact P1 (.ref d) [(d, .dK (VT [] kvs))] _ (Xw hd _) (w1.new hd rfl) hn ⟨d,_,rfl,Paired.imp2 (λ_ _ h=>⟨h.1,z.mono hn h.2⟩) (Dv h2 .nil),rfl⟩
end
section
end
section
end
section
variable [fd:FdOk Fd]{u:TS}
end
theorem RM (h1:s.heap.get? l=some o1)(c1:o1.cls= .type "list")(h2:s.heap.get? b=some o2)(c2:o2.cls= .type "list")(hu:A.units<cLine)
  (h:wpAny (model prog w) A (call (.builtin "list.__lt__") [.ref l, .ref b]) (λv s'=>(∃k,v= .bool k)/\Q v s') E s):wpAny (model prog w) A (compareOp .Lt (.ref l) (.ref b)) Q E s:=by
 have t1:s.TypeIs (.ref l) "list":=⟨_,h1,c1⟩
 have t2:s.TypeIs (.ref b) "list":=⟨_,h2,c2⟩
 show wpAny _ _ (richCompare .Lt (.ref l) (.ref b)) _ _ _
 unfold richCompare
 refine wpAny_holding ?_
 refine wpAny_bind (wpAny_cRoomFor hu ?_)
 have hone:oneThing? .Lt (.ref l) (.ref b)=none:=rfl
 rw[hone]
 dsimp only
 refine wpAny_bind (wpAny_typeOf t1 ?_)
 refine wpAny_bind (wpAny_typeOf t2 ?_)
 rw[if_neg (by decide)]
 refine wpAny_bind (wpAny_pure ?_)
 rw[if_neg (by decide)]
 unfold tryCompare
 refine wpAny_bind (wpAny_bind (wpAny_callSpecialIfBound?_slot t1 F.slot_list_lt (thn h λv s' ⟨⟨k,e⟩,q⟩=>?_)))
 subst e
 exact wpAny_pure (wpAny_pure q)
def Ks:entryFor table "list.__eq__.loop" =some Builtin.«list.__eq__.loop»:=entryFor_of_fast (by kernel_rfl)
def QO:plainId "list.__eq__.loop" =true:=by decide+kernel
section
end
section
def A4 [DecidableEq M](as:List M)(a:M)(k:Int):Rs Int:=chk (0<=k) ((Oe (as.drop k.toNat) a).bind λj=>.ok (k+j))
def Hy [DecidableEq M][z:InE r][y:MonoE r]{mb:Rs M}{mc:Rs Int}(ha:EvB K Er S OO U ta (rV r) ma)(hb:EvB K Er S OO U tb r mb)(hc:EvB K Er S OO U tc Xf mc):EvB K Er S OO U (tBM K "list" (IK K) ta (Xk tb (Xk tc YD))) Xf (ma.bind λas=>mb.bind λa=>mc.bind λk=>A4 as a k):=λH Q w s P=>
 ha.run w s FB.tr P λas x H1 s1 w1 q1 ⟨p,xs,e,q,pr⟩ P1=>⟨by rw[e];exact .inl ⟨rfl,_,SqL.of q⟩,hb.run w1 q1 FB.tr P1 λb v H2 s2 w2 q2 r2 P2=>hc.run w2 q2 FB.tr P2 λk vk H3 s3 w3 q3 r3 P3=>by
  obtain⟨hk0,P4⟩:=PZ.chk P3
  have cZ:=Paired.imp2 (G:=r K H3) (λ_ _ h=>y.mono (s2.trans s3) h) pr
  have eY:=y.mono s3 r2
  cases hi:Oe (as.drop k.toNat) b with
  |bad=>rw[hi] at P4;exact P4.elim
  |err x=>exact absurd hi M6
  |ok c=>
   rw[hi] at P4
   obtain⟨j,hj,rfl⟩:=Ms hi
   obtain⟨h1,h2⟩:=Gr eY (Paired.drop' k.toNat cZ) hj
   obtain⟨zz,hz1,hz2⟩:=h1
   rw[List.getElem?_drop] at hz1
   refine⟨p,xs,v,k.toNat,k.toNat+j,k,e,by rw[show vk= .int k from r3],by omega,SqL.of ((s2.trans s3) _ _ q),z.fl eY,(ZJ eY cZ).1,Nat.le_add_right _ _,⟨zz,hz1,hz2⟩,λm z hm1 hm2 hz=>?_,?_⟩
   ·refine h2 (m-k.toNat) z (by omega) ?_
    rw[List.getElem?_drop,show k.toNat+(m-k.toNat)=m by omega]
    exact hz
   ·have:=P4 (.int (k+(j:Int))) H3 (Xp.refl _) rfl
    rw[show((k.toNat+j:Nat):Int)=k+(j:Int) by omega]
    exact this⟩
end
section
def tk (k:List Int):List Key:=k.map Sum.inl
variable [fd:FdOk Fd]{u:TS}
end
section
variable [DecidableEq M]{d:Nat}
open Classical in
end
section
end
section
def Inv.turns {t':Nat}{ch:List Addr}(I:Inv X aa U H s)(k:∀b o,b∉ch->s.heap.get? b=some o->h'.get? b=some o)(hf:∀b∈ch,CZ X aa H b):Inv X aa U H {s with heap:=h',toks:=t'}:=by
 have f9:∀b o,H b=some o->b∉ch:=λb o e z=>by rw[(hf b z).1] at e;cases e
 refine I.step (g':=s.gens) (d':=s.drawn) (ch:=ch) (λb hb=>?_) (λb o _ _ hc e _=>k b o hc e) (λb o _ _ hc e _=>⟨o.slots,k b o hc e⟩)
  (λb o _ e n=>n) (λb o hc e=>⟨o,k b o hc e⟩) (λb xs e=>e) (λb o xs e=>e) (λb ps e=>⟨#[],by rw[e];simp⟩) (λm hm=>?_) (λb v e=>?_) I.bare
 ·obtain⟨f0,f1,f2,f3,f4,f5⟩:=hf b hb
  exact⟨f3,f1,f4,f5⟩
 ·obtain⟨o,es,ep,ho,r⟩:=hm
  exact⟨o,es,ep,k _ o (λz=>(hf _ z).2.1 rfl) ho,r⟩
 ·refine(I.hok b v e).stay (λc o hc q=>k c o ?_ q) (λc q=>q) λc xs q=>q
  rcases hc with z |z
  ·rw[z];exact f9 b v e
  ·exact f9 c _ z
end
def Itz (K:W.Frag)(a b:Addr):It:=
 ⟨λi H=>∃ xs ys x y,SqL K H a xs/\SqL K H b ys/\xs[i]?=some x/\ys[i]?=some y,λi H v H'=>∃ p x y,v= .ref p/\H p=none/\H'=upd H p (.tup [x,y])/\(∀xs,SqL K H a xs->xs[i]?=some x)/\∀ys,SqL K H b ys->ys[i]?=some y,
  λi H=>∃ xs ys,SqL K H a xs/\SqL K H b ys/\(xs.length<=i∨ys.length<=i)⟩
def qZ {u x:Addr}(h:b∉ [z,t,u,v,x]):b≠z/\b≠t/\b≠u/\b≠v/\b≠x:=⟨λe=>h (e▸ .head _),λe=>h (e▸ .tail _ (.head _)),λe=>h (e▸ .tail _ (.tail _ (.head _))),λe=>h (e▸ .tail _ (.tail _ (.tail _ (.head _)))),λe=>h (e▸ .tail _ (.tail _ (.tail _ (.tail _ (.head _)))))⟩
def qG {p:Addr->Prop}{u x:Addr}(h1:p z)(h2:p t)(h3:p u)(h4:p v)(h5:p x):∀b∈[z,t,u,v,x],p b:=
 List.forall_mem_cons.mpr ⟨h1,List.forall_mem_cons.mpr ⟨h2,List.forall_mem_cons.mpr ⟨h3,List.forall_mem_cons.mpr ⟨h4,List.forall_mem_cons.mpr ⟨h5,λ_ h=>(List.not_mem_nil h).elim⟩⟩⟩⟩⟩
def NZ {TI TO i1 i2 l1 l2:Addr}(ap:ZipApart z TI TO i1 i2 l1 l2):
  Turn P w K (.Tuple elts k pos) (Itz K l1 l2) [z,TI,TO,i1,i2] z (λi h=>IsZip h z TI TO .none/\IsPair h TI (.ref i1) (.ref i2)/\(∃a b,IsPair h TO a b)/\h.IsListIter i1 l1 i/\h.IsListIter i2 l2 i) where
 mem:=.head _
 obj:=λi h st=>by
  obtain⟨h1,h2,⟨a,c,h3⟩,⟨o4,h4,c4,d4⟩,⟨o5,h5,c5,d5⟩⟩:=st
  exact qG ⟨_,h1,λv z=>by cases z⟩ ⟨_,h2,λv z=>by cases z⟩ ⟨_,h3,λv z=>by cases z⟩ ⟨o4,h4,λv z=>by rw[d4] at z;cases z⟩ ⟨o5,h5,λv z=>by rw[d5] at z;cases z⟩
 keep:=λi h h' st k=>⟨k z (.head _) _ st.1,k TI (.tail _ (.head _)) _ st.2.1,let ⟨a,b,q⟩:=st.2.2.1;⟨a,b,k TO (.tail _ (.tail _ (.head _))) _ q⟩,st.2.2.2.1.at λo q=>k i1 (.tail _ (.tail _ (.tail _ (.head _)))) o q,st.2.2.2.2.at λo q=>k i2 (.tail _ (.tail _ (.tail _ (.tail _ (.head _))))) o q⟩
 item:=by
  intro X hP hw hK hc i aa s U H E I hf st hg
  subst hP hw hK
  obtain⟨xs,ys,x,y,iu,iw,hx,hy⟩:=hg
  obtain⟨jO,iy,p1,_⟩:=I.list iu
  obtain⟨aC,fK,p2,_⟩:=I.list iw
  obtain⟨u,hu,ru⟩:=iy.get hx
  obtain⟨v,hv,rv⟩:=fK.get hy
  obtain⟨h1,h2,⟨a,c,h3⟩,h4,h5⟩:=id st
  refine wpAny_pyNext_zip_item ap h1 h2 h3 h4 h5 p1.isList p2.isList (x:=u) (y:=v) (by simpa using hu) (by simpa using hv) λh' z' TO' i1' i2' tup sz kk=>?_
  have hT:∀b o,s.heap.get? b=some o->s.heap.objs.size≠b:=λb o q z=>absurd (Heap.lt_size q) (by rw[←z];exact Nat.lt_irrefl _)
  have tz:=hT z _ h1
  have tTI:=hT TI _ h2
  have tTO:=hT TO _ h3
  have t1:s.heap.objs.size≠i1:=by obtain⟨o,q,_⟩:=h4;exact hT i1 o q
  have t2:s.heap.objs.size≠i2:=by obtain⟨o,q,_⟩:=h5;exact hT i2 o q
  refine⟨_,rfl,wpAny_letOwnedTupleGo_zip z' λgh z'' sb=>?_⟩
  have k1:∀b o,b≠z->h'.get? b=some o->gh.get? b=some o:=λb o hb e=>(sb.2 b hb).trans e
  have k2:∀b o,b∉ [z,TI,TO,i1,i2]->s.heap.get? b=some o->gh.get? b=some o:=λb o q1 q=>let f:=qZ q1;k1 b o f.1 (kk b o f.1 f.2.2.1 f.2.2.2.1 f.2.2.2.2 q)
  refine⟨.ref s.heap.objs.size,upd H s.heap.objs.size (.tup [x,y]),I.turnLay (h':=gh) (t':=s.toks) k2 hf (Nat.le_refl _) ⟨by show 2<=sizeLine;decide,[u,v], .cons ru (.cons rv .nil),⟨_,k1 _ _ tz tup,⟨rfl,rfl⟩,_,rfl⟩⟩,rfl,
   ⟨_,x,y,rfl,I.hok.fresh (Nat.le_refl _),rfl,λzs hz=>by rw[I.list_inj hz iu];exact hx,λzs hz=>by rw[I.list_inj hz iw];exact hy⟩,⟨z'',k1 _ _ ap.TIz (kk _ _ ap.TIz ap.TITO ap.TIi1 ap.TIi2 h2),⟨_,_,k1 _ _ ap.TOz TO'⟩,i1'.at λo q=>k1 _ _ ap.i1z q,i2'.at λo q=>k1 _ _ ap.i2z q⟩,λb hb=>?_⟩
  exact(XH (qG (p:=λb=>b≠s.heap.objs.size) tz.symm tTI.symm tTO.symm t1.symm t2.symm b hb)).trans (hf b hb).1
 done:=by
  intro X hP hw hK hc i aa s U H E I hf st hg
  subst hP hw hK
  obtain⟨xs,ys,iu,iw,hx⟩:=hg
  obtain⟨jO,iy,p1,_⟩:=I.list iu
  obtain⟨aC,fK,p2,_⟩:=I.list iw
  obtain⟨h1,h2,⟨a,c,h3⟩,h4,h5⟩:=id st
  have hl1:=iy.length
  have gf:=fK.length
  refine wpAny_pyNext_zip_end (I.ok.hd hc) ap h1 h2 h3 h4 h5 p1.isList p2.isList (hx.elim (λh=>.inl (by simp;omega)) λh=>.inr (by simp;omega)) λh' kk=>⟨rfl,I.turns (t':=s.toks) (ch:=[z,TI,TO,i1,i2]) (λb o q1 q=>let f:=qZ q1;kk b o f.1 f.2.2.1 f.2.2.2.1 f.2.2.2.2 q) hf⟩
 self:=λ_ _ _ _ _ st h=>wpAny_pyIter_zip st.1 h
section
variable {gI:Pos}
def qI (K:W.Frag)(t:TA):TI:=λU H R=>t U H λvs H1=>∃ a b,vs=[.ref a, .ref b]/\(∃xs,SqL K H1 a xs)/\(∃ys,SqL K H1 b ys)/\R (Itz K a b) H1
def T4 {t:TA}{p:Pos}(K:W.Frag)(hK:X.K=K)(hg:Gl X "zip")(hm:X.mg "zip" =none)(ha:PA X (e::es) t)
  (he:starEach (e::es) X.env=(false,eval e X.env)::starEach es X.env:=by rfl)(hpl:(backTo pos (starEach es X.env)).any (·.1)=false:=by rfl):PI X (.Tuple elts k gI) (.Call (.Name "zip" p) (e::es) [] pos) (qI K t):=by
 subst hK
 intro aa s U H R I h
 refine wpAny_Call_Name_kw (Ju I hg hm boot_zip ?_)
 refine callWith_type1 (thn (ha pos aa s U H _ I h) λus s1 r9=>?_) he hpl
 obtain⟨vs,H1,I1,r1,q1⟩:=r9
 obtain⟨a,b,rfl,⟨xs,iu⟩,⟨ys,iw⟩,q⟩:=q1
 obtain⟨u,v,rfl,ru,rv⟩:=XX.two r1
 cases ru
 cases rv
 obtain⟨jO,_,pl1,_⟩:=I1.list iu
 obtain⟨aC,_,pl2,_⟩:=I1.list iw
 have l1:a<s1.heap.objs.size:=by obtain⟨o,n,ho,_⟩:=pl1;exact Heap.lt_size ho
 have l2:b<s1.heap.objs.size:=by obtain⟨o,n,ho,_⟩:=pl2;exact Heap.lt_size ho
 refine call_zip_2 pl1.isList pl2.isList λh' hz hTI hTO i1 i2 sz kk=>?_
 refine wpAny_pyIter_zip hz ?_
 have hge:∀c:Nat,s1.heap.objs.size<=c->CZ X aa H1 c:=λc hc=>I1.fpOk hc (I1.hok.fresh hc)
 generalize s1.heap.objs.size=n0 at l1 l2 hz hTI hTO i1 i2 hge⊢
 have l1': @LT.lt Nat _ a n0:=l1
 have l2': @LT.lt Nat _ b n0:=l2
 have ap:ZipApart (n0+4) (n0+2) (n0+3) n0 (n0+1) a b:=by
  constructor<;> (intro z;have z: @Eq Nat _ _:=z;omega)
 refine⟨_,[n0+4,n0+2,n0+3,n0,n0+1],_,_,H1,rfl,I1.kept (t':=s1.toks) kk,NZ ap,⟨hz,hTI,⟨_,_,hTO⟩,i1,i2⟩,λc hb=>hge c ?_,q⟩
 simp only[List.mem_cons,List.not_mem_nil,or_false] at hb
 rcases hb with rfl |rfl |rfl |rfl |rfl
 ·exact Nat.le_add_right _ _
 ·exact Nat.le_add_right _ _
 ·exact Nat.le_add_right _ _
 ·exact Nat.le_refl _
 ·exact Nat.le_add_right _ _
end
section
def NT {q:Enc B}[z:MonoE r][y:MonoE q]{mb:Rs (List B)}(ha:EvS K Er S OO U ta (rV r) ma)(hb:EvS K Er S OO U tb (rV q) mb):Walk K Er S OO U (qI K (Xk ta (Xk tb YD))) (rP2 r q) (ma.bind λas=>mb.bind λbs=>.ok (as.zip bs)):=⟨fun {H R} w s P=>by
 refine ha H _ w s ?_
 cases em:ma with
 |bad=>rw[em] at P;exact P
 |err x=>rw[em] at P;exact P
 |ok as=>
  rw[em] at P
  intro v H1 s1 ⟨p,xs,e,hp,pr⟩
  refine hb H1 _ (w.keep s1) (S.mono _ _ (Xh s1) s) ?_
  have P1:PZ Er _ H (mb.bind λbs=>.ok (as.zip bs)):=P
  cases en:mb with
  |bad=>rw[en] at P1;exact P1
  |err x=>rw[en] at P1;exact λH2 s2=>P1 H2 (s1.trans s2)
  |ok bs=>
   rw[en] at P1
   intro v2 H2 s2 ⟨p2,ys,e2,cW,cZ⟩
   have dS:=Xh (OO:=OO) s2 _ _ hp
   refine⟨p,p2,by rw[e,e2],⟨xs,SqL.of (Xv _ _ dS)⟩,⟨ys,SqL.of (Xv _ _ cW)⟩,P1 _ H2 (s1.trans s2) ?_ ?_⟩
   ·intro i c hc bp H3 w3 m3
    rw[List.getElem?_zip_eq_some] at hc
    obtain⟨x,hx,rx⟩:=Paired.getR pr hc.1
    obtain⟨x2,eV,rx2⟩:=Paired.getR cZ hc.2
    have q1:SqL K H3 p xs:=SqL.of (Xv _ _ (m3 _ _ dS))
    have q2:SqL K H3 p2 ys:=SqL.of (Xv _ _ (m3 _ _ cW))
    refine⟨⟨xs,ys,x,x2,q1,q2,hx,eV⟩,λyv H4 h4=>?_⟩
    obtain⟨b,x',y',rfl,hb,rfl,g1,g2⟩:=h4
    have e1:=g1 xs q1
    have e3:=g2 ys q2
    rw[hx] at e1
    rw[eV] at e3
    cases e1
    cases e3
    refine⟨Xw hb _,⟨b,x,x2,rfl,Z8 w3 hb,z.mono (((Xh s2).trans m3).trans (Xh (Xw hb _))) rx,y.mono (m3.trans (Xh (Xw hb _))) rx2⟩⟩
   ·intro bp H3 w3 m3
    refine⟨xs,ys,SqL.of (Xv _ _ (m3 _ _ dS)),SqL.of (Xv _ _ (m3 _ _ cW)),?_⟩
    rw[List.length_zip,Paired.len pr,Paired.len cZ]
    omega⟩
end
section
end
section
variable [fd:FdOk Fd]{u:TS}
end
section
variable {u:TS}
def Gj:Nat->B->(B->Rs Bool)->(B->Rs (Ctl ρ B))->Rs (Ctl ρ B)
 |0,_,_,_=>.bad
 |n+1,g,c,f=>(c g).bind λb=>if b=true then(f g).bind λr=>match r with
  | .ret r=>.ok (.ret r)
  | .nx g'=>Gj n g' c f else .ok (.nx g)
def IZ {o:OE ρ}{tb:TS}{mc:B->Rs Bool}{f:B->Rs ρ}(J:Jn B ι)(n:Nat)(x0:ι)(g0:B)(h1:OO=J.oo x0)(h2:U=J.ss x0)(h3:∀h,S.p h->(J.sc g0 x0).p h)
  (hc:∀g x,EvT Er (J.sc g x) (J.oo x) (J.ss x) c (mc g))(hb:∀g x,Sv Er (J.sc g x) (J.oo x) (J.ss x) tb (FCd K o J) (body g))
  (hr:∀g x,Sv Er (J.sc g x) (J.oo x) (J.ss x) u (FTd K o) (f g)):Sv Er S OO U (Zf (Du c tb) u) (FTd K o) ((Gj n g0 mc body).bind (Vm f)):=λH D w s P=>by
 refine⟨λmm U' H2=>∃ x gg,U'=J.ss x/\W (J.oo x) H2/\(J.sc gg x).p (hid H2 (J.oo x))/\PZ Er (FTd K o D) (hid H2 (J.oo x)) ((Gj mm gg mc body).bind (Vm f)),⟨n,x0,g0,h2,by rw[←h1];exact w,by rw[←h1];exact h3 _ s,by rw[←h1];exact P⟩,?_⟩
 rintro mm U' H2 ⟨x,gg,rfl,w2,cQ,P2⟩
 cases mm with
 |zero=>exact P2.elim
 |succ mm=>
  have P3:PZ Er (FTd K o D) (hid H2 (J.oo x)) ((mc gg).bind λb=>(if b=true then(body gg).bind λr=>match r with
   | .ret r=>.ok (.ret r)
   | .nx g'=>Gj mm g' mc body else .ok (.nx gg)).bind (Vm f)):=by rw[←XQ];exact P2
  refine(hc gg x).st w2 cQ P3 λb H3 w3 sc3 P4=>?_
  cases b with
  |false=>exact hr gg x H3 D w3 sc3 P4
  |true=>
   rw[if_pos rfl] at P4⊢
   refine⟨λσ3 H4=>∃ x gg,σ3=J.ss x/\W (J.oo x) H4/\(J.sc gg x).p (hid H4 (J.oo x))/\PZ Er (FTd K o D) (hid H4 (J.oo x)) ((Gj mm gg mc body).bind (Vm f)),λσ3 H4 q=>⟨mm,Nat.lt_succ_self _,q⟩,hb gg x H3 _ w3 sc3 ?_⟩
   rw[XQ] at P4
   cases eb:body gg with
   |bad=>rw[eb] at P4;exact P4
   |err x=>rw[eb] at P4;exact P4
   |ok c=>
    rw[eb] at P4
    cases c with
    |ret r=>exact P4
    |nx g'=>exact λx' H5 w5 m5 sc5=>⟨x',g',rfl,w5,sc5,PZ.tr (FdOk.tr D) m5 P4⟩
end
section
end
section
end
section
variable {o:Obj}
end
section
end
section
variable {OO3:List (List XD)}{ζ:Type}
variable [fd:FdOk Fd]{u:TS}
def oT3 (o:OE M)(q:OE L)(t:OE B):OE (M×L×B):=λK h v a C=>∃ p x y z C1 C2 C3,v= .ref p/\h p=some (.tup [x,y,z])/\o K h x a.1 C1/\q K h y a.2.1 C2/\t K h z a.2.2 C3/\C=C1++(C2++C3)
instance {o:OE M}{q:OE L}{t:OE B}[m:MonoO o][n:MonoO q][k:MonoO t]:MonoO (oT3 o q t):=⟨λs r9=>by obtain⟨p,x,y,z,C1,C2,C3,e,h,h1,h2,h3,c⟩:=r9;exact⟨p,x,y,z,C1,C2,C3,e,s _ _ h,m.mono s h1,n.mono s h2,k.mono s h3,c⟩⟩
instance {o:OE M}{q:OE L}{t:OE B}[m:FlatO o][n:FlatO q][k:FlatO t]:FlatO (oT3 o q t):=⟨λs r9=>by obtain⟨p,x,y,z,C1,C2,C3,e,h,h1,h2,h3,c⟩:=r9;exact⟨p,x,y,z,C1,C2,C3,e,s _ _ h rfl,m.flat s h1,n.flat s h2,k.flat s h3,c⟩⟩
instance {o:OE M}{q:OE L}{t:OE B}{ro:Enc M}{rq:Enc L}{rt:Enc B}[m:FrzC o ro][n:FrzC q rq][k:FrzC t rt]:FrzC (oT3 o q t) (rP3 ro rq rt):=⟨λ⟨p,x,y,z,C1,C2,C3,e,h,h1,h2,h3,c⟩ s hc=>by
 subst c
 exact⟨p,x,y,z,e,s _ _ h,m.frz h1 s λc hm=>hc c (by simp[hm]),n.frz h2 s λc hm=>hc c (by simp[hm]),k.frz h3 s λc hm=>hc c (by simp[hm])⟩⟩
end
section
variable {ζ:Type}
variable [fd:FdOk Fd]{u:TS}
def U6 {ma:Rs Bool}(ha:EvB K Er S OO U ta XI ma):EvB K Er S OO U (tCB (λxs H Q=>(∃i,xs=[.int i]/\Q (.int i) H)∨∃k,xs=[.bl k]/\Q (.int (if k then 1 else 0)) H) (Xk ta YD)) Xf (ma.bind λb=>.ok (if b=true then(1:Int) else 0)):=λH Q w s P=>
 ha.run w s FB.tr P λb x H1 s1 w1 q1 r1 P1=>.inr ⟨b,by rw[show x= .bl b from r1],P1 _ H1 (Xp.refl _) rfl⟩
end
section
variable {ζ:Type}
variable [fd:FdOk Fd]{u:TS}
end
section
variable {ζ:Type}
variable [fd:FdOk Fd]{u:TS}
end
end L2
namespace L2
open PySem
end L2
namespace L2
open PySem PySem.Spec PyProof.Rows
def dd (l:List Int):List Int:=l.foldl step_dedup []
section
end
section
end
section
variable {Mqz:Model}
end
section
variable {o:Obj}{es:Array (Int×Value)}{ep:Nat}{t:SetTable}
end
section
variable {tp:Addr}{o:Obj}{es:Array (Int×Value)}{ep:Nat}{t:SetTable}{Lqz:List (Int×Value)}
end
section
variable {tp:Addr}{o:Obj}{es:Array (Int×Value)}{ep:Nat}{t:SetTable}{Lqz:List (Int×Value)}
end
section
end
section
variable {u:TS}
variable [fd:FdOk Fd]
end
section
end
section
variable {E:XK}
end
section
def O6 (K:W.Frag):R2:=λx y H Q=>∃ a b xs ys,x= .ref a/\y= .ref b/\SqT K H a xs/\SqT K H b ys/\ys≠ []/\xs.length+ys.length<=sizeLine/\
 (xs=[]->Q (.ref b) H)/\(xs≠ []->∀p,H p=none->Q (.ref p) (upd H p (.tup (xs++ys))))
def U8 (K:W.Frag)(hK:X.K=K):OpR X (binaryOp .Add) (O6 K):=by
 subst hK
 intro aa s U H x y v u Q I rx ry h
 obtain⟨a,b,xs,ys,e1,e2,ha,hb,hy,hz,q1,q2⟩:=h
 by_cases hx:xs=[]
 ·subst e1 e2
  cases rx
  cases ry
  obtain⟨its,r1,p1,_⟩:=I.tuple ha
  obtain⟨aC,r2,p2,_⟩:=I.tuple hb
  obtain⟨⟨cls,dd,data,sl⟩,ho,hc,n,hd⟩:=id p1
  obtain⟨⟨cls2,dd2,data2,sl2⟩,d9,eM,n2,fE⟩:=id p2
  simp only at hc hd eM fE
  subst hc hd eM fE
  have e0:its=[]:=r1.nil_iff.mpr hx
  exact concat_meets ⟨_,ho,rfl⟩ ⟨_,d9,rfl⟩ noFill_tuple_add seq_tuple_add PySem.F.slot_tuple_add PySem.F.entry_tuple_add (PySem.F.args_tuple_add_2 _ _)
   (tuple_addW0 a b its.toArray aC.toArray n n2 dd dd2 sl sl2 (by simp[e0])) ⟨ho,d9,⟨.ref b,H,I,rfl,q1 hx⟩⟩
 ·exact Rh aa s U H x y v u Q I rx ry ⟨a,b,xs,ys,e1,e2,ha,hb,hx,hz,λz=>absurd z hy,λ_=>q2 hx⟩
def AT (lo:Int)(n:Nat):It:=⟨λi _=>i<n,λi H x H'=>H'=H/\x= .int (lo-i),λi _=>n<=i⟩
def Ip (it:Addr)(lo:Int)(n:Nat):Turn P w K tg (AT lo n) [it] it (λi h=>IsRangeIter h it (lo+(i:Nat)* -1) ((n:Int)-(i:Nat)) (-1)) where
 mem:=by simp
 obj:=λi h st b hb=>by
  have e:b=it:=by simpa using hb
  subst e
  exact⟨_,st,λv z=>by
   have z':Data.fields _=Data.cell v:=z
   cases z'⟩
 keep:=λi h h' st k=>k it (by simp) _ st
 item:=by
  intro X hP hw hK hc i aa s U H E I hf st hg
  subst hP hw hK
  obtain⟨f0,f1,f2,f3,f4,f5⟩:=hf it (by simp)
  have W:=Walks.range (prog:=X.prog) (w:=X.w) (I.ok.hd hc) it lo (-1) n
  refine W.item i s _ _ hg st λv h' tk hv fk kk=>?_
  obtain⟨t,rfl⟩:=hv
  have I1:Inv X aa U H {s with heap:=h',toks:=tk}:=I.turned (λb o hb e=>kk b o (by simpa using hb) e) f0 f1 f3 f4 f5
  refine⟨_,rfl,Sd (s:={s with heap:=h',toks:=tk}) (n:="range_iterator") fk rfl rfl (by decide) ⟨.int (lo-i),H,I1,⟨t,?_⟩,⟨rfl,rfl⟩,fk,λb hb=>(hf b hb).1⟩⟩
  rw[show lo+(i:Int)* -1=lo-i by omega]
 done:=by
  intro X hP hw hK hc i aa s U H E I hf st hg
  subst hP hw hK
  obtain⟨f0,f1,f2,f3,f4,f5⟩:=hf it (by simp)
  exact wpAny_pyNext_range_end (I.ok.hd hc) st (by have:n<=i:=hg;omega) λh' eb=>⟨rfl,I.turned (t':=s.toks) (λb o hb e=>eb b o hb e) f0 f1 f3 f4 f5⟩
 self:=λ_ _ _ _ _ st h=>wpAny_pyIter_rangeiter st h
def J0 (a b:Int):Builtin.Range.rangeSize a b (-1)=if b<a then a-b else 0:=by
 unfold Builtin.Range.rangeSize
 simp only[show ¬(-1:Int) > 0 by decide,if_false,Int.neg_neg,Int.ediv_one]
 split<;> omega
def HL {a b:Int}(ha: -(2^62)<=a)(ha':a<2^62)(hb: -(2^62)<=b)(dP:b<2^62):Builtin.Range.small a b (-1)=true:=by
 unfold Builtin.Range.small
 rw[J0]
 simp only[Builtin.Range.rangeFitsLong,Bool.and_eq_true,Bool.or_eq_true,decide_eq_true_eq,beq_iff_eq,show ¬(-1:Int) > 0 by decide,if_false]
 split<;> omega
def T8 (ta:TA):TI:=λU H R=>ta U H λvs H1=>∃ i j:Int,vs=[.int i, .int j, .int (-1)]/\(-(2^62)<=i/\i<2^62/\ -(2^62)<=j/\j<2^62)/\R (AT i (i-j).toNat) H1
def SN {R:It->Hp->Prop}{lo hi:Int}{t u v:Tok}{tk:Nat}(I:Inv X aa U H s)(h1: -(2^62)<=lo)(h2:lo<2^62)(h3: -(2^62)<=hi)(h4:hi<2^62)
  (q:R (AT lo (lo-hi).toNat) H):wpAny (model X.prog X.w) X.A (pyIter (.ref s.heap.objs.size)) (PIE X aa U tg R) E {s with heap:=s.heap.push {cls:=.type "range",data:=.fields #[.int lo t, .int hi u, .int (-1) v]},toks:=tk}:=by
 refine wpAny_pyIter_range (IsRange.new ..) (HL h1 h2 h3 h4) ?_
 have I1:Inv X aa U H {s with heap:=s.heap.push {cls:=.type "range",data:=.fields #[.int lo t, .int hi u, .int (-1) v]},toks:=tk}:=I.kept λb o e=>Heap.get?_push_of_some _ e
 refine⟨(s.heap.push {cls:=.type "range",data:=.fields #[.int lo t, .int hi u, .int (-1) v]}).objs.size,[(s.heap.push {cls:=.type "range",data:=.fields #[.int lo t, .int hi u, .int (-1) v]}).objs.size],_,_,H,rfl,
  I1.kept (t':=tk) λb o e=>Heap.get?_push_of_some _ e,Ip _ lo (lo-hi).toNat,?_,λb hb=>?_,q⟩
 ·have e1:lo+((0:Nat):Int)* -1=lo:=by simp
  have e2:(((lo-hi).toNat:Nat):Int)-((0:Nat):Int)=Builtin.Range.rangeSize lo hi (-1):=by rw[J0];split<;> omega
  show IsRangeIter _ _ (lo+((0:Nat):Int)* -1) ((((lo-hi).toNat:Nat):Int)-((0:Nat):Int)) (-1)
  rw[e1,e2]
  exact Heap.get?_push_size _ rfl
 ·have e:b=(s.heap.push {cls:= .type "range",data:= .fields #[.int lo t, .int hi u, .int (-1) v]}).objs.size:=by simpa using hb
  subst e
  exact I1.fpOk (Nat.le_refl _) (I1.hok.fresh (Nat.le_refl _))
def Lr {a b:Expr}{ta:TA}{p:Pos}(hg:Gl X "range")(hm:X.mg "range" =none)(ha:PA X [a,b,c] ta)(hs:starEach [a,b,c] X.env=[(false,eval a X.env),(false,eval b X.env),(false,eval c X.env)]:=by rfl)(fm:starEach [b,c] X.env=[(false,eval b X.env),(false,eval c X.env)]:=by rfl):
  PI X tg (.Call (.Name "range" p) [a,b,c] [] pos) (T8 ta):=by
 intro aa s U H R I h
 refine Call_ (Ju I hg hm boot_range (callWith_type1 (thn (ha pos aa s U H _ I h) λus s1 r9=>?_) (by rw[hs,fm]) (by rw[fm];rfl)))
 obtain⟨vs,H1,I1,r1,q1⟩:=r9
 obtain⟨i,j,e,⟨q1,q2,q3,q4⟩,q⟩:=q1
 subst e
 cases r1 with
 |cons r rr=>
  cases rr with
  |cons r' rr=>
   cases rr with
   |cons r'' rr=>
    cases rr
    obtain⟨t,rfl⟩:=r
    obtain⟨t',rfl⟩:=r'
    obtain⟨t'',rfl⟩:=r''
    exact call_range_3 (by decide) (SN I1 q1 q2 q3 q4 q) (.inl (PyProof.noPylong_of_log2 (by decide+kernel)))
end
section
def Ka [z:MonoE r]{mb:Rs (List M)}(ha:EvB K Er S OO U ta (rPL r) ma)(hb:EvB K Er S OO U tb (rPL r) mb):EvB K Er S OO U (tOp (O6 K) ta tb) (rPL r) (ma.bind λas=>mb.bind λbs=>chk (0<bs.length/\as.length+bs.length<=sizeLine) (.ok (as++bs))):=λH Q w s P=>
 ha.run w s FB.tr P λas x H1 s1 w1 q1 ⟨p,xs,e,q,pr⟩ P1=>hb.run w1 q1 FB.tr P1 λbs y H2 s2 w2 q2 ⟨p',ys,e',q',eC⟩ P2=>by
  obtain⟨⟨h1,h2⟩,P3⟩:=PZ.chk P2
  have hl:=Paired.len pr
  have iU:=Paired.len eC
  have cZ:Paired (r K H2) xs as:=Paired.imp2 (λ_ _ h=>z.mono s2 h) pr
  refine⟨p,p',xs,ys,e,e',SqT.of (s2 _ _ q),SqT.of q',λz=>by rw[z] at iU;simp at iU;omega,by rw[hl,iU];exact h2,λhz=>?_,λ_ a ha=>P3 _ _ (Xw ha _) ⟨a,_,rfl,Ym,Paired.imp2 (λ_ _ h=>z.mono (Xw ha _) h) (Paired.app cZ eC)⟩⟩
  subst hz
  have ha:as=[]:=List.length_eq_zero_iff.mp (by rw[←hl];rfl)
  subst ha
  exact P3 _ H2 (Xp.refl _) ⟨p',ys,rfl,q',eC⟩
def De (lo hi:Int):List Int:=(List.range (lo-hi).toNat).map λ(i:Nat)=>lo-(i:Int)
def Hz {lo hi:Int}{i:Nat}{a:Int}(h:(De lo hi)[i]?=some a):a=lo-i/\i<(lo-hi).toNat:=by
 unfold De at h
 rw[List.getElem?_map] at h
 rcases Nat.lt_or_ge i (lo-hi).toNat with q |q
 ·rw[List.getElem?_range q] at h;exact⟨(Option.some.inj h).symm,q⟩
 ·rw[List.getElem?_eq_none (by simpa using q)] at h;cases h
def Ib {lo hi:Int}:(De lo hi).length=(lo-hi).toNat:=by simp[De]
def jr (lo hi st:Int):Rs (List Int):=chk (st= -1/\ -(2^62)<=lo/\lo<2^62/\ -(2^62)<=hi/\hi<2^62) (.ok (De lo hi))
def Ed {ma mc:Rs Int}(ha:EvB K Er S OO U ta Xf ma)(hb:EvB K Er S OO U tb Xf mb)(hc:EvB K Er S OO U tc Xf mc):Walk K Er S OO U (T8 (Xk ta (Xk tb (Xk tc YD)))) Xf (ma.bind λlo=>mb.bind λn=>mc.bind λst=>jr lo n st):=⟨fun {H R} w s P=>
 ha.run w s (λas H H' s' h J H2 s2=>h J H2 (s'.trans s2)) P λlo v H1 s1 w1 q1 r1 P1=>hb.run w1 q1 (λas H H' s' h J H2 s2=>h J H2 (s'.trans s2)) P1 λn v2 H2 s2 w2 q2 r2 P2=>hc.run w2 q2 (λas H H' s' h J H2 s2=>h J H2 (s'.trans s2)) P2 λst v3 H3 s3 w3 q3 r3 aD=>by
  obtain⟨c,hc,P3⟩:=aD.okOf λx=>QE
  obtain⟨⟨h0,h1⟩,h3⟩:=Zc hc
  cases h3
  subst h0
  refine⟨lo,n,by rw[show v= .int lo from r1,show v2= .int n from r2,show v3= .int (-1) from r3],h1,P3 _ H3 (Xp.refl _) (λi a ha bp H4 w4 m4=>?_) λbp H4 w4 m4=>?_⟩
  ·obtain⟨e1,e2⟩:=Hz ha
   refine⟨e2,λx H5 r9=>?_⟩
   obtain⟨e3,e4⟩:=r9
   subst e3
   exact⟨Xp.refl _,by rw[e4,e1];rfl⟩
  ·show(lo-n).toNat<=_
   rw[Ib];exact Nat.le_refl _⟩
def Se [z:MonoO o1]{m:Rs (M×B)}(he:Ev K Er S OO OO' U te (oT2 o1 o2) m):Ev K Er S OO OO' U (tOp (CY K) te (tC (.int 0))) o1 (m.bind λp=>.ok p.1):=λH Q w s P=>by
 refine he H _ w s ?_
 cases m with
 |bad=>exact P
 |err x=>exact P
 |ok a=>
  intro v C H1 s1 w1 m1 ⟨p,x',y,C1,C2,e,q,h1,h2,c⟩
  subst c
  have hs:Xp (hid H1 ((C1++C2)::OO')) (hid H1 (C1::OO')):=Zk (Xp.refl _) λb hb=>by
   rw[XG] at hb⊢
   rw[List.map_append,List.append_assoc]
   rcases List.mem_append.mp hb with z |z
   ·exact List.mem_append_left _ z
   ·exact List.mem_append_right _ (List.mem_append_right _ z)
  have P2:FO K OO OO' o1 Q a.1 H:=P
  refine⟨p,_,0,x',e,rfl,SqT.of (Xv _ _ q),rfl,P2 x' C1 H1 s1 (w1.sub ?_) (m1.trans hs) (z.mono hs h1)⟩
  simp only[List.flatten_cons,List.append_assoc]
  exact List.Sublist.append_left (List.sublist_append_right _ _) _
variable {u:TS}[fd:FdOk Fd]
def Ri (as:List M):Rs (M×List M):=match as.getLast? with
 |some a=>.ok (a,as.dropLast)
 |none=>.bad
def S5 [MonoE r]{f:M×List M->Rs L}(x i k:Nat)(hσ:U[i]?=some (some v))(hk:OO[k]?=some C)(h:∀x,S.p x->oL (oF r) K x v as C)
  (hr:∀a bs y C',Sv Er ((S.add K r y a).addO K (oL (oF r)) v bs C') (OO.set k C') (U.set x (some y)) u Fd (f (a,bs))):Sv Er S OO U (Zf (DW (qc K "list" A2 (JP i)) (Yr x)) u) Fd ((Ri as).bind f):=λH D w s P=>by
 obtain⟨p,xs,Cs,e,q,c⟩:=h _ s
 subst c e
 unfold Ri at P
 cases ha:as.getLast? with
 |none=>rw[ha] at P;exact P.elim
 |some a=>
  rw[ha] at P
  have hH:H p=some (.lst xs):=w.tr (p, .lst xs) (List.mem_flatten.mpr ⟨_,List.mem_of_getElem? hk,List.mem_cons_self⟩)
  have nd:=Q6 w.nil hk
  rw[List.append_nil] at nd
  obtain⟨w3,m3⟩:=Ax (D:=[]) (xs':=xs.dropLast) (Cs':=Cs.dropLast) w.nil hk (λc hc=>List.mem_append_left _ ((VP Cs).subset hc)) (nd.sublist ((VP Cs).map _))
  rw[YK] at m3
  rw[List.getLast?_eq_getElem?, ←q.len.1] at ha
  obtain⟨y,c,hy,_,_,ry⟩:=P3.get q ha
  refine⟨.ref p,hσ, .inl ⟨rfl,_,SqL.of hH⟩,p,xs,y,rfl,rfl,hH,hy,?_⟩
  exact hr a as.dropLast y _ _ D w3 ⟨⟨S.mono _ _ m3 s,MonoE.mono m3 ry⟩,⟨p,_,_,rfl,P3.imp (λ_ _ _ z=>MonoO.mono m3 z) q.dropLast,rfl⟩⟩ (PZ.tr (fd.tr D) m3 P)
end
section
variable {u:TS}[fd:FdOk Fd]
def Jn.wR (J:Jn B ι)(k:Nat)(R:List XD):Jn B ι:={oo:=λx=>(J.oo x).set k R,ss:=J.ss,sc:=J.sc}
def PB (hk:OO[k]?=some []):(OO.set k C).flatten.Perm (C::OO).flatten:=by
 have ah:k<OO.length:=(List.getElem?_eq_some_iff.mp hk).1
 have h1:(OO.set k C)[k]?=some C:=by simp[ah]
 have h2:=XN h1
 rw[List.set_set] at h2
 have h3:OO.set k []=OO:=by
  refine List.ext_getElem? λi=>?_
  by_cases e:k=i
  ·subst e;rw[hk];simp[ah]
  ·simp[e]
 rw[h3] at h2
 exact h2.symm
def Si {tb:TS}[z:MonoO o]{f:B->Rs L}(J:Jn B ι)(kx kr ix:Nat)(x0:ι)(g0:B)(he:Ev K Er S OO OO U te (oL o) m)(h1:OO=J.oo x0)(h2:U=J.ss x0)(h3:∀h,S.p h->(J.sc g0 x0).p h)
  (hkx:∀x,(J.oo x)[kx]?=some [])(hkr:∀x,(J.oo x)[kr]?=some [])(aN:kr≠kx)
  (hb:∀R g x a v C,Sv Er ((J.sc g x).addO K o v a C) (((J.oo x).set kr R).set kx C) ((J.ss x).set ix (some v)) tb (FNd (J.wR kr R)) (body g a))
  (hr:∀g x,Sv Er (J.sc g x) (J.oo x) (J.ss x) u Fd (f g)):Sv Er S OO U (Zf (Il (Ft K te) (Yr ix) tb) u) Fd (m.bind λas=>(forN as g0 body).bind f):=λH D w s P=>by
 refine he H _ w s ?_
 cases em:m with
 |bad=>rw[em] at P;exact P
 |err x=>rw[em] at P;exact λH' s'=>P H' (Xv.trans s')
 |ok as=>
  rw[em] at P
  have P:PZ Er (Fd D) (hid H OO) ((forN as g0 body).bind f):=P
  intro v C H' s' w' m' ⟨p,xs,Cs,e,q,c⟩
  subst c e
  have dS:=w'.cell (p, .lst xs) List.mem_cons_self
  have ae:=q.len
  let R:Nat->List XD:=λi=>(p,HO.lst xs)::(Cs.drop i).flatten
  have e0:R 0=(p,HO.lst xs)::Cs.flatten:=by show _::(Cs.drop 0).flatten=_;rw[List.drop_zero]
  have iz:∀x i,((J.oo x).set kr (R i)).flatten.Perm (R i::J.oo x).flatten:=λx i=>PB (hkr x)
  have bq:∀{x i H2},W ((J.oo x).set kr (R i)) H2->SqL K H2 p xs:=fun {x i H2} w2=>SqL.of ((w2.of (iz x i).symm).cell (p, .lst xs) List.mem_cons_self)
  refine⟨p,rfl,⟨xs,SqL.of dS⟩,λi mm U' H2=>mm=as.length-i/\i<=as.length/\∃x gg,U'=J.ss x/\W ((J.oo x).set kr (R i)) H2/\Xp (hid H' (((p,HO.lst xs)::Cs.flatten)::OO)) (hid H2 ((J.oo x).set kr (R i)))/\(J.sc gg x).p (hid H2 ((J.oo x).set kr (R i)))/\PZ Er (Fd D) (hid H2 ((J.oo x).set kr (R i))) ((forN (as.drop i) gg body).bind f),⟨as.length,rfl,Nat.zero_le _,x0,g0,h2,?_⟩,?_⟩
  ·have pm:((J.oo x0).set kr (R 0)).flatten.Perm (((p,HO.lst xs)::Cs.flatten)::OO).flatten:=by rw[h1, ←e0];exact iz x0 0
   rw[XE pm,List.drop_zero]
   exact⟨w'.of pm,Xp.refl _,h3 _ (S.mono _ _ m' s),PZ.tr (fd.tr D) m' P⟩
  ·rintro i mm U' H2 ⟨rfl,hi,x,gg,rfl,w2,m2,cQ,P2⟩
   by_cases ah:i<as.length
   ·right
    have ha:as[i]?=some as[i]:=by simp[ah]
    obtain⟨y0,c0,jP,jQ,ho0⟩:=P3.get q ha
    have hq:=bq w2
    refine⟨⟨xs,y0,hq,jP⟩,λσ3 H3=>∃ x gg,σ3=J.ss x/\W ((J.oo x).set kr (R (i+1))) H3/\Xp (hid H' (((p,HO.lst xs)::Cs.flatten)::OO)) (hid H3 ((J.oo x).set kr (R (i+1))))/\(J.sc gg x).p (hid H3 ((J.oo x).set kr (R (i+1))))/\PZ Er (Fd D) (hid H3 ((J.oo x).set kr (R (i+1)))) ((forN (as.drop (i+1)) gg body).bind f),λσ3 H3 q=>⟨as.length-(i+1),Nat.sub_lt_sub_left ah (Nat.lt_succ_self i),rfl,ah,q⟩,λy H3 r9=>?_⟩
    obtain⟨e3,hy⟩:=r9
    subst e3
    have hyy:=hy xs hq
    rw[jP] at hyy
    cases hyy
    have hkx2:((J.oo x).set kr (R (i+1)))[kx]?=some []:=by rw[List.getElem?_set_ne aN];exact hkx x
    have gK:i<Cs.length:=(List.getElem?_eq_some_iff.mp jQ).1
    have hc1:Cs[i]=c0:=(List.getElem?_eq_some_iff.mp jQ).2
    have pm:(((J.oo x).set kr (R (i+1))).set kx c0).flatten.Perm ((J.oo x).set kr (R i)).flatten:=by
     refine(PB hkx2).trans (List.Perm.trans ?_ (iz x i).symm)
     rw[List.flatten_cons]
     refine((iz x (i+1)).append_left c0).trans ?_
     show(c0++(((p,HO.lst xs)::(Cs.drop (i+1)).flatten)::J.oo x).flatten).Perm (((p,HO.lst xs)::(Cs.drop i).flatten)::J.oo x).flatten
     rw[List.drop_eq_getElem_cons gK,hc1]
     simp only[List.flatten_cons,List.cons_append,List.append_assoc]
     exact List.perm_middle
    have w3:=w2.of pm
    have eh:=XE (H:=H3) pm
    refine hb (R (i+1)) gg x as[i] y0 c0 H3 _ w3 ⟨by rw[eh];exact cQ,by rw[eh];exact z.mono m2 ho0⟩ ?_
    rw[eh]
    rw[List.drop_eq_getElem_cons ah] at P2
    have P3:PZ Er (Fd D) (hid H3 ((J.oo x).set kr (R i))) ((body gg as[i]).bind λg'=>(forN (as.drop (i+1)) g' body).bind f):=by rw[←XQ];exact P2
    cases eb:body gg as[i] with
    |bad=>rw[eb] at P3;exact P3
    |err x=>rw[eb] at P3;exact P3
    |ok g'=>
     rw[eb] at P3
     exact λx' H4 w4 m4 fJ=>⟨x',g',rfl,w4,m2.trans m4,fJ,PZ.tr (fd.tr D) m4 P3⟩
   ·left
    have e:i=as.length:=Nat.le_antisymm hi (Nat.not_lt.mp ah)
    subst e
    have hs:Xp (hid H2 ((J.oo x).set kr (R as.length))) (hid H2 (J.oo x)):=by
     rw[XE (iz x as.length)]
     exact Zk (Xp.refl _) λb hb=>by rw[XG];exact List.mem_append_right _ hb
    refine⟨⟨xs,bq w2,by rw[ae.1];exact Nat.le_refl _⟩,hr gg x H2 D ((w2.of (iz x as.length).symm).tail) ((J.sc gg x).mono _ _ hs cQ) ?_⟩
    rw[List.drop_length] at P2
    exact PZ.tr (fd.tr D) hs P2
end
section
end
def ltG [DecidableEq M](lt:M->M->Bool):List M->List M->Bool
 |_,[]=>false
 | [],_::_=>true
 |a::as,b::bs=>if a=b then ltG lt as bs else lt a b
def jo (A:Around)(s:Shared)(v u:Value)(b:Bool):Prop:=
 ∀(prog:Program) (w:World) (E:Value->Shared->Prop) (Q:Value->Shared->Prop),Q (.bool b) s->wpAny (model prog w) A (richCompare .Lt v u) Q E s
structure LtOk {M:Type}(r:Enc M)(lt:M->M->Bool)(d:Nat):Prop where
 at':∀{X:Cx}{aa:List (Addr×Obj)}{U:St}{H:Hp}{s:Shared}{x y:V}{v u:Value}{a b:M}{A:Around},Inv X aa U H s->XW x v->XW y u->r X.K H x a->r X.K H y b->A.units+d<cLine->jo A s v u (lt a b)
def ltI (a b:Int):Bool:=decide (a<b)
def lt_int:LtOk Xf ltI 0:=⟨fun {X aa U H s x y v u a b A} I rx ry h1 h2 _ prog w E Q q=>by
 have e1:x=V.int a:=h1
 have e2:y=V.int b:=h2
 subst e1 e2
 obtain⟨t,rfl⟩:=rx
 obtain⟨t',rfl⟩:=ry
 exact CmpOf.ints_lt (P:=λj v=>∃ t,v= .int (if j=0 then a else b) t) (λj=>if j=0 then a else b) (λ_ _ h=>h) 0 1 _ _ _ _ _ ⟨t,rfl⟩ ⟨t',rfl⟩ q⟩
section
variable [DecidableEq M]{lt:M->M->Bool}{d:Nat}
def Fm:ltG lt as []=false:=by cases as<;> rfl
def jB (E:EqOk r d)(Lqz:LtOk r lt d)(I:Inv X aa U H s){m:Nat}(d1:o1.data= .seq i1.toArray n)(d2:o2.data= .seq i2.toArray m)
  (v1:XX xs i1)(v2:XX ys i2)(p1:Paired (r X.K H) xs as)(p2:Paired (r X.K H) ys bs)(g1:s.heap.get? l=some o1)(g2:s.heap.get? b=some o2)(hu:A.units+(d+1)<cLine):
  ∀(k i:Nat),as.length-i=k->i<=as.length->i<=bs.length->R (.ok (.ret (.bool (ltG lt (as.drop i) (bs.drop i))))) s->
  codeAny (model prog w) A (.builtin "list.__eq__.loop" ⟨[.ref l, .ref b,rawInt i,rawInt 0],[]⟩) R s:=by
 have n1:as.length=i1.length:=by rw[←Paired.len p1];exact v1.length
 have n2:bs.length=i2.length:=by rw[←Paired.len p2];exact v2.length
 intro k
 induction k with
 |zero=>
  intro i hk jR fv q
  refine codeAny_builtin Ks ?_
  rw[Around.under_plainId QO _]
  show wpAny _ A.in1 (Builtin.List.listItems (.ref l) >>= _) _ _ s
  refine wpAny_bind (wpAny_listItems g1 d1 (wpAny_bind (wpAny_listItems g2 d2 ?_)))
  rw[show((i:Nat):Int).toNat=i from rfl,show i1.toArray[i]?=none by simp;omega]
  refine wpAny_bind (wpAny_listItems g1 d1 (wpAny_bind (wpAny_listItems g2 d2 (wpAny_pure ?_))))
  have e:ltG lt (as.drop i) (bs.drop i)=decide (i1.toArray.size<i2.toArray.size):=by
   rw[List.drop_eq_nil_of_le (show as.length<=i by omega)]
   cases hd:bs.drop i with
   |nil=>
    have:=congrArg List.length hd
    simp at this
    rw[Fm,decide_eq_false (by simp;omega)]
   |cons x t=>
    have:=congrArg List.length hd
    simp at this
    exact(decide_eq_true (show i1.toArray.size<i2.toArray.size by simp;omega)).symm
  rw[e] at q
  exact q
 |succ k ih=>
  intro i hk jR fv q
  have lt1:i<as.length:=by omega
  refine codeAny_builtin Ks ?_
  rw[Around.under_plainId QO _]
  show wpAny _ A.in1 (Builtin.List.listItems (.ref l) >>= _) _ _ s
  refine wpAny_bind (wpAny_listItems g1 d1 (wpAny_bind (wpAny_listItems g2 d2 ?_)))
  rw[show((i:Nat):Int).toNat=i from rfl]
  have f1:i1.toArray[i]?=some i1[i]:=by simp
  obtain⟨x,ex,rx⟩:=Paired.getR (i:=i) (b:=i1[i]) v1 (by simp)
  obtain⟨a,ea,ra⟩:=Paired.getL p1 ex
  have dx:as.drop i=a::as.drop (i+1):=by rw[List.drop_eq_getElem_cons lt1, ←(List.getElem?_eq_some_iff.mp ea).2]
  rw[f1]
  by_cases lt2:i<bs.length
  ·have f2:i2.toArray[i]?=some i2[i]:=by simp
   obtain⟨y,ey,ry⟩:=Paired.getR (i:=i) (b:=i2[i]) v2 (by simp)
   obtain⟨c,ec,rc⟩:=Paired.getL p2 ey
   have dy:bs.drop i=c::bs.drop (i+1):=by rw[List.drop_eq_getElem_cons lt2, ←(List.getElem?_eq_some_iff.mp ec).2]
   rw[dx,dy,ltG] at q
   rw[f2]
   show wpAny _ _ (eqBool i1[i] i2[i] >>= _) _ _ _
   refine wpAny_bind (E.eq (A:=A.in1) I rx ry ra rc (by rw[Zu];omega) _ _ _ _ ?_)
   by_cases hac:a=c
   ·rw[if_pos hac] at q
    rw[if_pos (by simpa using hac)]
    exact wpAny_pure ⟨plainId_quiet QO _,ih (i+1) (by omega) (by omega) (by omega) q⟩
   ·rw[if_neg hac] at q
    rw[if_neg (by simpa using hac)]
    refine wpAny_bind (wpAny_listItems g1 d1 (wpAny_bind (wpAny_listItems g2 d2 ?_)))
    rw[f1,f2]
    show wpAny _ _ (richCompare .Lt i1[i] i2[i] >>= _) _ _ _
    exact wpAny_bind (Lqz.at' (A:=A.in1) I rx ry ra rc (by rw[Zu];omega) _ _ _ _ (wpAny_pure q))
  ·rw[show i2.toArray[i]?=none by simp;omega]
   refine wpAny_bind (wpAny_listItems g1 d1 (wpAny_bind (wpAny_listItems g2 d2 (wpAny_pure ?_))))
   rw[List.drop_eq_nil_of_le (show bs.length<=i by omega),Fm, ←decide_eq_false (show ¬i1.toArray.size<i2.toArray.size by simp;omega)] at q
   exact q
theorem Mc (E:EqOk r d)(Lqz:LtOk r lt d)(I:Inv X aa U H s){Er:Value->Shared->Prop}{x y:V}(rx:XW x v)(ry:XW y u)(h1:rL r X.K H x as)(h2:rL r X.K H y bs)(hu:A.units+(d+1)<cLine)(q:Q (.bool (ltG lt as bs)) s):
  ∃l b o1 o2,v= .ref l/\u= .ref b/\s.heap.get? l=some o1/\o1.cls= .type "list" /\s.heap.get? b=some o2/\o2.cls= .type "list" /\wpAny (model prog w) A (call (.builtin "list.__lt__") [.ref l, .ref b]) Q Er s:=by
 obtain⟨l,xs,rfl,q1,p1⟩:=h1
 obtain⟨b,ys,rfl,q2,p2⟩:=h2
 cases rx
 cases ry
 obtain⟨i1,v1,⟨o1,n1,g1,c1,_,d1⟩,_⟩:=I.list q1
 obtain⟨i2,v2,⟨o2,n2,g2,c2,_,d2⟩,_⟩:=I.list q2
 have me:Meets (Builtin.«list.__lt__» ⟨[.ref l, .ref b],[]⟩) λA' R s'=>s'=s/\A'.units+(d+1)<cLine/\R (.ok (.ret (.bool (ltG lt as bs)))) s':=by
  rintro prog w A' R s' ⟨rfl,eB,q'⟩
  show wpAny _ _ (slotArgs "__lt__" 1 ⟨[.ref l, .ref b],[]⟩ >>= _) _ _ _
  refine wpAny_bind (wpAny_pure (wpAny_bind (wpAny_isInstance ⟨_,g2,c2⟩ (by first |rfl |kernel_rfl) ?_)))
  rw[if_neg (by decide)]
  show wpAny _ _ (if(CmpOp.Lt==CmpOp.Eq || CmpOp.Lt==CmpOp.NotEq)=true then _ else _) _ _ _
  rw[if_neg (by decide)]
  exact wpAny_pure ⟨plainId_quiet QO _,jB E Lqz I d1 d2 v1 v2 p1 p2 g1 g2 eB as.length 0 rfl (Nat.zero_le _) (Nat.zero_le _) (by simpa using q')⟩
 exact⟨l,b,o1,o2,rfl,rfl,g1,c1,g2,c2,call_meets F.slot_list_lt ⟨_,g1,c1⟩ F.entry_list_lt (F.args_list_lt_2 _ _) me ⟨rfl,hu,q⟩⟩
def Oq (E:EqOk r d)(Lqz:LtOk r lt d):LtOk (rL r) (ltG lt) (d+1):=⟨fun {X aa U H s x y v u as bs A} I rx ry h1 h2 hu prog w Er Q q=>by
 obtain⟨l,b,o1,o2,rfl,rfl,g1,c1,g2,c2,h⟩:=Mc E Lqz I (prog:=prog) (w:=w) (A:=A) (Er:=Er) rx ry h1 h2 hu (Q:=λv s'=>(∃k,v= .bool k)/\Q v s') ⟨⟨_,rfl⟩,q⟩
 exact RM g1 c1 g2 c2 (by omega) h⟩
def LtOk.imp {q:Enc M}(Lqz:LtOk r lt d)(h:∀{K:W.Frag}{H:Hp}{v:V}{a:M},q K H v a->r K H v a):LtOk q lt d:=⟨λI rx ry h1 h2 hu=>Lqz.at' I rx ry (h h1) (h h2) hu⟩
def WU {q:Enc M}(h:rV q K H v as):rL q K H v as:=by
 obtain⟨a,xs,e,q,p⟩:=h
 exact⟨a,xs,e,SqL.of q,p⟩
end
section
def kp (kf:Value->M)(d:M)(xs:Array Keyed)(i:Nat):M:=(xs[i]?.map λp=>kf p.1).getD d
def Ob {d:M}{xs:Array Keyed}(h:xs[i]?=ys[j]?):kp kf d xs i=kp kf d ys j:=by unfold kp;rw[h]
structure Ord (lt:M->M->Bool):Prop where
 irr:∀a,lt a a=false
 tr:∀{a b c},lt a b=true->lt b c=true->lt a c=true
structure SB (κ:SortKind)(a0:Array Keyed)(st:SortSt):Prop where
 perm:(arrOf st).Perm a0
 kind:kindOf st=κ
 failed:failedOf st=none
 pend:pendingOf st= #[]
def SB.size {κ:SortKind}{a0:Array Keyed}{st:SortSt}(h:SB κ a0 st):(arrOf st).size=a0.size:=h.perm.size_eq
def SB.setArr {κ:SortKind}{a0:Array Keyed}{st:SortSt}(h:SB κ a0 st){xs:Array Keyed}(hp:xs.Perm (arrOf st)):SB κ a0 (setArr st xs):=⟨hp.trans h.perm,h.kind,h.failed,h.pend⟩
structure Asks (prog:Program)(w:World)(A:Around)(E:Value->Shared->Prop)(s:Shared)(κ:SortKind)(lt:M->M->Bool)(kf:Value->M)(d:M)(a0:Array Keyed):Prop extends Ord lt where
 ask:∀{st:SortSt}{i j:Nat}{Q:Option Bool->SortSt->Prop},SB κ a0 st->i<a0.size->j<a0.size->Q (some (lt (kp kf d (arrOf st) i) (kp kf d (arrOf st) j))) st->wpS (model prog w) A E s (ltAt' i j) Q st
 two:∀{st:SortSt}{i j:Nat},SB κ a0 st->i<a0.size->j<a0.size->i≠j->lt (kp kf d (arrOf st) i) (kp kf d (arrOf st) j)=true∨lt (kp kf d (arrOf st) j) (kp kf d (arrOf st) i)=true
variable {κ:SortKind}{lt:M->M->Bool}{kf:Value->M}{d:M}{a0:Array Keyed}
def Ris (lt:M->M->Bool)(k:Nat->M)(n:Nat):Prop:=∀ i j,i<j->j<n->lt (k i) (k j)=true
def Fal (lt:M->M->Bool)(k:Nat->M)(n:Nat):Prop:=∀ i j,i<j->j<n->lt (k j) (k i)=true
def Ris.more (O:Ord lt){k:Nat->M}(h:Ris lt k n)(q:0<n->lt (k (n-1)) (k n)=true):Ris lt k (n+1):=λi j cT hj=>by
 rcases Nat.lt_or_ge j n with z |z
 ·exact h i j cT z
 ·have e:j=n:=by omega
  subst e
  rcases Nat.lt_or_ge i (j-1) with y |y
  ·exact O.tr (h i (j-1) y (by omega)) (q (by omega))
  ·rw[show i=j-1 by omega];exact q (by omega)
def Fal.more (O:Ord lt){k:Nat->M}(h:Fal lt k n)(q:0<n->lt (k n) (k (n-1))=true):Fal lt k (n+1):=λi j cT hj=>by
 rcases Nat.lt_or_ge j n with z |z
 ·exact h i j cT z
 ·have e:j=n:=by omega
  subst e
  rcases Nat.lt_or_ge i (j-1) with y |y
  ·exact O.tr (q (by omega)) (h i (j-1) y (by omega))
  ·rw[show i=j-1 by omega];exact q (by omega)
def Asks.other (Lqz:Asks prog w A E s κ lt kf d a0){st:SortSt}{i j:Nat}(Bqz:SB κ a0 st)(hi:i<a0.size)(hj:j<a0.size)(n:i≠j)(h:lt (kp kf d (arrOf st) i) (kp kf d (arrOf st) j)=false):lt (kp kf d (arrOf st) j) (kp kf d (arrOf st) i)=true:=(Lqz.two Bqz hi hj n).resolve_left (by rw[h];decide)
def PU (Lqz:Asks prog w A E s κ lt kf d a0){st:SortSt}{a m:Nat}{Q:AscSt->SortSt->Prop}(Bqz:SB κ a0 st)(hm:m<=a0.size)(h1:1<=a)(ham:a<=m)(R:Ris lt (kp kf d (arrOf st)) a)
  (q:∀n,a<=n->n<=m->Ris lt (kp kf d (arrOf st)) n->(n≠m->lt (kp kf d (arrOf st) n) (kp kf d (arrOf st) (n-1))=true)->Q (none,n) st):wpS (model prog w) A E s (ascLoop a m) Q st:=by
 unfold ascLoop
 refine wpS_forRange (I:=λx c t=>t=st/\c=(none,x)/\Ris lt (kp kf d (arrOf st)) x) ?_ ?_ ⟨rfl,rfl,R⟩
 ·intro x c t hx hxm hI
  obtain⟨rfl,rfl,R'⟩:=hI
  refine wpS_bind (Lqz.ask Bqz (by omega) (by omega) ?_)
  cases e:lt (kp kf d (arrOf t) x) (kp kf d (arrOf t) (x-1)) with
  |true=>exact wpS_pure (q x hx (by omega) R' λ_=>e)
  |false=>exact wpS_pure ⟨rfl,rfl,R'.more Lqz.toOrd λ_=>Lqz.other Bqz (by omega) (by omega) (by omega) e⟩
 ·intro c t hI
  obtain⟨rfl,rfl,R'⟩:=hI
  have e:max a m=m:=by omega
  rw[e] at R'⊢
  exact q m ham (Nat.le_refl _) R' λz=>absurd rfl z
def Oa (Lqz:Asks prog w A E s κ lt kf d a0){st:SortSt}{a m:Nat}{Q:DescSt->SortSt->Prop}(Bqz:SB κ a0 st)(hm:m<=a0.size)(h1:1<=a)(ham:a<=m)(R:Fal lt (kp kf d (arrOf st)) a)
  (q:∀n,a<=n->n<=m->Fal lt (kp kf d (arrOf st)) n->Q (none,n,0) st):wpS (model prog w) A E s (descLoop a m) Q st:=by
 unfold descLoop
 refine wpS_forRange (I:=λx c t=>t=st/\c=(none,x,0)/\Fal lt (kp kf d (arrOf st)) x) ?_ ?_ ⟨rfl,rfl,R⟩
 ·intro x c t hx hxm hI
  obtain⟨rfl,rfl,R'⟩:=hI
  show wpS _ _ _ _ (ltAt' x (x-1) >>= _) _ _
  refine wpS_bind (Lqz.ask Bqz (by omega) (by omega) ?_)
  cases e:lt (kp kf d (arrOf t) x) (kp kf d (arrOf t) (x-1)) with
  |true=>exact wpS_pure ⟨rfl,rfl,R'.more Lqz.toOrd λ_=>e⟩
  |false=>
   show wpS _ _ _ _ (ltAt' (x-1) x >>= _) _ _
   refine wpS_bind (Lqz.ask Bqz (by omega) (by omega) ?_)
   rw[Lqz.other Bqz (by omega) (by omega) (by omega) e]
   exact wpS_pure (q x hx (by omega) R')
 ·intro c t hI
  obtain⟨rfl,rfl,R'⟩:=hI
  have e:max a m=m:=by omega
  rw[e] at R'⊢
  exact q m ham (Nat.le_refl _) R'
def IR {xs:Array Keyed}(hn:n<=xs.size)(hi:i<n):kp kf d (mirror xs 0 n ((n-0)/2)) i=kp kf d xs (n-1-i):=by
 have e:=getElem?_mirror_all (i:=0) hn i
 rw[if_pos ⟨Nat.zero_le _,hi⟩,Nat.zero_add] at e
 exact Ob e
def An (Lqz:Asks prog w A E s κ lt kf d a0){st:SortSt}{m:Nat}{Q:Option Nat->SortSt->Prop}(Bqz:SB κ a0 st)(hm:m<=a0.size)(h1:1<=m)
  (q:∀n t,SB κ a0 t->n<=m->Ris lt (kp kf d (arrOf t)) n->Q (some n) t):wpS (model prog w) A E s (countRun' 0 m) Q st:=by
 rw[countRun0_eq]
 refine wpS_bind (PU Lqz Bqz hm (Nat.le_refl 1) h1 (λi j cT hj=>by omega) λn hn hnm R z=>?_)
 show wpS _ _ _ _ (if(n==m)=true then _ else _) _ _
 by_cases e:n=m
 ·subst e
  rw[if_pos (beq_self_eq_true n)]
  exact wpS_pure (q n st Bqz (Nat.le_refl _) R)
 ·rw[if_neg (by rw[beq_eq_false_iff_ne.mpr e];decide)]
  have z:=z e
  by_cases g:n > 1
  ·show wpS _ _ _ _ (if n > 1 then _ else _) _ _
   rw[if_pos g]
   show wpS _ _ _ _ (ltAt' 0 (n-1) >>= _) _ _
   refine wpS_bind (Lqz.ask Bqz (by omega) (by omega) ?_)
   rw[show lt (kp kf d (arrOf st) 0) (kp kf d (arrOf st) (n-1))=true from R 0 (n-1) (by omega) (by omega)]
   exact wpS_pure (q n st Bqz hnm R)
  ·have e1:n=1:=by omega
   subst e1
   show wpS _ _ _ _ (descPart 1 m) _ _
   unfold descPart
   refine wpS_bind (wpS_lift (wpAny_rule ⟨rfl,?_⟩))
   have F2:Fal lt (kp kf d (arrOf st)) 2:=Fal.more Lqz.toOrd (n:=1) (λi j cT hj=>by omega) λ_=>z
   refine wpS_bind (Oa Lqz Bqz hm (by omega) (by omega) F2 λn hn2 hnm2 F=>?_)
   show wpS _ _ _ _ (tail3 n m) _ _
   unfold tail3
   refine wpS_bind (wpS_reverse ?_)
   have B2:SB κ a0 (setArr st (mirror (arrOf st) 0 n ((n-0)/2))):=Bqz.setArr (mirror_perm _ _ _ _)
   have hsz:n<=(arrOf st).size:=by rw[Bqz.size];omega
   refine wpS_bind (PU Lqz B2 hm (by omega) hnm2 (λi j cT hj=>?_) λk _ hk R2 _=>wpS_pure (q k _ B2 hk R2))
   show lt (kp kf d (mirror (arrOf st) 0 n ((n-0)/2)) i) (kp kf d (mirror (arrOf st) 0 n ((n-0)/2)) j)=true
   rw[IR hsz (by omega),IR hsz hj]
   exact F (n-1-j) (n-1-i) (by omega) (by omega)
def T5 (O:Ord lt){xs:Array Keyed}(hk:k<xs.size)(hl:l<=k)(R:Ris lt (kp kf d xs) k)(lo:∀i,i<l->lt (kp kf d xs i) (kp kf d xs k)=true)(hi:∀i,l<=i->i<k->lt (kp kf d xs k) (kp kf d xs i)=true):Ris lt (kp kf d (bubble xs k (k-l))) (k+1):=by
 have g:∀p,kp kf d (bubble xs k (k-l)) p=if p=l then kp kf d xs k else if l<p/\p<=k then kp kf d xs (p-1) else kp kf d xs p:=λp=>by
  have e:=getElem?_bubble hk (k-l) (by omega) p
  rw[show k-(k-l)=l by omega] at e
  by_cases h1:p=l
  ·rw[if_pos h1] at e⊢;exact Ob e
  ·rw[if_neg h1] at e⊢
   by_cases h2:l<p/\p<=k
   ·rw[if_pos h2] at e⊢;exact Ob e
   ·rw[if_neg h2] at e⊢;exact Ob e
 intro i j cT hj
 rw[g,g]
 rcases Nat.lt_trichotomy i l with cY |cY |cY
 ·rw[if_neg (by omega),if_neg (by omega)]
  rcases Nat.lt_trichotomy j l with fL |fL |fL
  ·rw[if_neg (by omega),if_neg (by omega)];exact R i j cT (by omega)
  ·rw[if_pos fL];exact lo i cY
  ·rw[if_neg (by omega),if_pos (by omega)];exact R i (j-1) (by omega) (by omega)
 ·rw[if_pos cY,if_neg (by omega),if_pos (by omega)];exact hi (j-1) (by omega) (by omega)
 ·rw[if_neg (by omega),if_pos (by omega),if_neg (by omega),if_pos (by omega)];exact R (i-1) (j-1) (by omega) (by omega)
def WT (Lqz:Asks prog w A E s κ lt kf d a0){st:SortSt}{n ok:Nat}{Q:Bool->SortSt->Prop}(Bqz:SB κ a0 st)(hn:n<=a0.size)(hok:ok<=n)(R:Ris lt (kp kf d (arrOf st)) ok)
  (q:∀t,SB κ a0 t->Ris lt (kp kf d (arrOf t)) n->Q true t):wpS (model prog w) A E s (binarySort' 0 n ok) Q st:=by
 rw[binarySort'_eq]
 simp only[Nat.zero_add]
 refine wpS_bind (wpS_mono (wpS_forRange (I:=λk c t=>c=(none,())/\SB κ a0 t/\Ris lt (kp kf d (arrOf t)) (if k<=n then k else n)) (Q:=λc t=>c=(none,())/\SB κ a0 t/\Ris lt (kp kf d (arrOf t)) n) ?_ ?_ ?_) ?_)
 ·intro k c t hk gj hI
  obtain⟨rfl,Bt,Rt⟩:=hI
  rw[if_pos (Nat.le_of_lt gj)] at Rt
  refine wpS_bind (wpS_mono (wpS_forRange (I:=λx c u=>u=t/\∃l r,c=(none,l,r)/\l<=r/\r<=k/\r+x<=k+l/\(∀i,i<l->lt (kp kf d (arrOf t) i) (kp kf d (arrOf t) k)=true)/\(∀i,r<=i->i<k->lt (kp kf d (arrOf t) k) (kp kf d (arrOf t) i)=true))
   (Q:=λc u=>u=t/\∃l,c=(none,l,l)/\l<=k/\(∀i,i<l->lt (kp kf d (arrOf t) i) (kp kf d (arrOf t) k)=true)/\(∀i,l<=i->i<k->lt (kp kf d (arrOf t) k) (kp kf d (arrOf t) i)=true)) ?_ ?_ ?_) ?_)
  ·intro x c u _ hx hI
   obtain⟨rfl,l,r,rfl,hlr,hrk,hm,lo,hi⟩:=hI
   by_cases hge:l≥r
   ·have e:r=l:=by omega
    subst e
    show wpS _ _ _ _ (if r≥r then _ else _) _ _
    rw[if_pos (Nat.le_refl _)]
    exact wpS_pure ⟨rfl,r,rfl,hrk,lo,hi⟩
   ·show wpS _ _ _ _ (if l≥r then _ else _) _ _
    rw[if_neg hge]
    show wpS _ _ _ _ (ltAt' k ((l+r)/2) >>= _) _ _
    refine wpS_bind (Lqz.ask Bt (by omega) (by omega) ?_)
    cases e:lt (kp kf d (arrOf u) k) (kp kf d (arrOf u) ((l+r)/2)) with
    |true=>
     refine wpS_pure ⟨rfl,l,(l+r)/2,rfl,by omega,by omega,by omega,lo,λi h1 h2=>?_⟩
     rcases Nat.eq_or_lt_of_le h1 with y |y
     ·rw[←y];exact e
     ·exact Lqz.tr e (Rt _ _ y h2)
    |false=>
     have e':=Lqz.other Bt (by omega) (by omega) (by omega) e
     refine wpS_pure ⟨rfl,(l+r)/2+1,r,rfl,by omega,by omega,by omega,λi h1=>?_,hi⟩
     rcases Nat.eq_or_lt_of_le (Nat.le_of_lt_succ h1) with y |y
     ·rw[y];exact e'
     ·exact Lqz.tr (Rt _ _ y (by omega)) e'
  ·intro c u hI
   obtain⟨rfl,l,r,rfl,hlr,hrk,hm,lo,hi⟩:=hI
   have e:r=l:=by omega
   subst e
   exact⟨rfl,r,rfl,hrk,lo,hi⟩
  ·exact⟨rfl,0,k,rfl,by omega,by omega,by omega,λi hi=>by omega,λi h1 h2=>by omega⟩
  ·intro c u hI
   obtain⟨rfl,l,rfl,hlk,lo,hi⟩:=hI
   show wpS _ _ _ _ (moveDown' k l >>= _) _ _
   rw[moveDown'_eq]
   refine wpS_bind (wpS_modify (wpS_pure ⟨rfl,Bt.setArr (bubble_perm _ _ _),?_⟩))
   rw[if_pos (show k+1<=n from gj)]
   exact T5 Lqz.toOrd (by rw[Bt.size];omega) hlk Rt lo hi
 ·intro c t hI
  obtain⟨hc,Bt,Rt⟩:=hI
  refine⟨hc,Bt,?_⟩
  have e:(if max (max ok 1) n<=n then max (max ok 1) n else n)=n:=by split<;> omega
  rwa [e] at Rt
 ·refine⟨rfl,Bqz,λi j cT hj=>?_⟩
  refine R i j cT ?_
  split at hj<;> omega
 ·intro c t hI
  obtain⟨rfl,Bt,Rt⟩:=hI
  exact wpS_pure (q t Bt Rt)
def So (Lqz:Asks prog w A E s κ lt kf d a0){st:SortSt}{Q:Unit->SortSt->Prop}(Bqz:SB κ a0 st)(h2:2<=a0.size)(fu:a0.size<64)
  (q:∀t,(arrOf t).Perm a0->failedOf t=none->Ris lt (kp kf d (arrOf t)) a0.size->Q () t):wpS (model prog w) A E s sortRuns' Q st:=by
 rw[sortRuns'_eq]
 refine wpS_bind (wpS_get ?_)
 have hmr:minRun' a0.size a0.size 0=a0.size:=by
  cases e:a0.size with
  |zero=>omega
  |succ f=>rw[minRun'_succ,if_pos (by omega)]
 have hs:=Bqz.size
 show wpS _ _ _ _ (forIn [0:(arrOf st).size] _ _ >>= _) _ _
 rw[hs,hmr]
 let Dn:SortSt->Prop:=λt=>(arrOf t).Perm a0/\failedOf t=none/\pendingOf t= #[(0,a0.size,0)]/\Ris lt (kp kf d (arrOf t)) a0.size
 have fin:∀t,SB κ a0 t->Ris lt (kp kf d (arrOf t)) a0.size->Dn (setPending t ((pendingOf t).push (0,a0.size,0))):=λt Bt Rt=>⟨Bt.perm,Bt.failed,by show(pendingOf t).push _=_;rw[Bt.pend];rfl,Rt⟩
 refine wpS_bind (wpS_mono (wpS_forRange (I:=λx c t=>if x=0 then c=(none,0)/\SB κ a0 t else c=(none,a0.size)/\Dn t) (Q:=λc t=>c=(none,a0.size)/\Dn t) ?_ ?_ ?_) ?_)
 ·intro x c t _ hx hI
  by_cases hx0:x=0
  ·rw[if_pos hx0] at hI
   obtain⟨rfl,Bt⟩:=hI
   show wpS _ _ _ _ (if 0≥a0.size then _ else _) _ _
   rw[if_neg (by omega)]
   refine wpS_bind (An Lqz Bt (by omega) (by omega) λm u Bu hm Ru=>?_)
   have hb:∀v,SB κ a0 v->(pendingOf v).back?=none:=λv Bv=>by rw[Bv.pend];rfl
   by_cases ah:m<a0.size
   ·show wpS _ _ _ _ (if m<a0.size then _ else _) _ _
    rw[if_pos ah]
    refine wpS_bind (wpS_lift (wpAny_rule ⟨rfl,?_⟩))
    rw[Nat.sub_zero,Nat.min_self]
    refine wpS_bind (WT Lqz Bu (Nat.le_refl _) hm Ru λv Bv Rv=>?_)
    show wpS _ _ _ _ (get >>= _) _ _
    refine wpS_bind (wpS_get ?_)
    rw[hb v Bv]
    refine wpS_bind (wpS_modify (wpS_pure ?_))
    show if x+1=0 then _ else _
    rw[if_neg (by omega)]
    exact⟨by rw[Nat.zero_add],fin v Bv Rv⟩
   ·have e:m=a0.size:=by omega
    subst e
    show wpS _ _ _ _ (if a0.size<a0.size then _ else _) _ _
    rw[if_neg ah]
    refine wpS_bind (wpS_get ?_)
    rw[hb u Bu]
    refine wpS_bind (wpS_modify (wpS_pure ?_))
    show if x+1=0 then _ else _
    rw[if_neg (by omega)]
    exact⟨by rw[Nat.zero_add],fin u Bu Ru⟩
  ·rw[if_neg hx0] at hI
   obtain⟨rfl,D⟩:=hI
   show wpS _ _ _ _ (if a0.size≥a0.size then _ else _) _ _
   rw[if_pos (Nat.le_refl _)]
   exact wpS_pure ⟨rfl,D⟩
 ·intro c t hI
  rw[if_neg (by omega)] at hI
  exact hI
 ·rw[if_pos rfl];exact⟨rfl,Bqz⟩
 ·intro c t hI
  obtain⟨rfl,D1,D2,D3,D4⟩:=hI
  refine wpS_bind (wpS_mono (wpS_forRange (I:=λ_ c u=>u=t/\c=(none,())) (Q:=λc u=>u=t/\c=(none,())) ?_ (λ_ _ h=>h) ⟨rfl,rfl⟩) ?_)
  ·intro x c u _ _ hI
   obtain⟨rfl,rfl⟩:=hI
   refine wpS_bind (wpS_get ?_)
   rw[if_pos (by rw[D3];exact Nat.le_refl 1)]
   exact wpS_pure ⟨rfl,rfl⟩
  ·intro c u hI
   obtain⟨rfl,rfl⟩:=hI
   exact wpS_pure (q _ D1 D2 D4)
end
section
def CQ {f:M->L}{k:List L}(h:l'.Perm k):∀{l:List M},k=l.map f->∃m:List M,m.Perm l/\m.map f=l':=by
 induction h with
 |nil=>intro l e;cases l with
  |nil=>exact⟨[], .nil,rfl⟩
  |cons a l=>cases e
 |cons x _ ih=>intro l e;cases l with
  |nil=>cases e
  |cons a l=>
   injection e with e1 e2
   obtain⟨m,hm,em⟩:=ih e2
   exact⟨a::m,hm.cons a,by rw[List.map_cons,em,e1]⟩
 |swap x y t=>intro l e;cases l with
  |nil=>cases e
  |cons a l=>cases l with
   |nil=>cases e
   |cons b l=>
    injection e with e1 e2
    injection e2 with e2 e3
    exact⟨b::a::l, .swap ..,by rw[List.map_cons,List.map_cons,e1,e2,e3]⟩
 |trans _ _ ih1 ih2=>
  intro l e
  obtain⟨m2,h2,e2⟩:=ih2 e
  obtain⟨m1,h1,e1⟩:=ih1 e2.symm
  exact⟨m1,h1.trans h2,e1⟩
structure OrdT (lt:M->M->Bool):Prop extends Ord lt where
 tot:∀{a b},a≠b->lt a b=true∨lt b a=true
def OF:OrdT ltI:=⟨⟨λa=>by simp[ltI],λh1 h2=>by simp only[ltI,decide_eq_true_eq] at*;omega⟩,λh=>by simp only[ltI,decide_eq_true_eq];omega⟩
section
variable [DecidableEq M]{lt:M->M->Bool}
def Pd (O:OrdT lt):∀{a b c:List M},ltG lt a b=true->ltG lt b c=true->ltG lt a c=true
 |_,[],_,h,_=>by rw[Fm] at h;cases h
 |_,_::_,[],_,h=>by rw[Fm] at h;cases h
 | [],_::_,_::_,_,_=>rfl
 |a::as,b::bs,c::cs,h1,h2=>by
  rw[ltG] at h1 h2⊢
  by_cases e1:a=b
  ·rw[if_pos e1] at h1
   by_cases e2:b=c
   ·rw[if_pos e2] at h2
    rw[if_pos (e1.trans e2)]
    exact Pd O h1 h2
   ·rw[if_neg e2] at h2
    rw[if_neg (by rw[e1];exact e2),e1];exact h2
  ·rw[if_neg e1] at h1
   by_cases e2:b=c
   ·rw[if_neg (by rw[←e2];exact e1), ←e2];exact h1
   ·rw[if_neg e2] at h2
    have h3:=O.tr h1 h2
    rw[if_neg (λe=>by rw[e,O.irr] at h3;cases h3)]
    exact h3
def MP:∀(a:List M),ltG lt a a=false
 | []=>rfl
 |a::as=>by rw[ltG,if_pos rfl];exact MP as
def IN (O:OrdT lt):∀{a b:List M},a≠b->ltG lt a b=true∨ltG lt b a=true
 | [],[],h=>absurd rfl h
 | [],_::_,_=>.inl rfl
 |_::_,[],_=>.inr rfl
 |a::as,b::bs,h=>by
  rw[ltG,ltG]
  by_cases e:a=b
  ·subst e
   rw[if_pos rfl,if_pos rfl]
   exact IN O λz=>h (by rw[z])
  ·rw[if_neg e,if_neg (Ne.symm e)];exact O.tot e
def DR (O:OrdT lt):OrdT (ltG lt):=⟨⟨MP,Pd O⟩,IN O⟩
end
def TU (lt:M->M->Bool)(a:M):List M->List M
 | []=>[a]
 |b::l=>if lt a b=true then a::b::l else b::TU lt a l
def Zw (lt:M->M->Bool)(l:List M):List M:=l.foldr (TU lt) []
def KW (lt:M->M->Bool)(a:M):∀l,(TU lt a l).Perm (a::l)
 | []=>.refl _
 |b::l=>by
  rw[TU]
  split
  ·exact .refl _
  ·exact((KW lt a l).cons b).trans (.swap ..)
def YE (lt:M->M->Bool):∀l:List M,(Zw lt l).Perm l
 | []=>.refl _
 |a::l=>(KW lt a _).trans ((YE lt l).cons a)
def DU (O:OrdT lt){a:M}:∀{l:List M},(∀b∈l,a≠b)->l.Pairwise (λx y=>lt x y=true)->(TU lt a l).Pairwise λx y=>lt x y=true
 | [],_,_=>List.pairwise_singleton ..
 |b::l,hn,h=>by
  rw[List.pairwise_cons] at h
  rw[TU]
  split
  ·rename_i hab
   refine List.pairwise_cons.mpr ⟨λc hc=>?_,List.pairwise_cons.mpr h⟩
   rcases List.mem_cons.mp hc with z |z
   ·rw[z];exact hab
   ·exact O.tr hab (h.1 c z)
  ·rename_i hab
   refine List.pairwise_cons.mpr ⟨λc hc=>?_,DU O (λc hc=>hn c (List.mem_cons_of_mem _ hc)) h.2⟩
   rcases List.mem_cons.mp ((KW lt a l).mem_iff.mp hc) with z |z
   ·rw[z];exact(O.tot (hn b List.mem_cons_self)).resolve_left hab
   ·exact h.1 c z
def V1 (O:OrdT lt):∀{l:List M},l.Nodup->(Zw lt l).Pairwise λx y=>lt x y=true
 | [],_=>.nil
 |a::l,h=>by
  rw[List.nodup_cons] at h
  exact DU O (λb hb e=>h.1 ((YE lt l).mem_iff.mp (e▸hb))) (V1 O h.2)
def GO (O:OrdT lt){a b:List M}(hn:b.Nodup)(h:a.Perm b)(r:a.Pairwise λx y=>lt x y=true):a=Zw lt b:=
 List.Perm.eq_of_pairwise (le:=λx y=>lt x y=true) (λx y _ _ h1 h2=>by have:=O.tr h1 h2;rw[O.irr] at this;cases this) r (V1 O hn) (h.trans (YE lt b).symm)
end
section
def KP {f:Value->Sem L}:∀{vs:List Value}{Q:List L->Shared->Prop},(∀v∈vs,∀Q:L->Shared->Prop,Q c s->wpAny (model prog w) A (f v) Q E s)->Q (vs.map λ_=>c) s->wpAny (model prog w) A (vs.mapM f) Q E s
 | [],Q,_,q=>by rw[List.mapM_nil];exact wpAny_pure q
 |v::vs,Q,h,q=>by
  rw[List.mapM_cons]
  refine wpAny_bind (h v List.mem_cons_self _ (wpAny_bind (KP (λu hu=>h u (List.mem_cons_of_mem _ hu)) (wpAny_pure q))))
def HQ {Q:SortKind->Shared->Prop}(hT:∀v∈vs,s.TypeIs v "list")(aN:vs≠ [])(q:Q oneType' s):wpAny (model prog w) A (keyKind' vs.toArray) Q E s:=by
 obtain⟨v0,vr,rfl⟩:=List.exists_cons_of_ne_nil aN
 rw[keyKind'_eq,List.mapM_toArray]
 refine wpAny_bind (wpAny_map (KP (c:=(none:Option Value)) (λv hv Q q=>?_) ?_))
 ·show wpAny _ _ (typeOf v >>= λt=>if(t != .type "tuple")=true then pure none else _) _ _ _
  refine wpAny_bind (wpAny_typeOf (hT v hv) ?_)
  rw[if_pos (by decide)]
  exact wpAny_pure q
 ·rw[if_neg (by simp),if_neg (by simp),oneTypeOnly'_eq,List.mapM_toArray]
  refine wpAny_bind (wpAny_bind (wpAny_map (KP (c:=Value.type "list") (λv hv Q q=>wpAny_typeOf (hT v hv) q) ?_)))
  rw[show((List.map (λ_=>Value.type "list") (v0::vr)).toArray)[0]?=some (Value.type "list") by simp]
  have aO:((List.map (λ_=>Value.type "list") (v0::vr)).toArray.all λx=>x==Value.type "list")=true:=by
   simp only[List.all_toArray,List.all_map,List.all_eq_true]
   intro _ _
   rfl
  simp only[aO,if_true]
  exact wpAny_pure (wpAny_pure q)
def mid (h:Heap)(a:Addr)(vs:List Value):Heap:=((h.update a (Obj.mapSeq λ_=>#[])).push (seqObj "tuple" vs.toArray 0)).push (seqObj "list" #[] 0)
def SQ {o:Obj}(aN:b≠a)(hb:h.get? b=some o):(mid h a vs).get? b=some o:=by
 have ah:=Heap.lt_size hb
 unfold mid
 rw[Heap.get?_push_ne _ _ _ (by rw[size_push',Heap.size_update];exact Nat.ne_of_lt (Nat.lt_succ_of_lt ah)),Heap.get?_push_ne _ _ _ (by rw[Heap.size_update];exact Nat.ne_of_lt ah),Heap.get?_update_ne _ _ _ _ aN]
 exact hb
def Te {d:M}{Q:Fin->Shared->Prop}(ho:s.heap.get? a=some (seqObj "list" vs.toArray n))(fu:vs.length<64)
  (hk:2<=vs.length->∀{Q:SortKind->Shared->Prop},Q κ {s with heap:=mid s.heap a vs}->wpAny (model prog w) A (keyKind' vs.toArray) Q E {s with heap:=mid s.heap a vs})(Lqz:Asks prog w A E {s with heap:=mid s.heap a vs} κ lt kf d (pairsOf vs))
  (q:∀out:Array Keyed,out.Perm (pairsOf vs)->Ris lt (kp kf d out) vs.length->Q (.done (.ret .none)) {s with heap:=sortedHeap s.heap a vs (out.map (·.2))}):
  wpAny (model prog w) A (Builtin.«list.sort» ⟨[.ref a],[]⟩) Q E s:=by
 rw[list_sort_plain]
 have ah:=Heap.lt_size ho
 obtain⟨e1,ho1⟩:∃e,(s.heap.update a (Obj.mapSeq λ_=>#[])).get? a=some (seqObj "list" #[] e):=⟨_,get?_update_seq ho λ_=>#[]⟩
 have d9:(mid s.heap a vs).get? a=some (seqObj "list" #[] e1):=by
  unfold mid
  rw[Heap.get?_push_ne _ _ _ (by rw[size_push',Heap.size_update];exact Nat.ne_of_lt (Nat.lt_succ_of_lt ah)),Heap.get?_push_ne _ _ _ (by rw[Heap.size_update];exact Nat.ne_of_lt ah)]
  exact ho1
 refine wpAny_bind (listItems_at ho rfl (wpAny_bind (listUpdate_at ho rfl (wpAny_bind (seqEpoch_at ho1 rfl (wpAny_bind (wpAny_newTuple (wpAny_bind (wpAny_newList (wpAny_holding ?_))))))))))
 show wpAny (model prog w) A _ Q E {s with heap:=mid s.heap a vs}
 have tail:∀(st:SortSt),(arrOf st).Perm (pairsOf vs)->failedOf st=none->Ris lt (kp kf d (arrOf st)) vs.length->wpAny (model prog w) A (do
   let fM:=(←seqEpoch a) !=e1
   Builtin.List.listUpdate (.ref a) λ_=>(arrOf st).map (·.2)
   if let some e:=failedOf st then rule "list.sort.comparison-raised";throw e
   if fM then rule "list.sort.modified";raiseError "ValueError" "list modified during sort"
   ret .none) Q E {s with heap:=mid s.heap a vs}:=λst hp hf hr=>by
  refine wpAny_bind (seqEpoch_at d9 rfl (wpAny_bind (listUpdate_at d9 rfl ?_ (hsz2:=?_))))
  ·rw[hf]
   simp only[bne_self_eq_false,Bool.false_eq_true,if_false]
   exact wpAny_pure (q (arrOf st) hp hr)
  ·have:=hp.size_eq
   rw[pairsOf_size] at this
   rw[Array.size_map,this,sizeLine_eq];omega
 have hsz:vs.toArray.size=vs.length:=List.size_toArray
 by_cases h2:vs.toArray.size<2
 ·rw[if_pos h2,if_pos h2]
  refine wpAny_bind (wpAny_pure ?_)
  show wpAny _ _ ((pure ():StateT SortSt Sem Unit).run (SortSt.mk' general' (vs.toArray.zip vs.toArray) #[] 7 none) >>= _) _ _ _
  rw[StateT.run_pure]
  exact wpAny_bind (wpAny_pure (tail (SortSt.mk' general' (vs.toArray.zip vs.toArray) #[] 7 none) (Array.Perm.refl _) rfl λi j cT hj=>by omega))
 ·rw[if_neg h2,if_neg h2]
  refine wpAny_bind (hk (by rw[←hsz];omega) ?_)
  refine wpAny_bind (wpAny_mono (So Lqz (st:=SortSt.mk' κ (vs.toArray.zip vs.toArray) #[] 7 none) (Q:=λ_ st=>(arrOf st).Perm (pairsOf vs)/\failedOf st=none/\Ris lt (kp kf d (arrOf st)) vs.length) ⟨Array.Perm.refl _,rfl,rfl,rfl⟩ (by rw[pairsOf_size];omega) (by rw[pairsOf_size];exact fu) λt a1 a2 a3=>⟨a1,a2,by rw[pairsOf_size] at a3;exact a3⟩) ?_ λ_ _ e=>e)
  intro p s' hh
  obtain⟨⟨⟩,st⟩:=p
  obtain⟨rfl,hp,hf,hr⟩:=hh
  exact tail st hp hf hr
end
section
variable {d:B}{T:List (Value×V×B)}
open Classical in
def kfG (d:B)(T:List (Value×V×B))(v:Value):B:=if h:∃t,t∈T/\t.1=v then(Classical.choose h).2.2 else d
def Mz (hu:∀t u,t∈T->u∈T->t.1=u.1->t.2.2=u.2.2)(ht:t∈T):kfG d T t.1=t.2.2:=by
 have h:∃u,u∈T/\u.1=t.1:=⟨t,ht,rfl⟩
 unfold kfG
 rw[dif_pos h]
 exact hu _ _ (Classical.choose_spec h).1 ht (Classical.choose_spec h).2
def trG:∀{its:List Value}{ys:List V}{as:List B}{G:V->B->Prop},Paired XW ys its->Paired G ys as->∃T:List (Value×V×B),T.map (·.1)=its/\T.map (λt=>(t.2.1,t.2.2))=ys.zip as/\T.map (·.2.2)=as/\∀t∈T,XW t.2.1 t.1/\G t.2.1 t.2.2
 |_,_,_,_, .nil, .nil=>⟨[],rfl,rfl,rfl,λt h=>nomatch h⟩
 |_,_,_,_, .cons r1 p1, .cons r2 p2=>by
  obtain⟨T,e1,e2,e3,hT⟩:=trG p1 p2
  exact⟨(_,_,_)::T,by rw[List.map_cons,e1],by rw[List.map_cons,e2];rfl,by rw[List.map_cons,e3],λt ht=>(List.mem_cons.mp ht).elim (λz=>z▸⟨r1,r2⟩) (hT t)⟩
variable {κ:SortKind}{lt:B->B->Bool}
structure Sb (X:Cx)(aa:List (Addr×Obj))(U:St)(H:Hp)(κ:SortKind)(lt:B->B->Bool)(G:V->B->Prop)(c:Nat):Prop where
 hq:∀{s:Shared},Inv X aa U H s->∀{v y z a b},XW y v->XW z v->G y a->G z b->a=b
 hk:∀{A:Around}{Er:Value->Shared->Prop}{s:Shared},Inv X aa U H s->∀T:List (Value×V×B),(∀t∈T,XW t.2.1 t.1/\G t.2.1 t.2.2)->2<=T.length->∀{Q:SortKind->Shared->Prop},Q κ s->wpAny (model X.prog X.w) A (keyKind' (T.map (·.1)).toArray) Q Er s
 ha:∀{A:Around}{Er:Value->Shared->Prop}{s:Shared},Inv X aa U H s->∀{v w y z a b},XW y v->XW z w->G y a->G z b->A.units+c<cLine->∀{Q:Bool->Shared->Prop},Q (lt a b) s->wpAny (model X.prog X.w) A (keyLt' κ v w) Q Er s
def Hq (d:B){Er:Value->Shared->Prop}{as:List B}{R:Addr->Shared->Prop}(I:Inv X aa U H s)(rv:XX ys its)(hp:Paired G ys as)(cX:as.Nodup)(fu:as.length<64)(OL:OrdT lt)(hu:A.units+(c+1)<cLine)(Bqz:Sb X aa U H κ lt G c)
  (q:∀zs s',Inv X aa U (upd H s.heap.objs.size (.lst zs)) s'->H s.heap.objs.size=none->(zs.zip (Zw lt as)).Perm (ys.zip as)->zs.length=as.length->R s.heap.objs.size s'):
  wpAny (model X.prog X.w) A (newList its >>= λl=>holding [l] (call (.builtin "list.sort") [l] []) >>= λ_=>ret l) (λfin s'=>∃ p,fin= .done (.ret (.ref p))/\R p s') Er s:=by
 obtain⟨hq,hk,ha⟩:=Bqz
 obtain⟨T,e1,e2,e3,hT⟩:=trG rv hp
 have ae:its.length=as.length:=by rw[←e1, ←e3,List.length_map,List.length_map]
 have huq:∀t u,t∈T->u∈T->t.1=u.1->t.2.2=u.2.2:=λt u ht eB e=>hq I (hT t ht).1 (e▸(hT u eB).1) (hT t ht).2 (hT u eB).2
 refine wpAny_bind (wpAny_newList ?_ (by rw[ae,sizeLine_eq];omega))
 let g0:=s.heap.push (seqObj "list" its.toArray 0)
 have iV:g0.get? s.heap.objs.size=some (seqObj "list" its.toArray 0):=Heap.get?_push_size _ rfl
 have jS:∀b o,s.heap.get? b=some o->g0.get? b=some o:=λb o hb=>Heap.get?_push_of_some _ hb
 show wpAny _ _ _ _ _ {s with heap:=g0}
 have aN:∀{b o},s.heap.get? b=some o->b≠s.heap.objs.size:=λhb=>Nat.ne_of_lt (Heap.lt_size hb)
 have I2:Inv X aa U H {s with heap:=mid g0 s.heap.objs.size its,toks:=s.toks}:=I.kept λb o hb=>SQ (aN hb) (jS b o hb)
 have hitm:∀v,v∈its->∃t,t∈T/\t.1=v:=λv hv=>by rw[←e1] at hv;exact List.mem_map.mp hv
 have bw:∀{st:SortSt}{i:Nat},SB κ (pairsOf its) st->i<(pairsOf its).size->∃t p,t∈T/\(arrOf st)[i]?=some (t.1,p)/\kp (kfG d T) d (arrOf st) i=t.2.2:=fun {st i} Bqz hi=>by
  have cY:i<(arrOf st).size:=by rw[Bqz.size];exact hi
  have hm:(arrOf st)[i]∈(pairsOf its).toList:=(Array.perm_iff_toList_perm.mp Bqz.perm).mem_iff.mp (by simp)
  rw[pairsOf_toList] at hm
  obtain⟨t,ht,e⟩:=hitm _ (mem_zip_self hm).2
  have eg:(arrOf st)[i]?=some (arrOf st)[i]:=getElem?_pos _ i cY
  refine⟨t,(arrOf st)[i].2,ht,by rw[eg,e],?_⟩
  unfold kp
  rw[eg,Option.map_some,Option.getD_some, ←e]
  exact Mz huq ht
 have gz:∀{st:SortSt},SB κ (pairsOf its) st->((arrOf st).toList.map λp=>kfG d T p.1).Perm as:=fun {st} Bqz=>by
  have h1:(arrOf st).toList.Perm (its.zip its):=by rw[←pairsOf_toList];exact Array.perm_iff_toList_perm.mp Bqz.perm
  have h2:=h1.map λp=>kfG d T p.1
  have h3:(its.zip its).map (λp=>kfG d T p.1)=as:=by
   have:(its.zip its).map (λp=>kfG d T p.1)=((its.zip its).map Prod.fst).map (kfG d T):=by rw[List.map_map];rfl
   rw[this,List.map_fst_zip (Nat.le_refl _), ←e1, ←e3,List.map_map]
   exact List.map_congr_left λt ht=>Mz huq ht
  rwa [h3] at h2
 have kat:∀{st:SortSt}{i:Nat} (hi:i<(arrOf st).size),kp (kfG d T) d (arrOf st) i=((arrOf st).toList.map λp=>kfG d T p.1)[i]'(by simpa using hi):=fun {st i} hi=>by
  unfold kp
  rw[getElem?_pos (arrOf st) i hi]
  simp
 have LK:∀(A:Around) (Er:Value->Shared->Prop),A.units+c<cLine->Asks X.prog X.w A Er {s with heap:=mid g0 s.heap.objs.size its} κ lt (kfG d T) d (pairsOf its):=λA Er hA=>{
  irr:=OL.irr
  tr:=OL.tr
  ask:=fun {st i j Q} Bqz hi hj qq=>by
   obtain⟨t,p,ht,et,kt⟩:=bw Bqz hi
   obtain⟨t',p',ht',et',kt'⟩:=bw Bqz hj
   rw[kt,kt'] at qq
   rw[ltAt'_eq]
   refine wpS_bind (wpS_get ?_)
   show wpS _ _ _ _ (elem' (arrOf st) i >>= λx=>elem' (arrOf st) j >>= λy=>lt' x y) Q st
   rw[elem'_eq,elem'_eq,et,et']
   refine wpS_bind (wpS_pure (wpS_bind (wpS_pure ?_)))
   rw[lt'_eq]
   refine wpS_bind (wpS_get ?_)
   rw[Bqz.kind]
   exact wpS_bind (wpS_lift (wpAny_attempt (ha I2 (hT t ht).1 (hT t' ht').1 (hT t ht).2 (hT t' ht').2 hA ⟨rfl,wpS_pure qq⟩)))
  two:=fun {st i j} Bqz hi hj aN=>by
   have cY:i<(arrOf st).size:=by rw[Bqz.size];exact hi
   have fL:j<(arrOf st).size:=by rw[Bqz.size];exact hj
   rw[kat cY,kat fL]
   refine OL.tot λe=>aN ?_
   have hN:=(gz Bqz).nodup_iff.mpr cX
   have hP:=List.pairwise_iff_getElem.mp hN
   rcases Nat.lt_trichotomy i j with z |z |z
   ·exact absurd e (hP i j (by simpa using cY) (by simpa using fL) z)
   ·exact z
   ·exact absurd e.symm (hP j i (by simpa using fL) (by simpa using cY) z)}
 refine wpAny_bind (wpAny_holding (wpAny_call_entry slot_list_sort ⟨_,iV,rfl⟩ entry_list_sort (Te iV (by omega) (λh2 _ hq=>by have:=hk (A:=A.in1) (Er:=Er) I2 T hT (by rw[←List.length_map (f:=(·.1)),e1];exact h2) hq;rw[e1] at this;exact this) (LK _ _ (by rw[Zu];omega)) λout hp hr=>⟨_,rfl,wpAny_pure ⟨_,rfl,?_⟩⟩) (args_list_sort _)))
 have hpl:out.toList.Perm (its.zip its):=by rw[←pairsOf_toList];exact Array.perm_iff_toList_perm.mp hp
 have jT:∀p∈out.toList,p.1=p.2:=λp dS=>(mem_zip_self (hpl.mem_iff.mp dS)).1
 have jU:out.toList.map (·.1)=(out.map (·.2)).toList:=by
  rw[Array.toList_map];exact List.map_congr_left λp dS=>jT p dS
 have jV:((out.map (·.2)).toList).Perm its:=by
  have:=hpl.map Prod.fst
  rw[List.map_fst_zip (Nat.le_refl _)] at this
  rw[←jU];exact this
 obtain⟨T',jW,eT'⟩:=CQ jV (l:=T) (f:=(·.1)) e1.symm
 have dI:T'.map (·.2.2)=out.toList.map λp=>kfG d T p.1:=by
  have h1:T'.map (·.2.2)=(T'.map (·.1)).map (kfG d T):=by
   rw[List.map_map];exact List.map_congr_left λt ht=>(Mz huq (jW.mem_iff.mp ht)).symm
  rw[h1,eT', ←jU,List.map_map];rfl
 have hol:out.size=its.length:=by have:=hp.size_eq;rwa [pairsOf_size] at this
 have jX:T'.map (·.2.2)=Zw lt as:=by
  refine GO OL cX (by rw[←e3];exact jW.map _) ?_
  rw[dI,List.pairwise_iff_getElem]
  intro i j hi hj cT
  have cY:i<out.size:=by simpa using hi
  have fL:j<out.size:=by simpa using hj
  have:=hr i j cT (by omega)
  unfold kp at this
  rw[getElem?_pos out i cY,getElem?_pos out j fL] at this
  simpa using this
 have vv:∀{Uqz:List (Value×V×B)},(∀t∈Uqz,XW t.2.1 t.1)->XX (Uqz.map (·.2.1)) (Uqz.map (·.1)):=fun {Uqz}=>by
  induction Uqz with
  |nil=>intro _;exact .nil
  |cons t Uqz ih=>intro h;exact .cons (h t List.mem_cons_self) (ih λu eB=>h u (List.mem_cons_of_mem _ eB))
 obtain⟨e,he⟩:=sortedHeap_at (out:=out.map (·.2)) iV
 have fH:H s.heap.objs.size=none:=I.hok.fresh (Nat.le_refl _)
 have hvv:XX (T'.map (·.2.1)) (out.map (·.2)).toList:=by rw[←eT'];exact vv λt ht=>(hT t (jW.mem_iff.mp ht)).1
 have iA:(T'.map (·.2.1)).length=as.length:=by rw[List.length_map,jW.length_eq, ←e3,List.length_map]
 refine q (T'.map (·.2.1)) _ (I.laid (t':=s.toks) (λb o e=>?_) (Nat.le_refl _) (show YT X.prog X.w _ _ _ (.lst (T'.map (·.2.1))) from⟨?_,(Array.map (λp:Keyed=>p.2) out).toList,e,hvv,he⟩)) fH ?_ iA
 ·exact L2.Gg (aN e) (jS _ _ e)
 ·rw[iA,sizeLine_eq];omega
 ·rw[←jX, ←e2]
  have:(T'.map (·.2.1)).zip (T'.map (·.2.2))=T'.map λt=>(t.2.1,t.2.2):=by
   rw[List.zip_map']
  rw[this]
  exact jW.map _
def UM {G:Hp->V->B->Prop}{c:Nat}(d:B)(OL:OrdT lt)(hu:X.A.units+(c+2)<cLine)(Bqz:∀aa U H,Sb X aa U H κ lt (G H) c):Qv X (.builtin "sorted") (λxs H Q=>∃ l ys as,xs=[.ref l]/\SqL X.K H l ys/\Paired (G H) ys as/\as.Nodup/\as.length<64/\∀p zs,H p=none->(zs.zip (Zw lt as)).Perm (ys.zip as)->zs.length=as.length->Q (.ref p) (upd H p (.lst zs))):=by
 intro aa s U H xs us Q I rr h
 obtain⟨l,ys,as,rfl,hq,hp,cX,fu,q⟩:=h
 obtain⟨u,rfl,ru⟩:=Uh rr
 cases ru
 obtain⟨its,rv,pl,hz⟩:=I.list hq
 have ae:its.length=as.length:=by rw[←Paired.len hp];exact rv.length.symm
 refine Calls.call_function_entry kind_sorted plain_sorted entry_sorted (args_sorted1 _) ?_
 unfold Builtin.«sorted»
 refine wpAny_bind (m:=checkCount "sorted" 1 1 _) (wpAny_pure (wpAny_bind (collect_list pl.isList ?_ (by rw[ae,sizeLine_eq];omega))))
 have I1:Inv X aa U H {s with heap:=(s.heap.push (seqObj "list" #[] 0)).update s.heap.objs.size (Obj.mapSeq (· ++its.toArray)),toks:=s.toks}:=I.kept λb o hb=>by
  have ah:=Heap.lt_size hb
  rw[Heap.get?_update_ne _ _ _ _ (Nat.ne_of_lt ah),Heap.get?_push_ne _ _ _ (Nat.ne_of_lt ah)]
  exact hb
 refine wpAny_mono (Hq d (A:=X.A.in1) I1 rv hp cX fu OL (by rw[Zu];omega) (Bqz aa U H) (R:=λp s'=>EP X aa U Q (.ref p) s') λzs s' I' hf dU iA=>⟨.ref _,_,I',rfl,q _ zs hf dU iA⟩) (λfin s' r9=>?_) λ_ _ x=>x
 obtain⟨p,e,r⟩:=r9
 subst e
 exact⟨_,rfl,r⟩
end
section
variable [DecidableEq L]{r:Enc L}{lt:L->L->Bool}{d:Nat}
def PR (K:W.Frag)(r:Enc L)(lt:L->L->Bool):List V->Hp->VK->Prop:=λxs H Q=>∃ l ys as,xs=[.ref l]/\SqL K H l ys/\Paired (rL r K H) ys as/\as.Nodup/\as.length<64/\
 ∀p zs,H p=none->(zs.zip (Zw (ltG lt) as)).Perm (ys.zip as)->zs.length=as.length->Q (.ref p) (upd H p (.lst zs))
theorem Ko (E:EqOk r d)(Lqz:LtOk r lt d)(O:OrdT lt)(K:W.Frag)(hK:X.K=K)(hu:X.A.units+(d+3)<cLine):Qv X (.builtin "sorted") (PR K r lt):=by
 subst hK
 refine UM (G:=λH=>rL r X.K H) (c:=d+1) (κ:=oneType') [] (DR O) hu λaa U H=>{
  hq:=fun {s} I {v y z a b} r1 r2 l1 l2=>by
   obtain⟨b1,z1,w1,m1⟩:=id l1
   obtain⟨b2,z2,w2,m2⟩:=id l2
   rw[w1] at r1 l1
   rw[w2] at r2 l2
   have fN:v= .ref b1:=r1
   have eY:v= .ref b2:=r2
   rw[fN] at eY
   cases eY
   exact(Lq E).uniq I l1 l2
  hk:=fun {A Er s} I T hT h2 Q q=>HQ (λv hv=>?_) (λe=>by rw[List.map_eq_nil_iff.mp e] at h2;simp at h2) q
  ha:=fun {A Er s} I {v w y z a b} r1 r2 l1 l2 hA Q q=>by
   rw[keyLt'_oneType,oneLt'_eq]
   simp only[if_true]
   obtain⟨b1,b2,o1,o2,v1,v2,g1,c1,g2,c2,jY⟩:=Mc E Lqz I (prog:=X.prog) (w:=X.w) (A:=A) (Er:=Er) r1 r2 l1 l2 hA (Q:=λu s'=>u= .bool (ltG lt a b)/\s'=s) ⟨rfl,rfl⟩
   rw[v1,v2]
   refine wpAny_bind (wpAny_cRoomFor (by omega) (wpAny_bind (wpAny_callSpecialIfBound?_slot ⟨_,g1,c1⟩ F.slot_list_lt (thn jY λu s' ⟨ev,es⟩=>?_))))
   subst ev es
   exact wpAny_truthy_bool q}
 obtain⟨t,ht,rfl⟩:=List.mem_map.mp hv
 obtain⟨r1,a,zs,w1,m1,_⟩:=hT t ht
 rw[w1] at r1
 have fN:t.1= .ref a:=r1
 obtain⟨its',_,⟨o,n,g1,c1,_,_⟩,_⟩:=I.list m1
 rw[fN]
 exact⟨o,g1,c1⟩
end
section
end
section
def P3.tri {F:M->L->B->Prop}:∀{l m n},P3 F l m n->∃T:List (M×L×B),T.map (·.1)=l/\T.map (·.2.1)=m/\T.map (·.2.2)=n/\∀t∈T,F t.1 t.2.1 t.2.2:=λp=>by
 induction p with
 |nil=>exact⟨[],rfl,rfl,rfl,λt h=>nomatch h⟩
 |cons r _ ih=>
  obtain⟨T,e1,e2,e3,h⟩:=ih
  exact⟨(_,_,_)::T,by rw[List.map_cons,e1],by rw[List.map_cons,e2],by rw[List.map_cons,e3],λt ht=>(List.mem_cons.mp ht).elim (λz=>z▸r) (h t)⟩
def P3.oft {F:M->L->B->Prop}:∀{T:List (M×L×B)},(∀t∈T,F t.1 t.2.1 t.2.2)->P3 F (T.map (·.1)) (T.map (·.2.1)) (T.map (·.2.2)):=fun {T}=>by
 induction T with
 |nil=>intro _;exact .nil
 |cons t T ih=>intro h;exact .cons (h t List.mem_cons_self) (ih λu hu=>h u (List.mem_cons_of_mem _ hu))
def Tg {a:List M}{b:List L}(h:a.zip b=a'.zip b')(h1:a.length=b.length)(h2:a'.length=b'.length):a=a'/\b=b':=by
 have e1:=congrArg (List.map Prod.fst) h
 have e2:=congrArg (List.map Prod.snd) h
 rw[List.map_fst_zip (by omega),List.map_fst_zip (by omega)] at e1
 rw[List.map_snd_zip (by omega),List.map_snd_zip (by omega)] at e2
 exact⟨e1,e2⟩
def P3.perm {F:M->L->B->Prop}{m:List L}{n:List B}(p:P3 F l m n)(h:(zs.zip bs).Perm (l.zip m))(hl:zs.length=bs.length):∃n',P3 F zs bs n'/\n'.Perm n:=by
 obtain⟨T,e1,e2,e3,hT⟩:=p.tri
 have ez:T.map (λt=>(t.1,t.2.1))=l.zip m:=by rw[←e1, ←e2,List.zip_map']
 obtain⟨T',hp,e⟩:=CQ h ez.symm
 have:(T'.map (·.1)).zip (T'.map (·.2.1))=zs.zip bs:=by rw[List.zip_map'];exact e
 obtain⟨f1,f2⟩:=Tg this (by simp) hl
 refine⟨T'.map (·.2.2),?_,by rw[←e3];exact hp.map _⟩
 rw[←f1, ←f2]
 exact P3.oft λt ht=>hT t (hp.mem_iff.mp ht)
def NU [DecidableEq L]{r:Enc L}{o:OE (List L)}[z:MonoO o][zf:FrzC o (rV r)]{m:Rs (List (List L))}(he:Ev K Er S OO OO' U te (oL o) m):
  Ev K Er S OO OO' U (tCB (PR K r lt) (Xk te YD)) (oL o) (m.bind λas=>chk (as.length<64/\as.Nodup) (.ok (Zw (ltG lt) as))):=λH Q w s P=>by
 refine he H _ w s ?_
 cases m with
 |bad=>exact P
 |err x=>exact P
 |ok as=>
  intro v C H1 s1 w1 m1 ⟨p,xs,Cs,e,q,c⟩
  subst c
  obtain⟨⟨fu,cX⟩,P⟩:=PZ.chk (show PZ Er (FO K OO OO' (oL o) Q) H (chk (as.length<64/\as.Nodup) (.ok (Zw (ltG lt) as))) from P)
  have hH:H1 p=some (.lst xs):=w1.cell (p, .lst xs) List.mem_cons_self
  refine⟨p,xs,as,by rw[e],SqL.of hH,?_,cX,fu,λp2 zs cW dU ae=>?_⟩
  ·refine q.pair λa b c hc ho=>WU (zf.frz ho Xv λx hx=>w1.cell x (List.mem_cons_of_mem _ (List.mem_flatten.mpr ⟨c,hc,hx⟩)))
  ·have hsl:(Zw (ltG lt) as).length=as.length:=(YE _ as).length_eq
   obtain⟨Cs',q',hCs⟩:=q.perm dU (by rw[hsl];exact ae)
   have w2:W (Cs'.flatten::OO') H1:=w1.sub (OO':=Cs.flatten::OO') (by simp) |>.of (by simp only[List.flatten_cons];exact hCs.flatten.append_right _)
   have w3:=w2.new cW (o:=.lst zs) rfl
   have w4:W (((p2, .lst zs)::Cs'.flatten)::OO') (upd H1 p2 (.lst zs)):=w3.of (by simp)
   have mm:Xp (hid H1 (((p,HO.lst xs)::Cs.flatten)::OO')) (hid (upd H1 p2 (.lst zs)) (((p2,HO.lst zs)::Cs'.flatten)::OO')):=λb ob hb=>by
    obtain⟨b1,b2⟩:=XU hb
    have aN:b≠p2:=XR b1 cW
    refine YS (by rw[XH aN];exact b1) λhz=>b2 ?_
    rw[XG,List.map_cons] at hz⊢
    rcases List.mem_cons.mp hz with y |y
    ·exact absurd y aN
    ·refine List.mem_cons_of_mem _ ?_
     rcases List.mem_append.mp y with y |y
     ·exact List.mem_append_left _ ((hCs.flatten.map _).mem_iff.mp y)
     ·exact List.mem_append_right _ y
   exact P (.ref p2) _ _ (s1.trans (Xw cW _)) w4 (m1.trans mm) ⟨p2,zs,Cs',rfl,q'.imp λ_ _ _ h=>z.mono mm h,rfl⟩
def TQ [z:MonoO o][zf:FrzC o r][zr:MonoE r](i k:Nat)(hn:0<n)(hσ:U[i]?=some (some v))(hk:OO[k]?=some C)(h:∀x,S.p x->oL o K x v as C)
  (hc:∀(D:List XD) a u,EvT Er (S.add K r u a) (D::OO.set k []) ((X6 n caps U).set 0 (some u)) tt (c a)):
  Ev K Er S OO (OO.set k []) U (Cr n caps (Ft K (JP i)) (Yr 0) tt (JP 0)) (oL o) ((Rs.ok as).bind λas=>T3 as c λa=>.ok a):=λH Q w s P=>by
 obtain⟨p,xs,Cs,e,q,cc⟩:=h _ s
 subst cc e
 obtain⟨hsz,P⟩:=PZ.chk (show PZ Er (FO K OO (OO.set k []) (oL o) Q) H (chk (as.length<=sizeLine) (Gc as c λa=>.ok a)) from P)
 have pm:=XN hk
 have hH:H p=some (.lst xs):=w.tr (p, .lst xs) (List.mem_flatten.mpr ⟨_,List.mem_of_getElem? hk,List.mem_cons_self⟩)
 have hxl:=q.len.1
 have w1:W (((p, .lst xs)::Cs.flatten)::OO.set k []) H:=w.of pm
 have nd1:=w1.nd
 rw[XG] at nd1
 have hm0:∀{H2},Xp H H2->Xp (hid H OO) (hid H2 ([]::OO.set k [])):=fun {H2} s2=>by
  rw[YK, ←XE pm]
  exact Zk s2 λb hb=>by rw[XG];exact List.mem_append_right _ hb
 refine⟨.ref p,hσ,p,rfl,⟨xs,SqL.of hH⟩,?_⟩
 refine L0 (xs:=xs) (λi ys H2=>∃ bs Ds,Xp H H2/\P3 (o K (hid H OO)) ys bs Ds/\Ds.flatten.Sublist (Cs.take i).flatten/\bs.length<=i/\i<=as.length/\PZ Er (FO K OO (OO.set k []) (oL o) Q) H ((Gc (as.drop i) c λa=>.ok a).bind λZI=>.ok (bs++ZI))) ?_ ?_ ?_ ?_
 ·refine⟨[],[],Xp.refl _, .nil,by simp,Nat.le_refl _,Nat.zero_le _,?_⟩
  rw[List.drop_zero]
  revert P
  cases Gc as c (λa=>Rs.ok a)<;> exact λz=>z
 ·rintro i ys H2 hi ⟨bs,Ds,s2,q2,_,hb,fv,_⟩
  exact⟨SqL.of (s2 _ _ hH),by rw[q2.len.1];omega⟩
 ·rintro i x ys H2 hx ⟨bs,Ds,s2,q2,sb,hb,fv,P2⟩
  have ah:i<as.length:=by rw[←hxl];exact(List.getElem?_eq_some_iff.mp hx).1
  obtain⟨x',c0,eK,jQ,ho⟩:=P3.get q (show as[i]?=some as[i] by simp[ah])
  rw[hx] at eK
  cases eK
  have gK:=(List.getElem?_eq_some_iff.mp jQ)
  have bq:∀y∈c0,y∈Cs.flatten:=λy hy=>List.mem_flatten.mpr ⟨c0,List.mem_of_getElem? jQ,hy⟩
  have rx:r K (hid H2 ([]::OO.set k [])) x as[i]:=zf.frz ho (hm0 s2) λy hy=>by
   have hy1:=w1.cell y (List.mem_cons_of_mem _ (bq y hy))
   rw[YK]
   refine YS (s2 _ _ hy1) λhz=>?_
   exact(List.nodup_append.mp nd1).2.2 y.1 (List.mem_map.mpr ⟨y,List.mem_cons_of_mem _ (bq y hy),rfl⟩) y.1 hz rfl
  rw[List.drop_eq_getElem_cons ah] at P2
  have aD:PZ Er (FO K OO (OO.set k []) (oL o) Q) H ((c as[i]).bind λb=>(if b=true then(Rs.ok as[i]).bind λb=>(Gc (as.drop (i+1)) c λa=>.ok a).bind λbs=>.ok (b::bs) else Gc (as.drop (i+1)) c λa=>.ok a).bind λZI=>.ok (bs++ZI)):=by
   rw[←XQ];exact P2
  refine hc [] as[i] x H2 _ ((w1.tail.keep s2).nil) ⟨S.mono _ _ (hm0 s2) s,rx⟩ ?_
  cases ec:c as[i] with
  |bad=>rw[ec] at aD;exact aD
  |err ex=>rw[ec] at aD;exact λH4 s4=>aD H4 (s2.trans s4)
  |ok b=>
   rw[ec] at aD
   intro H4 s4
   have tk:(Cs.take (i+1)).flatten=(Cs.take i).flatten++c0:=by
    rw[List.take_succ_eq_append_getElem gK.1,List.flatten_append,gK.2];simp
   cases b with
   |false=>
    refine⟨bs,Ds,s2.trans s4,q2,sb.trans ?_,Nat.le_succ_of_le hb,ah,aD⟩
    rw[tk];exact List.sublist_append_left _ _
   |true=>
    rw[if_pos rfl]
    refine⟨x,?_,bs++[as[i]],Ds++[c0],s2.trans s4,q2.snoc ho,?_,by simp;omega,ah,?_⟩
    ·unfold X6
     rw[List.getElem?_set_self (by simp;omega)]
    ·rw[tk,List.flatten_append]
     exact sb.append (by simp)
    ·have:((Gc (as.drop (i+1)) c λa=>Rs.ok a).bind λZI=>Rs.ok ((bs++[as[i]])++ZI))=((Rs.ok as[i]).bind λb=>(Gc (as.drop (i+1)) c λa=>.ok a).bind λbs=>.ok (b::bs)).bind λZI=>.ok (bs++ZI):=by
      rw[XQ,Rs.ok_bind,XQ];congr 1;funext ZI;rw[Rs.ok_bind,List.append_assoc];rfl
     rw[this];exact aD
 ·rintro ys H2 p2 ⟨bs,Ds,s2,q2,sb,hb,fv,P2⟩ cW
  rw[hxl,List.drop_length] at P2
  have P2:FO K OO (OO.set k []) (oL o) Q bs H:=by
   have e:((Gc ([]:List M) c λa=>Rs.ok a).bind λZI=>Rs.ok (bs++ZI))= .ok bs:=by show Rs.ok (bs++[])=_;rw[List.append_nil]
   rw[e] at P2;exact P2
  have sb2:Ds.flatten.Sublist Cs.flatten:=sb.trans (by
   rw[List.take_of_length_le (by rw[hxl, ←q.len.2];exact Nat.le_refl _)]
   exact List.Sublist.refl _)
  have w2:W (Ds.flatten::OO.set k []) H2:=(w1.keep s2).sub (by
   simp only[List.flatten_cons,List.cons_append]
   exact(sb2.append_right _).trans (List.sublist_cons_self ..))
  have w3:=w2.new cW (o:=.lst ys) rfl
  have w4:W (((p2, .lst ys)::Ds.flatten)::OO.set k []) (upd H2 p2 (.lst ys)):=w3.of (by simp)
  have mm:Xp (hid H OO) (hid (upd H2 p2 (.lst ys)) (((p2,HO.lst ys)::Ds.flatten)::OO.set k [])):=λb ob hb=>by
   rw[←XE pm] at hb
   obtain⟨b1,b2⟩:=XU hb
   have b3:=s2 _ _ b1
   have aN:b≠p2:=XR b3 cW
   refine YS (by rw[XH aN];exact b3) λhz=>b2 ?_
   rw[XG,List.map_cons] at hz⊢
   rcases List.mem_cons.mp hz with y |y
   ·exact absurd y aN
   ·refine List.mem_cons_of_mem _ ?_
    rcases List.mem_append.mp y with y |y
    ·exact List.mem_append_left _ ((sb2.map _).mem y)
    ·exact List.mem_append_right _ y
  exact P2 (.ref p2) _ _ (s2.trans (Xw cW _)) w4 mm ⟨p2,ys,Ds,rfl,q2.imp λ_ _ _ hh=>z.mono mm hh,rfl⟩
end
section
variable {u:TS}[fd:FdOk Fd]
def Wi:LtOk (rV Xf) (ltG ltI) 1:=LtOk.imp (Oq eq_int lt_int) WU
end
section
variable {u:TS}
def WG (K:W.Frag)(o:OE ρ)(Cf:List XD)(Q:VK)(b:ρ)(h:Hp):Prop:=∀ v C H',W [C++Cf] H'->Xp h (hid H' [C++Cf])->o K (hid H' [C++Cf]) v b C->Q v H'
def qk (K:W.Frag)(o:OE ρ)(k:Nat)(Cf:List XD)(D:Ends)(b:ρ)(h:Hp):Prop:=∀ v C OO' H',OO'[k]?=some Cf->W (C::OO') H'->Xp h (hid H' (C::OO'))->o K (hid H' (C::OO')) v b C->D.rt v H'
instance {o:OE ρ}{k:Nat}{Cf:List XD}:FdOk (qk K o k Cf):=⟨λD b h h' s q v C O H' e w m x=>q v C O H' e w (s.trans m) x⟩
def qU (r1:Enc α1)(o:OE ρ)(f:α1->Rs ρ)(K:W.Frag):Sp:=λvs H Q _=>∃ v1 a1 b,vs=[v1]/\∃Cf,W [Cf] H/\r1 K (hid H [Cf]) v1 a1/\f a1= .ok b/\WG K o Cf Q b (hid H [Cf])
def je (r1:Enc α1)(r2:Enc α2)(o:OE ρ)(f:α1->α2->Rs ρ)(K:W.Frag):Sp:=λvs H Q _=>∃ v1 v2 a1 a2 b,vs=[v1,v2]/\∃Cf,W [Cf] H/\r1 K (hid H [Cf]) v1 a1/\r2 K (hid H [Cf]) v2 a2/\f a1 a2= .ok b/\WG K o Cf Q b (hid H [Cf])
def FU {o:OE ρ}{m:Rs ρ}(k:Nat)(hk:OO'[k]?=some Cf)(he:Ev K Er S OO OO' U te o m):Sv Er S OO U (Zf (AA te) u) (qk K o k Cf) m:=λH D w s P=>
 he H _ w s (by
  cases m with
  |bad=>exact P
  |err x=>exact λH' s'=>P H' (Xv.trans s')
  |ok a=>exact λv C H' s' w' m' ho=>P v C OO' H' hk w' m' ho)
def Ng {o:OE ρ}[zo:MonoO o]{m:Rs ρ}{Q:VK}{b:ρ}(n:Nat)(h:Sv (λ_ _=>False) S (List.replicate n []++[Cf]) U t (qk K o n Cf) m)(w:W [Cf] H)(hs:S.p (hid H [Cf]))(hm:m= .ok b)(qf:WG K o Cf Q b (hid H [Cf]))(hD:D.rt=Q):t D U H:=by
 have pe:(List.replicate n ([]:List XD)++[Cf]).flatten.Perm [Cf].flatten:=by
  rw[List.flatten_append,Yi,List.nil_append]
 refine h H D (w.of pe) (by rw[XE pe];exact hs) ?_
 subst hm
 rw[XE pe]
 intro v C OO' H' hk w' m' ho
 rw[hD]
 have hp:=XN hk
 have wk:W (C::Cf::OO'.set n []) H':=w'.of (by rw[List.flatten_cons,List.flatten_cons (l:=C)];exact hp.append_left C)
 have eh:hid H' (C::OO')=hid H' (C::Cf::OO'.set n []):=(XE (by rw[List.flatten_cons,List.flatten_cons (l:=C)];exact hp.append_left C)).symm
 have aq:Xp (hid H' (C::OO')) (hid H' [C++Cf]):=by
  rw[eh]
  exact Zk (Xp.refl _) λb hb=>by
   rw[XG,XG, ←List.append_assoc]
   refine List.mem_append_left _ ?_
   simpa[fl] using hb
 exact qf v C H' (wk.sub (by simp)) (m'.trans aq) (zo.mono aq ho)
def TM {o:OE ρ}{Q:VK}{b:ρ}(w:W OO H)(P:FO K OO OO o Q b H):WG K o OO.flatten Q b (hid H OO):=λv C H' w' m' ho=>by
 have e1:([C++OO.flatten]:List (List XD)).flatten=(C::OO).flatten:=by simp
 have e2:hid H' [C++OO.flatten]=hid H' (C::OO):=by unfold hid fl;rw[e1]
 rw[e2] at m' ho
 have w2:W (C::OO) H':=w'.of (by rw[e1])
 refine P v C H' (λx ob hx=>?_) w2 m' ho
 by_cases hb:x∈fl OO
 ·obtain⟨oo,hoo⟩:=H9 hb
  have h1:=w.tr _ hoo
  rw[hx] at h1
  cases h1
  exact w2.tail.tr _ hoo
 ·exact(XU (m' _ _ (YS hx hb))).1
def Gf:hid H [OO.flatten]=hid H OO:=by unfold hid fl;rw[show([OO.flatten]:List (List XD)).flatten=OO.flatten by simp]
def W.one (w:W OO H):W [OO.flatten] H:=w.of (by simp)
def Mp [MonoE r1]{o:OE ρ}{f:α1->Rs ρ}{ma:Rs α1}(ha:EvS K Er S OO U ta r1 ma):Ev K Er S OO OO U (Jd (qU r1 o f K) [] E0 (Xk ta YD)) o (ma.bind λa=>noE (f a)):=λH Q w s P=>
 ha.run w s FO.tr P λa x H1 s1 w1 q1 r1 P1=>by
  obtain⟨b,hb,P2⟩:=P1.okOf λx=>Uz
  exact⟨x,a,b,rfl,OO.flatten,w1.one,by rw[Gf];exact r1,Ut hb,by rw[Gf];exact TM w1 P2⟩
def Nj [z1:MonoE r1][MonoE r2]{o:OE ρ}{f:α1->α2->Rs ρ}{ma:Rs α1}{mb:Rs α2}(ha:EvS K Er S OO U ta r1 ma)(hb:EvS K Er S OO U tb r2 mb):
  Ev K Er S OO OO U (Jd (je r1 r2 o f K) [] E0 (Xk ta (Xk tb YD))) o (ma.bind λa=>mb.bind λb=>noE (f a b)):=λH Q w s P=>
 ha.run w s FO.tr P λa x H1 s1 w1 q1 r1 P1=>hb.run w1 q1 FO.tr P1 λb y H2 s2 w2 q2 r2 P2=>by
  obtain⟨c,hc,P3⟩:=P2.okOf λx=>Uz
  exact⟨x,y,a,b,c,rfl,OO.flatten,w2.one,by rw[Gf];exact z1.mono (Xh s2) r1,by rw[Gf];exact r2,Ut hc,by rw[Gf];exact TM w2 P3⟩
end
section
variable [fd:FdOk Fd]{u:TS}
end
section
end
section
end
section
end
section
variable {lt:M->M->Bool}{d:Nat}
end
section
end
section
variable {s0:Shared}
end
section
end
section
variable {E:XK}
end
section
variable {o:Expr}{to:TE}{t:TA}{name:Str}{aB am:Pos}{id:String}{r:V->List V->Hp->VK->Prop}
end
section
end
section
variable [fd:FdOk Fd]{u:TS}
def Sz {q:Enc B}[z:MonoE r][y:MonoE q][MonoE t]{ma:Rs M}{mb:Rs B}{mc:Rs δ}{f:M->B->δ->Rs L}(i j k:Nat)(ha:EvS K Er S OO U ta r ma)(hb:EvS K Er S OO U tb q mb)(hc:EvS K Er S OO U tc t mc)
  (hr:∀a b c v w x,Sv Er (((S.add K r v a).add K q w b).add K t x c) OO (((U.set i (some v)).set j (some w)).set k (some x)) u Fd (f a b c)):Sv Er S OO U (Zf (TK i j k (Xk ta (Xk tb (Xk tc YD)))) u) Fd (ma.bind λa=>mb.bind λb=>mc.bind λc=>f a b c):=λH D w s P=>
 ha.st w s P λa v1 H1 s1 w1 q1 r1 P1=>hb.st w1 q1 P1 λb v2 H2 s2 w2 q2 r2 P2=>hc.st w2 q2 P2 λc v3 H3 s3 w3 q3 r3 P3=>
  ⟨v1,v2,v3,rfl,hr a b c v1 v2 v3 H3 D w3 ⟨⟨⟨q3,z.mono (Xh s3) (z.mono (Xh s2) r1)⟩,y.mono (Xh s3) r2⟩,r3⟩ P3⟩
end
end L2
namespace HT
open PySem PySem.Spec PyProof PyProof.Rows
section
end
end HT
namespace L2
open PySem PySem.Spec PyProof.Rows
section
end
section
end
section
variable [fd:FdOk Fd]{u:TS}
end
section
variable {E:XK}{u:TS}
end
section
def ltP (a b:Int×Int):Bool:=if a.1=b.1 then decide (a.2<b.2) else decide (a.1<b.1)
def Dd:OrdT ltP:=⟨⟨λa=>by simp[ltP],fun {a b c} h1 h2=>by
 unfold ltP at*
 split at h1<;> split at h2<;> split<;> simp only[decide_eq_true_eq] at* <;> omega⟩,fun {a b} h=>by
 unfold ltP
 by_cases e:a.1=b.1
 ·rw[if_pos e,if_pos e.symm,decide_eq_true_eq,decide_eq_true_eq]
  have:a.2≠b.2:=λz=>h (Prod.ext e z)
  omega
 ·rw[if_neg e,if_neg (Ne.symm e),decide_eq_true_eq,decide_eq_true_eq];omega⟩
def IH {x y:V}(h:XX [x,y] us):∃a b,us=[a,b]/\XW x a/\XW y b:=by
 cases h with
 |cons a b=>cases b with
  |cons c d=>cases d with
   |nil=>exact⟨_,_,rfl,a,c⟩
def Pa (K:W.Frag):List V->Hp->VK->Prop:=λxs H Q=>∃ l ys,∃as:QPs,xs=[.ref l]/\SqL K H l ys/\Paired (rP2 Xf Xf K H) ys as/\as.Nodup/\as.length<64/\
 ∀p zs,H p=none->(zs.zip (Zw ltP as)).Perm (ys.zip as)->zs.length=as.length->Q (.ref p) (upd H p (.lst zs))
def jf (I:Inv X aa U H s):∀(T:List (Value×V×Int×Int)),(∀t∈T,XW t.2.1 t.1/\rP2 Xf Xf X.K H t.2.1 t.2.2)->∃fs,PySem.W.KatTups s.heap (T.map (·.1)) fs/\fs.length=T.length/\∀v∈fs,∃i t,v= .int i t
 | [],_=>⟨[], .nil,rfl,λv h=>nomatch h⟩
 |t::T,h=>by
  obtain⟨fs,k1,k2,k3⟩:=jf I T λu hu=>h u (List.mem_cons_of_mem _ hu)
  obtain⟨r1,a,x,y,w1,m1,h1,h2⟩:=h t List.mem_cons_self
  rw[w1] at r1
  have fN:t.1= .ref a:=r1
  obtain⟨its,rv,⟨o,g1,c1,n,d1⟩,_⟩:=I.tuple (SqT.of m1)
  have e1:x= .int t.2.2.1:=h1
  subst e1
  obtain⟨u1,us,rfl,⟨tk,e2⟩,rr⟩:∃u1 us,its=u1::us/\XW (.int t.2.2.1) u1/\XX [y] us:=by
   cases rv with
   |cons a b=>exact⟨_,_,rfl,a,b⟩
  refine⟨u1::fs,?_,by simp[k2],λv hv=>?_⟩
  ·rw[List.map_cons,fN]
   exact .cons g1 c1 d1 (by simp) k1
  ·rcases List.mem_cons.mp hv with z |z
   ·exact⟨_,_,z.trans e2⟩
   ·exact k3 v z
def qX:Sb X aa U H (tuples' true) ltP (rP2 Xf Xf X.K H) 1 where
 hq:=fun {s} I {v y z a b} r1 r2 l1 l2=>by
  obtain⟨b1,x1,y1,w1,m1⟩:=id l1
  obtain⟨b2,x2,y2,w2,m2⟩:=id l2
  rw[w1] at r1 l1
  rw[w2] at r2 l2
  have fN:v= .ref b1:=r1
  have eY:v= .ref b2:=r2
  rw[fN] at eY
  cases eY
  exact(R5 eq_int eq_int).uniq I l1 l2
 hk:=fun {A Er s} I T hT h2 Q q=>by
  obtain⟨fs,k1,k2,k3⟩:=jf I T hT
  refine PySem.W.kat_kind (T:=.type "int") k1 (by rw[k2];omega) (λv hv=>?_) rfl q
  obtain⟨i,t,rfl⟩:=k3 v hv
  exact .now
 ha:=fun {A Er s} I {v w y z a b} r1 r2 l1 l2 hA Q qq=>by
  obtain⟨a1,x1,y1,v1,m1,jM,hy1⟩:=l1
  obtain⟨a2,x2,y2,v2,m2,eV,hy2⟩:=l2
  rw[v1] at r1
  rw[v2] at r2
  have fN:v= .ref a1:=r1
  have eY:w= .ref a2:=r2
  obtain⟨is1,iy,⟨o1,g1,_,n1,d1⟩,_⟩:=I.tuple (SqT.of m1)
  obtain⟨is2,fK,⟨o2,g2,_,n2,d2⟩,_⟩:=I.tuple (SqT.of m2)
  rw[show x1=V.int a.1 from jM,show y1=V.int a.2 from hy1] at iy
  rw[show x2=V.int b.1 from eV,show y2=V.int b.2 from hy2] at fK
  obtain⟨p1,p2,rfl,q1,q2⟩:=IH iy
  obtain⟨p3,p4,rfl,q3,q4⟩:=IH fK
  rw[fN,eY]
  refine PySem.W.kat_lt g1 d1 g2 d2 ?_
  show PySem.W.KatLex _ _ _ true _ _ [(p1,p3),(p2,p4)] 0 _
  refine PySem.W.kat_cons (eq_int.eq (A:=A) I q1 q3 rfl rfl (by omega) _ _ _ _ ?_)
  refine PySem.W.kat_go (λz=>PySem.W.kat_yes (PySem.W.kat_cons (eq_int.eq (A:=A) I q2 q4 rfl rfl (by omega) _ _ _ _ (PySem.W.kat_go (λy=>PySem.W.kat_yes (PySem.W.kat_nil ?_)) λy=>PySem.W.kat_no (PySem.W.kat_one _ _ ?_))))) λz=>PySem.W.kat_no ?_
  ·have z:=of_decide_eq_true z
   have y:=of_decide_eq_true y
   unfold ltP at qq
   rwa [if_pos z,decide_eq_false (by omega)] at qq
  ·have z:=of_decide_eq_true z
   have y:=of_decide_eq_false y
   unfold ltP at qq
   rw[if_pos z] at qq
   exact lt_int.at' (A:=A) I q2 q4 rfl rfl (by omega) _ _ _ _ qq
  ·have z:=of_decide_eq_false z
   unfold ltP at qq
   rw[if_neg z] at qq
   obtain⟨tk1,rfl⟩:=q1
   obtain⟨tk3,rfl⟩:=q3
   exact oneLt_int qq
def Cn (K:W.Frag)(hK:X.K=K)(hu:X.A.units+4<cLine):Qv X (.builtin "sorted") (Pa K):=by
 subst hK
 exact UM (G:=λH=>rP2 Xf Xf X.K H) (0,0) Dd (by omega) λ_ _ _=>qX
end
section
def Wu {l sl:Addr}{items ys:List Value}{vl vu:Value}{lo hi:Option Int}{Q:Unit->Shared->Prop}(hl:s.heap.get? l=some {cls:=.type "list",data:=.seq items.toArray n})
  (hs:s.heap.IsSliceOf sl vl vu .none)(pl:IsPart vl lo)(pu:IsPart vu hi)(hb:s.heap.IsList b ys.toArray)(aN:l≠b)(hz:items.length+ys.length<=sizeLine)
  (h:Q () {s with heap:=s.heap.update l (Obj.mapSeq λxs=>xs.extract 0 (HT.sIx items.length 0 lo)++ys.toArray++xs.extract (max (HT.sIx items.length 0 lo) (HT.sIx items.length items.length hi)) xs.size)}):
  wpAny (model prog w) A (setItem (.ref l) (.ref sl) (.ref b)) Q E s:=by
 have hL:s.heap.IsList l items.toArray:=PySem.IsL.isList (n:=n) hl
 obtain⟨ob,hob,hbc,nb,hbd⟩:=id hb
 obtain⟨os,ed,fo,gc⟩:=id hs
 have hTs:s.TypeIs (.ref sl) "slice":=⟨os,ed,fo⟩
 unfold setItem
 try with_reducible refine wpAny_holding ?_
 first |refine wpAny_bind (wpAny_pure ?_) |skip
 refine wpAny_bind (wpAny_sequenceKey hL.typeIs (by decide) ?_)
 refine wpAny_bind (wpAny_callSpecial?_slot (name:=Str.ofString "__setitem__") hL.typeIs slot_list_setitem
  (wpAny_call_entry slot_list_setitem hL.typeIs entry_list_setitem ?_ (args_list_setitem _ _ _)))
 show wpAny _ _ (Builtin.List.listSubscript? (.ref sl) >>= _) _ _ s
 refine wpAny_bind ?_
 unfold Builtin.List.listSubscript?
 refine wpAny_bind (wpAny_specialOf hTs slice_no_index ?_)
 simp only[Option.isNone_none,if_true]
 refine wpAny_pure ?_
 show wpAny _ _ (typeOf (.ref sl) >>= _) _ _ s
 refine wpAny_bind (wpAny_typeOf hTs ?_)
 rw[if_neg (by decide)]
 rw[listSliceParts_eq]
 refine wpAny_bind (wpAny_bind (wpAny_field ed gc (x:=.none) rfl (wpAny_bind (wpAny_listPart .none ?_))))
 rw[if_neg (show ¬((rawPart none==rawInt 0)=true) from Bool.false_ne_true)]
 refine wpAny_bind (wpAny_field ed gc (x:=vl) rfl (wpAny_bind (wpAny_listPart pl ?_)))
 refine wpAny_bind (wpAny_field ed gc (x:=vu) rfl (wpAny_bind (wpAny_listPart pu (wpAny_pure ?_))))
 dsimp only
 rw[if_neg (by
  have:(l==b)=false:=by rw[beq_eq_false_iff_ne];exact aN
  simp[Builtin.List.listSameRef,this])]
 unfold Builtin.List.listAllItems
 refine wpAny_bind (wpAny_bind (wpAny_typeOf hb.typeIs ?_))
 rw[if_pos (by decide)]
 unfold Builtin.List.listItems
 refine wpAny_bind (wpAny_seqItems hob hbd (wpAny_pure ?_))
 refine wpAny_bind (wpAny_bind (wpAny_seqItems hl rfl (wpAny_pure ?_)))
 obtain⟨b1,b2,b3⟩:=Us lo hi items.length
 refine wpAny_bind (wpAny_of_eq ((sliceIndices_raw lo hi none items.toArray.size (by simp)).trans (congrArg (pure:Int×Int×Int->Sem (Int×Int×Int)) (show sliceBounds lo hi none items.toArray.size=(((HT.sIx items.length 0 lo:Nat):Int),((HT.sIx items.length items.length hi:Nat):Int),1) by rw[List.size_toArray];exact Prod.ext b1 (Prod.ext b2 b3)))) ?_)
 show wpAny _ _ (if((1:Int)==1)=true then _ else _) _ _ s
 rw[if_pos (by decide)]
 refine wpAny_bind (wpAny_rule ?_)
 have hsz:items.toArray.size+ys.toArray.size<=sizeLine:=by rw[List.size_toArray,List.size_toArray];exact hz
 first
  |simp only[UX hsz,Bool.false_eq_true,if_false]
  |refine PySem.W.KFB.if_not (UX hsz) ?_
 first |refine wpAny_bind (wpAny_pure ?_) |skip
 have hmax:(max ((HT.sIx items.length 0 lo:Nat):Int) ((HT.sIx items.length items.length hi:Nat):Int)).toNat=max (HT.sIx items.length 0 lo) (HT.sIx items.length items.length hi):=by omega
 show wpAny _ _ (updateSeq l (λxs=>xs.extract 0 (((HT.sIx items.length 0 lo:Nat):Int)).toNat++ys.toArray++xs.extract (max ((HT.sIx items.length 0 lo:Nat):Int) ((HT.sIx items.length items.length hi:Nat):Int)).toNat xs.size) >>= _) _ _ s
 rw[hmax,Int.toNat_natCast]
 refine wpAny_bind (wpAny_updateSeq (hz:=Nat.le_trans (Nat.le_add_right _ _) hsz) (_hz':=by
  simp only[Array.size_append,Array.size_extract,List.size_toArray]
  have:HT.sIx items.length 0 lo<=items.length:=HT.sIx_le _ _ (Nat.zero_le _) lo
  omega) hl rfl ?_)
 refine wpAny_bind (wpAny_letGo ?_)
 first
  |exact wpAny_bind (wpAny_pure (wpAny_pure ⟨.none,rfl,wpAny_pure h⟩))
  |exact wpAny_pure ⟨.none,rfl,wpAny_pure h⟩
end
def spl (xs:List M)(lo hi:Option Int)(ys:List M):List M:=xs.take (HT.sIx xs.length 0 lo)++ys++xs.drop (max (HT.sIx xs.length 0 lo) (HT.sIx xs.length xs.length hi))
section
variable {o:Expr}{lo hi:Option Expr}{p2:Pos}{to:TE}{tl th:TO}
def gSl (to:TE)(tl th:TO):TG:=λv U H Q=>to U H λx H1=>tl U H1 λl H2=>th U H2 λu H3=>∃ p xs b ys,x= .ref p/\v= .ref b/\H3 p=some (.lst xs)/\H3 b=some (.lst ys)/\p≠b/\xs.length+ys.length<=sizeLine/\Q U (upd H3 p (.lst (spl xs l u ys)))
def A1 (ho:PE X o to)(hl:PO X lo tl)(hu:PO X hi th)
  (ha:∀v,assign (.Subscript o (.Slice lo hi none p2) pos) X.env v=(do
   let ov ←holding [v] (eval o X.env)
   let iv ←holding [v,ov] (eval (.Slice lo hi none p2) X.env)
   standAt pos
   holding [v,ov,iv] (setItem ov iv v)
   release [iv,v,ov] []):=by intro _;rfl):PG X (.Subscript o (.Slice lo hi none p2) pos) (gSl to tl th):=by
 intro aa s U H v u Q I r h
 rw[ha]
 refine wpAny_bind (wpAny_holding (thn (ho aa s U H _ I h) λov s1 r9=>?_))
 obtain⟨x,H1,I1,r1,q1⟩:=r9
 refine wpAny_bind (wpAny_holding (wpAny_Slice (thn (hl aa s1 U H1 _ I1 q1) λvl s2 ⟨l,H2,I2,pl,q2⟩=>thn (hu aa s2 U H2 _ I2 q2) λvu s3 r9=>?_)))
 obtain⟨u',H3,I3,pu,q3⟩:=r9
 rw[evalPart_none]
 refine wpAny_pure ?_
 have I4:Inv X aa U H3 {s3 with heap:=s3.heap.push {cls:=.type "slice",data:=.fields #[vl,vu, .none]}}:=I3.kept (t':=s3.toks) λb ob q=>Heap.get?_push_of_some _ q
 obtain⟨p,xs,b,ys,rfl,rfl,e1,e2,aN,hz,q⟩:=q3
 cases r1
 cases r
 obtain⟨its,n,rv,g1,z1⟩:=I4.lst e1
 obtain⟨aC,n2,fK,g2,z2⟩:=I4.lst e2
 have l1:=rv.length
 have l2:=fK.length
 refine wpAny_bind (wpAny_standAt (wpAny_bind (wpAny_holding (Wu g1 (Heap.IsSliceOf.new ..) pl pu (PySem.IsL.isList (n:=n2) g2) aN (by omega) ?_))))
 refine wpAny_release ⟨U,_,?_,q⟩
 rw[←l1]
 refine I4.lset (t':=s3.toks) (its':=its.take (HT.sIx xs.length 0 l)++aC++its.drop (max (HT.sIx xs.length 0 l) (HT.sIx xs.length xs.length u'))) e1 g1 (Ix its aC _ _) ?_ ?_
 ·exact XX.append (XX.append (rv.take _) fK) (rv.drop _)
 ·unfold spl
  rw[List.length_append,List.length_append,List.length_take,List.length_drop]
  have:HT.sIx xs.length 0 l<=xs.length:=HT.sIx_le _ _ (Nat.zero_le _) l
  omega
end
section
variable {G:Hp}
def HN (H G:Hp):Hp:=λb=>match G b with
 |some o=>some o
 |none=>H b
def DF {o:HO}(h:G b=some o):HN H G b=some o:=by unfold HN;rw[h]
def VJ (h:G b=none):HN H G b=H b:=by unfold HN;rw[h]
def Inv.laidG {t':Nat}(I:Inv X aa U H s)(k:∀b u,s.heap.get? b=some u->h'.get? b=some u)(hp:∀a o,G a=some o->s.heap.objs.size<=a)(new:∀a o,G a=some o->YT X.prog X.w (HN H G) h' a o):
  Inv X aa U (HN H G) {s with heap:=h',toks:=t'}:=by
 have bK:∀b u,H b=some u->HN H G b=some u:=λb u e=>by
  cases hg:G b with
  |none=>rw[VJ hg];exact e
  |some o=>have:=I.hok.fresh (hp b o hg);rw[this] at e;cases e
 have oldN:∀b,b<s.heap.objs.size->HN H G b=H b:=λb hb=>by
  cases hg:G b with
  |none=>exact VJ hg
  |some o=>have:=hp b o hg;omega
 refine I.un ⟨λb u q _ _ _=>k b u q,λb u q _ _ _=>⟨u.slots,k b u q⟩,λb u q n _=>by rw[oldN b (Heap.lt_size q)];exact n,λb u q _=>⟨u,k b u q⟩,λb xs q=>bK b _ q,λb u xs q=>bK b _ q,λb ps q=>⟨#[],by rw[bK b _ q];simp⟩⟩ λb u e=>?_
 cases hg:G b with
 |some o=>rw[DF hg] at e;cases e;exact new b _ hg
 |none=>
  rw[VJ hg] at e
  exact(I.hok b u e).stay (λc v _ q=>k c v q) (λc q=>bK c _ q) λc xs q=>bK c _ q
def KG {R:M->L->Prop}:∀{xs:List M}{ys:List L},xs.length=ys.length->(∀(j:Nat) x y,xs[j]?=some x->ys[j]?=some y->R x y)->Paired R xs ys
 | [],[],_,_=>.nil
 | [],_::_,h,_=>by simp at h
 |_::_,[],h,_=>by simp at h
 |x::xs,y::ys,h,r=>.cons (r 0 x y rfl rfl) (KG (by simpa using h) λj a b ha hb=>r (j+1) a b (by simpa using ha) (by simpa using hb))
def Ic {R:M->L->Prop}{xs:List M}(h:Paired R xs ys):∀{p:M×L},p∈xs.zip ys->R p.1 p.2:=by
 induction h with
 |nil=>intro p hp;simp at hp
 |cons r _ ih=>
  intro p hp
  rw[List.zip_cons_cons] at hp
  rcases List.mem_cons.mp hp with z |z
  ·rw[z];exact r
  ·exact ih z
def GH {R:M->L->Prop}{as:List L}(hl:zs.length=bs.length)(hm:∀{p:M×L},p∈zs.zip bs↔p∈ys.zip as)(h:Paired R ys as):Paired R zs bs:=KG hl λj x y hx hy=>by
 have:(x,y)∈zs.zip bs:=by
  rw[List.mem_iff_getElem?]
  exact⟨j,by rw[List.getElem?_zip_eq_some];exact⟨hx,hy⟩⟩
 exact Ic h (hm.mp this)
def PJ (tl:TE)(K:W.Frag):TE:=λU H Q=>tl U H λx H1=>∃ l,∃d:QPs,x= .ref l/\H1 l=some (.dK (d.map λe=>(Sum.inl e.1,V.int e.2)))/\d.Nodup/\d.length<64/\
 ∀p H2 zs,Xp H1 H2->H1 p=none->H2 p=some (.lst zs)->Paired (rP2 Xf Xf K H2) zs (Zw ltP d)->Q (.ref p) H2
open Classical in
def Iq (as:List Addr)(d:QPs):Hp:=λb=>if h:∃j:Nat,as[j]?=some b then(d[Classical.choose h]?).map λe=>HO.tup [.int e.1, .int e.2] else none
def Tx {as:List Addr}{d:QPs}(hn:as.Nodup){e:Int×Int}(ha:as[j]?=some a)(he:d[j]?=some e):Iq as d a=some (.tup [.int e.1, .int e.2]):=by
 have h:∃j:Nat,as[j]?=some a:=⟨j,ha⟩
 unfold Iq
 rw[dif_pos h]
 have hs:=Classical.choose_spec h
 have:Classical.choose h=j:=by
  obtain⟨h1,e1⟩:=List.getElem?_eq_some_iff.mp hs
  obtain⟨h2,e2⟩:=List.getElem?_eq_some_iff.mp ha
  exact(List.getElem_inj hn).mp (e1.trans e2.symm)
 rw[this,he]
 rfl
def Fy {as:List Addr}{d:QPs}{o:HO}(h:Iq as d a=some o):∃(j:Nat) (e:Int×Int),as[j]?=some a/\d[j]?=some e/\o= .tup [.int e.1, .int e.2]:=by
 unfold Iq at h
 split at h
 ·rename_i hx
  have hs:=Classical.choose_spec hx
  obtain⟨e,he,rfl⟩:=Option.map_eq_some_iff.mp h
  exact⟨_,e,hs,he,rfl⟩
 ·cases h
def KV.dget {d:QPs}:∀{vs:List (Key×Value)},KV (d.map λe=>(Sum.inl e.1,V.int e.2)) vs->∀{j:Nat}{k:Key}{x:Value},vs[j]?=some (k,x)->∃e,d[j]?=some e/\k=Sum.inl e.1/\XW (.int e.2) x:=by
 induction d with
 |nil=>intro vs h j k x e;cases h;simp at e
 |cons c d ih=>
  intro vs h j k x e
  cases h with
  |cons r t=>
   cases j with
   |zero=>
    have e:=Option.some.inj e
    subst e
    exact⟨c,rfl,r.1.symm,r.2⟩
   |succ j=>exact ih t (by simpa using e)
end
section
variable {l:Expr}{tl:TE}{npos aB am:Pos}
theorem Dy (hc:X.calm=true)(hg:Gl X "sorted")(hm:X.mg "sorted" =none)(hl:PE X l tl)(hu:X.A.units+4<cLine)
  (bE:attributeBase l "items" X.env (eval l X.env)=eval l X.env:=by rfl)(bF:(aB.endLine==am.line)=true:=by rfl)
  (he:starEach [.Call (.Attribute l "items" aB) [] [] am] X.env=(false,eval (.Call (.Attribute l "items" aB) [] [] am) X.env)::starEach [] X.env:=by rfl)(hpl:(backTo pos (starEach [] X.env)).any (·.1)=false:=by rfl):
  PE X (.Call (.Name "sorted" npos) [.Call (.Attribute l "items" aB) [] [] am] [] pos) (PJ tl X.K):=by
 intro aa s U H Q I h
 refine wpAny_Call_Name_kw (Ju I hg hm boot_sorted ?_ (by decide) (by decide))
 refine callWith_builtin1 ?_ he hpl
 rw[he]
 show wpAny _ _ (spliced ((false,eval (.Call (.Attribute l "items" aB) [] [] am) X.env)::backTo pos (starEach [] X.env))) _ _ s
 refine Calls.spliced_cons ?_
 refine wpAny_Call_method0_late bE bF (thn (hl aa s U H _ I h) λv s1 r9=>?_)
 obtain⟨x,H1,I1,r1,q1⟩:=r9
 obtain⟨a,d,rfl,hd,cX,fu,q⟩:=q1
 cases r1
 obtain⟨hz,hs,vs,cg,hm⟩:=(show YT X.prog X.w H1 s1.heap a (.dK (d.map λe=>(Sum.inl e.1,V.int e.2))) from I1.hok a _ hd)
 refine⟨"dict","dict.items",F.plainAttrs_dict,F.slot_dict_items,F.type_dict_items,hm.typeIs,hm.mapOf.noDict,?_⟩
 refine method_meetsIn F.slot_dict_items F.entry_dict_items rfl (PySem.evalArgs_none ⟨rfl,hm.typeIs,F.args_dict_items_1 _,_,meets_dict_items (Yu X.prog X.w) a hs,⟨vs,hm⟩,?_⟩)
 obtain⟨ep,hat⟩:∃ep,s1.heap.DictAt (Yu X.prog X.w) a vs ep:=by
  obtain⟨o,es,ep,g1,g2,g3,g4⟩:=hm
  exact⟨ep,o,es,g1,g2,g3,g4⟩
 have hvw:(s1.heap.push {cls:=.type "dict_items",data:=.fields #[.ref a]}).IsItemsView s1.heap.objs.size a:=⟨_,Heap.get?_push_size _ rfl,rfl,rfl⟩
 refine wpAny_pure ?_
 have hl:=cg.length
 rw[List.length_map] at hl
 refine Calls.call_function_entry kind_sorted plain_sorted entry_sorted (args_sorted1 _) ?_
 unfold Builtin.«sorted»
 refine wpAny_bind (m:=checkCount "sorted" 1 1 _) (wpAny_pure (wpAny_bind (PySem.W.kdx_collect (A:=X.A.in1) (knd:=Yu X.prog X.w) (kvs:=vs) (ep:=ep) (I.ok.hd hc) hvw (hat.push _) (by rw[←hl,sizeLine_eq];omega) λh' tk as hk hla hG=>?_)))
 have hnA:as.Nodup:=hG.rise.imp λh=>Nat.ne_of_lt h
 have eZ:∀(j:Nat) (b:Addr),as[j]?=some b->∃e,d[j]?=some e/\Iq as d b=some (.tup [.int e.1, .int e.2])/\∃its:List Value,XX [.int e.1, .int e.2] its/\UF h' b its.toArray:=λj b hb=>by
  obtain⟨bw,k,x,e1,e2,e3⟩:=hG.pairs j b hb
  obtain⟨e,he,rfl,rx⟩:=cg.dget e1
  exact⟨e,he,Tx hnA hb he,[bw,x], .cons (LI (show Ge (Sum.inl e.1) bw=true from e2)) (.cons rx .nil),⟨_,e3,⟨rfl,rfl⟩,_,rfl⟩⟩
 have I2:Inv X aa U (HN H1 (Iq as d)) {s1 with heap:=h',toks:=tk}:=I1.laidG (λb u e=>hk b u (Heap.get?_push_of_some _ e)) (λb o e=>by
  obtain⟨j,_,hb,_⟩:=Fy e
  have this:(s1.heap.push {cls:=.type "dict_items",data:=.fields #[.ref a]}).objs.size<b:=hG.above b (List.mem_of_getElem? hb)
  rw[Heap.size_push] at this
  omega) λb o e=>by
   obtain⟨j,e0,hb,he,rfl⟩:=Fy e
   obtain⟨e1,he1,_,its,v1,v2⟩:=eZ j b hb
   rw[he] at he1
   cases he1
   exact⟨by show 2<=sizeLine;decide,its,v1,v2⟩
 have gQ:Paired (rP2 Xf Xf X.K (HN H1 (Iq as d))) (as.map V.ref) d:=KG (by rw[List.length_map,hla, ←hl]) λj y b hy hb=>by
  rw[List.getElem?_map] at hy
  obtain⟨c,eI,rfl⟩:=Option.map_eq_some_iff.mp hy
  obtain⟨e,he,ht,_⟩:=eZ j c eI
  rw[hb] at he
  cases he
  exact⟨c,_,_,rfl,DF ht,rfl,rfl⟩
 have hvv:∀l:List Addr,XX (l.map V.ref) (l.map Value.ref):=λl=>by
  induction l with
  |nil=>exact .nil
  |cons a l ih=>exact .cons rfl ih
 have gk:Xp H1 (HN H1 (Iq as d)):=λb o e=>by
  cases hg:Iq as d b with
  |none=>rw[VJ hg];exact e
  |some u=>
   obtain⟨j,_,hb,_⟩:=Fy hg
   have this:(s1.heap.push {cls:=.type "dict_items",data:=.fields #[.ref a]}).objs.size<b:=hG.above b (List.mem_of_getElem? hb)
   rw[Heap.size_push] at this
   have:=I1.hok.fresh (a:=b) (by omega)
   rw[this] at e;cases e
 refine wpAny_mono (Hq (0,0) (A:=X.A.in1) I2 (hvv as) gQ cX fu Dd (c:=1) (by rw[Zu];omega) qX (R:=λp s'=>EP X aa U Q (.ref p) s') λzs s' I' hf dU iA=>⟨.ref _,_,I',rfl,?_⟩) (λfin s' ⟨p,e,r⟩=>?_) λ_ _ x=>x
 ·have fm:Xp (HN H1 (Iq as d)) (upd (HN H1 (Iq as d)) h'.objs.size (.lst zs)):=λb o e=>by rw[XH (XR e hf)];exact e
  refine q _ _ zs (gk.trans fm) ?_ Ym ?_
  ·cases e:H1 h'.objs.size with
   |none=>rfl
   |some o=>have:=gk _ _ e;rw[hf] at this;cases this
  ·exact GH (by rw[iA,(YE ltP d).length_eq]) (dU.mem_iff) (Paired.imp2 (λ_ _ z=>MonoE.mono fm z) gQ)
 ·subst e
  exact⟨_,rfl,r⟩
end
section
def Do (K:W.Frag)(hK:X.K=K)(hc:X.calm=true):Qv X (.builtin "min") (N9 K OV):=by
 subst hK
 intro aa s U H xs us Q I r h
 obtain⟨a,ns,rfl,hq,aN,q⟩:=h
 obtain⟨u,rfl,ru⟩:=Uh r
 cases ru
 obtain⟨its,rv,pl,hz⟩:=I.tuple hq
 have ae:its.length=ns.length:=by have:=rv.length;simpa using this.symm
 have ah:a<s.heap.objs.size:=by obtain⟨o,ho,_⟩:=pl;exact Heap.lt_size ho
 refine call_min_walk (wpAny_pyIter_tuple pl ?_)
 refine⟨s.heap.objs.size,_,_,_,_,_,_,rfl,Walks.tuple (prog:=X.prog) (w:=X.w) (A:=X.A.in1) (I.ok.hd hc) s.heap.objs.size a (Nat.ne_of_lt ah) its.toArray,⟨⟨_,Heap.get?_push_size _ rfl,rfl,rfl⟩,(show s.heap.IsTuple a its.toArray from pl).at λo e=>Heap.get?_push_of_some _ e⟩,λb hb=>?_,by rw[List.size_toArray,ae];exact aN,CmpOf.ints_lt (λi=>ns.getD i 0) (Ul rv),λv h' tk hP hk=>?_⟩
 ·rcases List.mem_cons.mp hb with e |hb
  ·rw[e,Heap.size_push];exact Nat.lt_succ_self _
  ·rw[List.mem_singleton.mp hb,Heap.size_push];exact Nat.lt_succ_of_lt ah
 ·have I2:Inv X aa U H {s with heap:=h',toks:=tk}:=I.kept (t':=tk) λb o e=>hk b o (λhm=>by
   rw[List.mem_singleton.mp hm] at e
   exact absurd (Heap.lt_size e) (Nat.lt_irrefl _)) (Heap.get?_push_of_some _ e)
  obtain⟨t,rfl⟩:=Ul rv _ _ hP
  refine⟨.int (OV ns),H,I2,⟨t,?_⟩,q⟩
  rw[List.size_toArray,ae,E5 ns (ns.length-1) (by omega),show ns.length-1+1=ns.length by omega,List.take_length]
end
inductive Mx where
 |i (n:Int) |s (x:Str) |b (v:Bool)
 deriving DecidableEq
def Mx.v:Mx->V
 | .i n=>.int n
 | .s x=>.str x
 | .b v=>.bl v
def rMx:Enc Mx:=λ_ _ v m=>v=m.v
instance:FlatE rMx:=⟨λ_ h=>h⟩
def mxI:Mx->Rs Int
 | .i n=>.ok n
 |_=>.bad
def mxS:Mx->Rs Str
 | .s x=>.ok x
 |_=>.bad
def mxB:Mx->Rs Bool
 | .b v=>.ok v
 |_=>.bad
def mx2:List Mx->Rs (Int×Int)
 | [.i a, .i b]=>.ok (a,b)
 |_=>.bad
section
variable {OO3:List (List XD)}{u:TS}
def KL {te:TE}{m:Rs Mx}(he:EvB K Er S OO U te rMx m):EvB K Er S OO U te Xf (m.bind mxI):=λH Q w s P=>by
 refine he H Q w s ?_
 cases m with
 |bad=>exact P
 |err x=>exact P
 |ok a=>cases a with
  |i n=>exact λv H' s' ho=>P v H' s' ho
  |s x=>exact P.elim
  |b x=>exact P.elim
def RA {te:TE}{m:Rs Mx}(he:EvB K Er S OO U te rMx m):EvB K Er S OO U te Hm (m.bind mxS):=λH Q w s P=>by
 refine he H Q w s ?_
 cases m with
 |bad=>exact P
 |err x=>exact P
 |ok a=>cases a with
  |i n=>exact P.elim
  |s x=>exact λv H' s' ho=>P v H' s' ho
  |b x=>exact P.elim
def SV {te:TE}{m:Rs Mx}(he:EvB K Er S OO U te rMx m):EvB K Er S OO U te XI (m.bind mxB):=λH Q w s P=>by
 refine he H Q w s ?_
 cases m with
 |bad=>exact P
 |err x=>exact P
 |ok a=>cases a with
  |i n=>exact P.elim
  |s x=>exact P.elim
  |b x=>exact λv H' s' ho=>P v H' s' ho
def Kj {te:TE}{m:Rs (List Mx)}(he:EvB K Er S OO U te (rPL rMx) m):EvB K Er S OO U te (rP2 Xf Xf) (m.bind mx2):=λH Q w s P=>by
 refine he H Q w s ?_
 cases m with
 |bad=>exact P
 |err x=>exact P
 |ok l=>
  match l,P with
  | [.i a, .i b],P=>
   rintro v H' s' ⟨p,xs,e,h,pr⟩
   cases pr with
   |cons r1 t=>cases t with
    |cons r2 t=>cases t with
     |nil=>exact P v H' s' ⟨p,_,_,e,h,r1,r2⟩
  | [],P=>exact P.elim
  | [_],P=>exact(show False by revert P;rename_i x;cases x<;> exact id).elim
  | .i _:: .s _::_,P=>exact P.elim
  | .i _:: .b _::_,P=>exact P.elim
  | .i _:: .i _::_::_,P=>exact P.elim
  | .s _::_::_,P=>exact P.elim
  | .b _::_::_,P=>exact P.elim
def Ra {te:TE}{m:Rs Int}(he:EvS K Er S OO U te Xf m):EvS K Er S OO U te rMx (m.bind λa=>.ok (.i a)):=λH Q w s P=>by
 refine he H Q w s ?_
 cases m with
 |bad=>exact P
 |err x=>exact P
 |ok a=>exact P
def TB {te:TE}{m:Rs Str}(he:EvS K Er S OO U te Hm m):EvS K Er S OO U te rMx (m.bind λa=>.ok (.s a)):=λH Q w s P=>by
 refine he H Q w s ?_
 cases m with
 |bad=>exact P
 |err x=>exact P
 |ok a=>exact P
def Rb {te:TE}{m:Rs Bool}(he:EvS K Er S OO U te XI m):EvS K Er S OO U te rMx (m.bind λa=>.ok (.b a)):=λH Q w s P=>by
 refine he H Q w s ?_
 cases m with
 |bad=>exact P
 |err x=>exact P
 |ok a=>exact P
def qz {H:Hp}{xs:List V}{l:List Int}(pr:Paired (Xf K H) xs l):Paired (rMx K H) xs (l.map Mx.i):=by
 induction pr with
 |nil=>exact .nil
 |cons r _ ih=>exact .cons r ih
def Fu {m:Rs (List Int)}(he:EvB K Er S OO U te (rPL Xf) m):EvB K Er S OO U te (rPL rMx) (m.bind λl=>.ok (l.map Mx.i)):=λH Q w s P=>by
 refine he H Q w s ?_
 cases m with
 |bad=>exact P
 |err x=>exact P
 |ok l=>
  rintro v H' s' ⟨p,xs,e,h,pr⟩
  exact P v H' s' ⟨p,xs,e,h,qz pr⟩
def NA {ma:Rs QPs}(ha:EvL K Er S OO U ta (rP2 Xf Xf) ma):Ev K Er S OO OO U (tCB (Pa K) (Xk ta YD)) (oL (oF (rP2 Xf Xf))) (ma.bind λas=>chk (as.length<64/\as.Nodup) (.ok (Zw ltP as))):=λH Q w s P=>
 ha.run w s FO.tr P λas x H1 s1 w1 q1 ⟨p,xs,e,q,pr⟩ P1=>by
  obtain⟨⟨hl,hn⟩,P2⟩:=PZ.chk P1
  have eC:Paired (rP2 Xf Xf K H1) xs as:=Paired.imp2 (λ_ _ h=>MonoE.mono Xv h) pr
  refine⟨p,xs,as,by rw[e],SqL.of q,eC,hn,hl,λp2 zs cW dU ae=>?_⟩
  exact Lm w1 (Paired.imp2 (λ_ _ h=>FlatE.flat w1.i h) (GH (by rw[ae,(YE ltP as).length_eq]) dU.mem_iff eC)) P2 p2 cW
def NB {d:QPs}(pr:Paired (rDP Xf K H) kvs d):kvs=d.map λe=>(Sum.inl e.1,V.int e.2):=by
 induction pr with
 |nil=>rfl
 |cons r _ ih=>rw[List.map_cons, ←ih];exact congrArg (· ::_) (Prod.ext r.1 r.2)
def Nu {ma:Rs QPs}(ha:EvB K Er S OO U ta (rD Xf) ma):Ev K Er S OO OO U (PJ ta K) (oL (oF (rP2 Xf Xf))) (ma.bind λd=>chk (d.length<64/\d.Nodup) (.ok (Zw ltP d))):=λH Q w s P=>
 ha.run w s FO.tr P λd x H1 s1 w1 q1 ⟨p,kvs,e,q,pr⟩ P1=>by
  obtain⟨⟨hl,hn⟩,P2⟩:=PZ.chk P1
  have PF:FO K OO OO (oL (oF (rP2 Xf Xf))) Q (Zw ltP d) H1:=P2
  rw[NB pr] at q
  refine⟨p,d,e,q,hn,hl,λp2 H2 zs hs hp hz gQ=>?_⟩
  have w2:W ([(p2, .lst zs)]::OO) H2:=by
   refine⟨λc hc=>?_,?_,λc hc=>?_⟩
   ·rw[List.flatten_cons,List.mem_append] at hc
    rcases hc with hc |hc
    ·rw[List.mem_singleton] at hc;subst hc;exact hz
    ·exact hs _ _ (w1.tr c hc)
   ·rw[XG]
    exact List.nodup_cons.mpr ⟨w1.fresh hp,w1.nd⟩
   ·rw[List.flatten_cons,List.mem_append] at hc
    rcases hc with hc |hc
    ·rw[List.mem_singleton] at hc;subst hc;rfl
    ·exact w1.mu c hc
  refine PF (.ref p2) [(p2, .lst zs)] H2 hs w2 (λb o q=>?_) ⟨p2,zs,_,rfl,(L2.P3.of (Paired.imp2 (λ_ _ h=>FlatE.flat w2.i h) gQ)).imp λ_ _ _ h=>h,by rw[Yi]⟩
  obtain⟨q1,q2⟩:=XU q
  refine YS (hs _ _ q1) ?_
  rw[XG]
  exact λz=>(List.mem_cons.mp z).elim (λz=>XR q1 hp z) q2
def Df {ma:Rs (List Int)}(ha:EvB K Er S OO U ta (rPL Xf) ma):EvB K Er S OO U (tCB (N9 K OV) (Xk ta YD)) Xf (ma.bind qR):=λH Q w s P=>
 ha.run w s FB.tr P λa x H1 s1 w1 q1 ⟨p,xs,e,q,pr⟩ P1=>by
  obtain⟨h1,P1⟩:=PZ.chk P1
  exact⟨p,a,by rw[e],SqT.of (by rw[←EM pr];exact q),h1,P1 _ H1 (Xp.refl _) rfl⟩
end
section
variable {OO3:List (List XD)}{u:TS}
variable [fd:FdOk Fd]
def EvP.st {m:Rs (Option Int)}(he:EvP Er S OO U t m){Q:Option Int->Hp->Prop}(w:W OO H)(s:S.p (hid H OO)){f:Option Int->Rs L}(P:PZ Er (Fd D) (hid H OO) (m.bind f))
  (hk:∀a H',Xp H H'->W OO H'->S.p (hid H' OO)->PZ Er (Fd D) (hid H' OO) (f a)->Q a H'):t U H Q:=by
 refine he H Q w s ?_
 cases m with
 |bad=>exact P
 |err x=>exact λH' s'=>P H' (Xv.trans s')
 |ok a=>exact λH' s'=>hk a H' s' (w.keep s') (S.mono _ _ (Xh s') s) (PZ.tr (fd.tr D) (Xh s') P)
def qT {a:List M}{b d:List L}(h:Paired F a b)(k:Paired F c d):Paired F (a++c) (b++d):=by
 induction h with
 |nil=>exact k
 |cons r _ ih=>exact .cons r ih
def HR {xs:List M}{as:List L}(h:Paired F xs as)(k:Paired F ys bs)(lo hi:Option Int):Paired F (spl xs lo hi ys) (spl as lo hi bs):=by
 unfold spl
 rw[Paired.len h]
 exact qT (qT (Paired.take' _ h) k) (Paired.drop' _ h)
def NR {m:Rs (List Int)}{f:List Int->Rs L}{as:List Int}(i k:Nat)(hσ:U[i]?=some (some v))(ci:OO'[k]?=some C)(h:∀x,S.p x->oL (oF Xf) K x v as C)(he:Ev K Er S OO OO' U te (oL (oF Xf)) m)(hl:∀D,EvP Er S (D::OO') U tl ml)(hh:∀D,EvP Er S (D::OO') U th mh)
  (hr:∀bs C',Sv Er (S.addO K (oL (oF Xf)) v bs C') (OO'.set k C') U u Fd (f bs)):Sv Er S OO U (Zf (DW te (gSl (JP i) tl th)) u) Fd (m.bind λbs=>ml.bind λlo=>mh.bind λhi=>chk (as.length+bs.length<=sizeLine) (f (spl as lo hi bs))):=λH D w s P=>
 he.st w s P λbs y D' H1 w1 s1 ho P1=>⟨v,hσ,(hl D').st w1 s1 P1 λlo H2 s2 w2 q2 P2=>(hh D').st w2 q2 P2 λhi H3 s3 w3 q3 aD=>by
  obtain⟨hsz,aD⟩:=PZ.chk aD
  obtain⟨p,xs,Cs,e,q,c⟩:=h _ q3
  obtain⟨pr,cf⟩:=P3.flat q
  rw[cf] at c
  subst c
  have ho3:oL (oF Xf) K (hid H3 (D'::OO')) y bs D':=MonoO.mono ((Xh s2).trans (Xh s3)) ho
  obtain⟨b,ys,Cs',e',q',c'⟩:=ho3
  obtain⟨eC,cf'⟩:=P3.flat q'
  rw[cf'] at c'
  subst c'
  have hp:H3 p=some (.lst xs):=w3.tr (p, .lst xs) (by rw[List.flatten_cons];exact List.mem_append_right _ (List.mem_flatten.mpr ⟨_,List.mem_of_getElem? ci,List.mem_cons_self⟩))
  have hb:H3 b=some (.lst ys):=w3.tr (b, .lst ys) (by simp)
  have aN:p≠b:=λz=>by
   have nd:=w3.nd
   rw[XG] at nd
   have bq:p∈fl OO':=UE (c:=(p, .lst xs)) (List.mem_flatten.mpr ⟨_,List.mem_of_getElem? ci,List.mem_cons_self⟩)
   exact(List.nodup_append.mp nd).2.2 b (by simp) p bq z.symm
  obtain⟨w4,m4⟩:=Im (D:=[(b, .lst ys)]) (C':=[(p, .lst (spl xs lo hi ys))]) (p:=p) (o:=.lst (spl xs lo hi ys)) w3 ci (by simp) (by simp) (by simp) (λz hz=>by
   have:z=p:=by simpa using hz
   subst this;simp) (λc hc=>by
   have:c=(p, .lst (spl xs lo hi ys)):=by simpa using hc
   rw[this];exact Ym) (λc hc=>by
   have:c=(p, .lst (spl xs lo hi ys)):=by simpa using hc
   rw[this];rfl)
  have l1:=Paired.len pr
  have l2:=Paired.len eC
  refine⟨p,xs,b,ys,e,e',hp,hb,aN,by omega,hr (spl as lo hi bs) _ _ D w4 ⟨S.mono _ _ m4 q3,?_⟩ (PZ.tr (fd.tr D) m4 aD)⟩
  exact⟨p,_,_,e,(P3.of (HR (F:=Xf K _) (Paired.imp2 (λ_ _ h=>h) pr) (Paired.imp2 (λ_ _ h=>h) eC) lo hi)).imp λ_ _ _ h=>h,by rw[Yi]⟩⟩
def Ff (d:List (Int×M))(k:Int):List (Int×M):=d.filter λe=>decide (e.1≠k)
def Ea {k:Int}{d:List (Int×M)}(h:Paired (rDP r K H) kvs d):Paired (rDP r K H) (KE kvs (.inl k)) (Ff d k):=by
 unfold KE Ff
 induction h with
 |nil=>exact .nil
 | @cons a b l m r0 _ ih=>
  rw[List.filter_cons,List.filter_cons]
  by_cases c:b.1=k
  ·rw[if_neg (by rw[r0.1,c];simp),if_neg (by rw[c];simp)];exact ih
  ·rw[if_pos (by rw[r0.1];simpa using c),if_pos (by simpa using c)];exact .cons r0 ih
def Br [z:MonoE r]{f:List (Int×M)->Rs L}{d:List (Int×M)}(i k:Nat)(hσ:U[i]?=some (some v))(hk:OO[k]?=some C)(h:∀x,S.p x->oD r K x v d C)(hy:EvB K Er S OO U ty Xf mk)
  (hr:∀d' C',Sv Er (S.addO K (oD r) v d' C') (OO.set k C') U u Fd (f d')):Sv Er S OO U (Zf (Gh (Pn (JP i) ty)) u) Fd (mk.bind λn=>chk ((Jc d n).isSome=true) (f (Ff d n))):=λH D w s P=>by
 obtain⟨p,kvs,e,pr,c⟩:=h _ s
 subst c e
 have hH:H p=some (.dK kvs):=w.tr (p, .dK kvs) (List.mem_flatten.mpr ⟨_,List.mem_of_getElem? hk,by simp⟩)
 refine⟨_,hσ,p,rfl, .inl ⟨kvs, .inl hH⟩,hy.st w s P λn vn H2 s2 w2 q2 r2 P2=>?_⟩
 obtain⟨jZ,P2⟩:=PZ.chk P2
 have gJ:H2 p=some (.dK kvs):=s2 _ _ hH
 have cZ:Paired (rDP r K (hid H2 OO)) kvs d:=Paired.imp2 (λ_ _ h=>⟨h.1,z.mono (Xh s2) h.2⟩) pr
 obtain⟨a,ha⟩:=Option.isSome_iff_exists.mp jZ
 obtain⟨va,hva,_⟩:=(QT (k:=n) cZ).1 a ha
 obtain⟨w3,m3⟩:=Im (D:=[]) (C':=[(p, .dK (KE kvs (.inl n)))]) (p:=p) (o:=.dK (KE kvs (.inl n))) w2.nil hk (by simp) (by simp) (by simp) (λb hb=>by simpa using hb) (λc hc=>by
  have:c=(p, .dK (KE kvs (.inl n))):=by simpa using hc
  rw[this];exact Ym) (λc hc=>by
  have:c=(p, .dK (KE kvs (.inl n))):=by simpa using hc
  rw[this];rfl)
 rw[YK] at m3
 exact⟨kvs, .inl n,va,gJ,r2,hva,hr _ _ _ D w3 ⟨S.mono _ _ m3 q2,⟨p,_,rfl,Paired.imp2 (λ_ _ h=>⟨h.1,z.mono m3 h.2⟩) (Ea cZ),rfl⟩⟩ (PZ.tr (fd.tr D) m3 P2)⟩
def DK [z:MonoE r](he:EvL K Er S OO U te r m)(hs:EvB K Er S OO U ts Xf ms):Ev K Er S OO OO U (qY K te ts) (oL (oF r)) (m.bind λas=>ms.bind λk=>chk (k= -1) (.ok as.reverse)):=λH Q w s P=>
 he.run w s FO.tr P λas x H1 s1 w1 q1 ⟨p,xs,e,q,pr⟩ P1=>hs.run w1 q1 FO.tr P1 λk y H2 s2 w2 q2 r2 P2=>by
  obtain⟨hn,P3⟩:=PZ.chk P2
  exact⟨by rw[show y= .int k from r2,hn],p,xs,e,SqL.of (s2 _ _ q),Lm w2 (L2.Paired.rev' (Paired.imp2 (λ_ _ h=>z.mono (Xh s2) h) pr)) P3⟩
def FFu (K:W.Frag)(q:OE B)(v1:V)(Q:VK)(x:B)(h:Hp):Prop:=∀ C' H',W [C'] H'->Xp h (hid H' [C'])->q K (hid H' [C']) v1 x C'->Q .non H'
def qF (q:OE B)(r2:Enc α2)(r3:Enc α3)(f:B->α2->α3->Rs B)(K:W.Frag):Sp:=λvs H Q _=>∃ v1 v2 v3 a1 a2 a3 b,vs=[v1,v2,v3]/\∃C,W [C] H/\q K (hid H [C]) v1 a1 C/\r2 K (hid H [C]) v2 a2/\r3 K (hid H [C]) v3 a3/\f a1 a2 a3= .ok b/\FFu K q v1 Q b (hid H [C])
def jh (q:OE B)(r2:Enc α2)(r3:Enc α3)(r4:Enc α4)(r5:Enc α5)(f:B->α2->α3->α4->α5->Rs B)(K:W.Frag):Sp:=λvs H Q _=>∃ v1 v2 v3 v4 v5 a1 a2 a3 a4 a5 b,vs=[v1,v2,v3,v4,v5]/\∃C,W [C] H/\q K (hid H [C]) v1 a1 C/\r2 K (hid H [C]) v2 a2/\r3 K (hid H [C]) v3 a3/\r4 K (hid H [C]) v4 a4/\r5 K (hid H [C]) v5 a5/\f a1 a2 a3 a4 a5= .ok b/\FFu K q v1 Q b (hid H [C])
def FNu (K:W.Frag)(q:OE B)(v1:V)(D:Ends)(x:B)(h:Hp):Prop:=∀ C' OO' U' H',W (C'::OO') H'->Xp h (hid H' (C'::OO'))->q K (hid H' (C'::OO')) v1 x C'->D.nx U' H'
instance {q:OE B}{v1:V}:FdOk (FNu K q v1):=⟨λD b h h' s q C O U H' w m x=>q C O U H' w (s.trans m) x⟩
def LY {q:OE B}{a:B}(k:Nat)(hk:OO[k]?=some C)(hf:∀x,S.p x->q K x v1 a C):Sv Er S OO U Bb (FNu K q v1) (.ok a):=λH D w s P=>by
 have hp:=XN hk
 have P:FNu K q v1 D a (hid H OO):=P
 exact P C (OO.set k []) U H (w.of hp) (by rw[XE hp];exact Xp.refl _) (by rw[XE hp];exact hf _ s)
def ME {q:OE B}[zq:MonoO q]{m:Rs B}{Q:VK}{b:B}(n k:Nat)(gj:k<n)(h:Sv (λ_ _=>False) S ((List.replicate n []).set k C) U t (FNu K q v1) m)(w:W [C] H)(hs:S.p (hid H [C]))(hm:m= .ok b)(qf:FFu K q v1 Q b (hid H [C]))(hD:∀U H,D.nx U H=Q .non H):t D U H:=by
 have pe:((List.replicate n []).set k C).flatten.Perm [C].flatten:=by
  have h1:=XN (OO:=(List.replicate n []).set k C) (k:=k) (C:=C) (by simp[gj])
  have e:((List.replicate n ([]:List XD)).set k C).set k []=List.replicate n []:=by
   rw[List.set_set]
   apply List.ext_getElem?
   intro m
   by_cases hm:m=k
   ·subst hm;simp[gj]
   ·rw[List.getElem?_set_ne (λe=>hm e.symm)]
  rw[e,List.flatten_cons,Yi] at h1
  simpa using h1.symm
 refine h H D (w.of pe) (by rw[XE pe];exact hs) ?_
 subst hm
 rw[XE pe]
 intro C' OO' U' H' w' m' h1
 rw[hD]
 have aq:Xp (hid H' (C'::OO')) (hid H' [C']):=Zk (Xp.refl _) λb hb=>by
  rw[XG]
  refine List.mem_append_left _ ?_
  simpa[fl] using hb
 exact qf C' H' (w'.sub (by simp)) (m'.trans aq) (zq.mono aq h1)
def Og (w:W OO H)(hk:OO[k]?=some Cy):W [Cy] H/\Xp (hid H OO) (hid H [Cy])/\W (OO.set k []) (hid H [Cy])/\(∀b,b∈fl (OO.set k [])->b∈fl OO):=by
 have hp:=XN hk
 have wk:W (Cy::OO.set k []) H:=w.of hp
 refine⟨wk.sub (by simp),?_,⟨λcc hc=>YS (wk.tail.tr cc hc) (λz=>by
   have nd:=wk.nd
   rw[XG] at nd
   exact(List.nodup_append.mp nd).2.2 cc.1 (by simpa[fl] using z) cc.1 (UE hc) rfl),wk.tail.nd,wk.tail.mu⟩,λb hb=>by
   rw[←Uo hp,XG]
   exact List.mem_append_right _ hb⟩
 rw[←XE hp]
 exact Zk (Xp.refl _) λb hb=>by
  rw[XG]
  refine List.mem_append_left _ ?_
  simpa[fl] using hb
def T1 (w:W OO H)(hk:OO[k]?=some Cy)(w':W [C'] H')(m':Xp (hid H [Cy]) (hid H' [C'])):W (OO.set k C') H'/\Xp (hid H OO) (hid H' (OO.set k C'))/\BN (hid H' [C']) (hid H' (C'::OO.set k []))/\Xp (hid H' (C'::OO.set k [])) (hid H' (OO.set k C')):=by
 obtain⟨_,m0,wo,bq⟩:=Og w hk
 have gN:k<OO.length:=(List.getElem?_eq_some_iff.mp hk).1
 obtain⟨w4,n4,i4⟩:=Tf wo w' m'
 have nn:Xp (hid H OO) (hid H' (C'::OO.set k [])):=by
  refine Xp.trans (λbb uu hb=>?_) n4
  obtain⟨b1,b2⟩:=XU hb
  exact YS (m0 _ _ hb) λz=>b2 (bq _ z)
 obtain⟨w6,m6⟩:=qy (k:=k) w4 (by rw[List.length_set];exact gN)
 rw[List.set_set] at w6 m6
 exact⟨w6,nn.trans m6,i4,m6⟩
def CD [z2:MonoE r2][z3:MonoE r3]{q:OE B}[zq:FlatO q][mq:MonoO q]{f:B->α2->α3->Rs B}(i k:Nat)(hσ:U[i]?=some (some vy))(hk:OO[k]?=some Cy)(h:∀x,S.p x->q K x vy ay Cy)
  (h2:EvS K Er S OO U t2 r2 m2)(h3:EvS K Er S OO U t3 r3 m3)(hr:∀b C',Sv Er (S.addO K q vy b C') (OO.set k C') U u Fd (g b)):
  Sv Er S OO U (Zf (Gh (Jd (qF q r2 r3 f K) [] E0 (Xk (JP i) (Xk t2 (Xk t3 YD))))) u) Fd (m2.bind λb=>m3.bind λc=>(noE (f ay b c)).bind g):=λH D w s P=>
 ⟨vy,hσ,h2.st w s P λb z H2 s2 w2 q2 e2 P2=>h3.st w2 q2 P2 λc y H3 s3 w3 q3 e3 P3=>by
  cases en:f ay b c with
  |bad=>rw[en] at P3;exact P3.elim
  |err ex=>rw[en] at P3;exact P3.elim
  |ok r=>
   rw[en] at P3
   have P3:PZ Er (Fd D) (hid H3 OO) (g r):=P3
   obtain⟨wl,m0,_,_⟩:=Og w3 hk
   refine⟨vy,z,y,ay,b,c,r,rfl,Cy,wl,mq.mono m0 (h _ q3),z2.mono ((Xh s3).trans m0) e2,z3.mono m0 e3,en,λC' H' w' m' hq=>?_⟩
   obtain⟨w6,n6,i4,m6⟩:=T1 w3 hk w' m'
   exact hr r C' H' D w6 ⟨S.mono _ _ n6 q3,mq.mono m6 (zq.flat i4 hq)⟩ (PZ.tr (fd.tr D) n6 P3)⟩
def KD [z2:MonoE r2][z3:MonoE r3][z4:MonoE r4][z5:MonoE r5]{q:OE B}[zq:FlatO q][mq:MonoO q]{f:B->α2->α3->α4->α5->Rs B}(i k:Nat)(hσ:U[i]?=some (some vy))(hk:OO[k]?=some Cy)(h:∀x,S.p x->q K x vy ay Cy)
  (h2:EvS K Er S OO U t2 r2 m2)(h3:EvS K Er S OO U t3 r3 m3)(h4:EvS K Er S OO U t4 r4 m4)(h5:EvS K Er S OO U t5 r5 m5)(hr:∀b C',Sv Er (S.addO K q vy b C') (OO.set k C') U u Fd (g b)):
  Sv Er S OO U (Zf (Gh (Jd (jh q r2 r3 r4 r5 f K) [] E0 (Xk (JP i) (Xk t2 (Xk t3 (Xk t4 (Xk t5 YD))))))) u) Fd (m2.bind λb=>m3.bind λc=>m4.bind λd=>m5.bind λe=>(noE (f ay b c d e)).bind g):=λH D w s P=>
 ⟨vy,hσ,h2.st w s P λb z H2 s2 w2 q2 e2 P2=>h3.st w2 q2 P2 λc y H3 s3 w3 q3 e3 P3=>h4.st w3 q3 P3 λd y4 H4 s4 w4 q4 e4 P4=>h5.st w4 q4 P4 λe y5 H5 s5 w5 q5 e5 P5=>by
  cases en:f ay b c d e with
  |bad=>rw[en] at P5;exact P5.elim
  |err ex=>rw[en] at P5;exact P5.elim
  |ok r=>
   rw[en] at P5
   have P5:PZ Er (Fd D) (hid H5 OO) (g r):=P5
   obtain⟨wl,m0,_,_⟩:=Og w5 hk
   have n3:=Xh (OO:=OO) s3
   have n4:=Xh (OO:=OO) s4
   have n5:=Xh (OO:=OO) s5
   refine⟨vy,z,y,y4,y5,ay,b,c,d,e,r,rfl,Cy,wl,mq.mono m0 (h _ q5),z2.mono (n3.trans (n4.trans (n5.trans m0))) e2,z3.mono (n4.trans (n5.trans m0)) e3,z4.mono (n5.trans m0) e4,z5.mono m0 e5,en,λC' H' w' m' hq=>?_⟩
   obtain⟨w6,n6,i4,m6⟩:=T1 w5 hk w' m'
   exact hr r C' H' D w6 ⟨S.mono _ _ n6 q5,mq.mono m6 (zq.flat i4 hq)⟩ (PZ.tr (fd.tr D) n6 P5)⟩
def qJ (q:OE B)(r2:Enc α2)(r3:Enc α3)(o:OE ρ)(f:B->α2->α3->Rs ρ)(K:W.Frag):Sp:=λvs H Q _=>∃ v1 v2 v3 a1 a2 a3 b,vs=[v1,v2,v3]/\∃C,W [C] H/\q K (hid H [C]) v1 a1 C/\r2 K (hid H [C]) v2 a2/\r3 K (hid H [C]) v3 a3/\f a1 a2 a3= .ok b/\FF K o Q b (hid H [C])
def Oo [z2:MonoE r2][z3:MonoE r3]{q:OE B}[mq:MonoO q]{o:OE ρ}[zo:FlatO o]{f:B->α2->α3->Rs ρ}(i k:Nat)(hσ:U[i]?=some (some vy))(hk:OO[k]?=some Cy)(h:∀x,S.p x->q K x vy ay Cy)
  (h2:EvS K Er S OO U t2 r2 m2)(h3:EvS K Er S OO U t3 r3 m3):
  Sv Er S OO U (Zf (AA (Jd (qJ q r2 r3 o f K) [] E0 (Xk (JP i) (Xk t2 (Xk t3 YD))))) u) (FTd K o) (m2.bind λb=>m3.bind λc=>noE (f ay b c)):=λH D w s P=>
 ⟨vy,hσ,h2.st (Fd:=FTd K o) w s P λb z H2 s2 w2 q2 e2 P2=>h3.st (Fd:=FTd K o) w2 q2 P2 λc y H3 s3 w3 q3 e3 P3=>by
  cases en:f ay b c with
  |bad=>rw[en] at P3;exact P3.elim
  |err ex=>rw[en] at P3;exact P3.elim
  |ok r=>
   rw[en] at P3
   have P3:FTd K o D r (hid H3 OO):=P3
   obtain⟨wl,m0,wo,bq⟩:=Og w3 hk
   refine⟨vy,z,y,ay,b,c,r,rfl,Cy,wl,mq.mono m0 (h _ q3),z2.mono ((Xh s3).trans m0) e2,z3.mono m0 e3,en,λv C' H' w' m' ho=>?_⟩
   obtain⟨w4,n4,i4⟩:=Tf wo w' m'
   refine P3 v C' (OO.set k []) H' w4 (Xp.trans (λbb uu hb=>?_) n4) (zo.flat i4 ho)
   obtain⟨b1,b2⟩:=XU hb
   exact YS (m0 _ _ hb) λz=>b2 (bq _ z)⟩
def A5 {o:OE ρ}[MonoO o]{m:Rs ρ}{Q:VK}{b:ρ}(n k:Nat)(gj:k<n)(h:Sv (λ_ _=>False) S ((List.replicate n []).set k C) U t (FTd K o) m)(w:W [C] H)(hs:S.p (hid H [C]))(hm:m= .ok b)(q:FF K o Q b (hid H [C]))(hD:D.rt=Q):t D U H:=by
 have pe:((List.replicate n []).set k C).flatten.Perm [C].flatten:=by
  have h1:=XN (OO:=(List.replicate n []).set k C) (k:=k) (C:=C) (by simp[gj])
  have e:((List.replicate n ([]:List XD)).set k C).set k []=List.replicate n []:=by
   rw[List.set_set]
   apply List.ext_getElem?
   intro m
   by_cases hm:m=k
   ·subst hm;simp[gj]
   ·rw[List.getElem?_set_ne (λe=>hm e.symm)]
  rw[e,List.flatten_cons,Yi] at h1
  simpa using h1.symm
 refine h H D (w.of pe) (by rw[XE pe];exact hs) ?_
 subst hm
 rw[XE pe]
 intro v C1 OO' H' w' mm ho
 rw[hD]
 exact PV q v C1 OO' H' w' mm ho
section
variable {o:OE ρ}{kf:Nat}{Cf:List XD}{J:Jn B ι}
end
def qH (r1:Enc α1)(r2:Enc α2)(r3:Enc α3)(r4:Enc α4)(o:OE ρ)(f:α1->α2->α3->α4->Rs ρ)(K:W.Frag):Sp:=λvs H Q _=>∃ v1 v2 v3 v4 a1 a2 a3 a4 b,vs=[v1,v2,v3,v4]/\∃Cf,W [Cf] H/\r1 K (hid H [Cf]) v1 a1/\r2 K (hid H [Cf]) v2 a2/\r3 K (hid H [Cf]) v3 a3/\r4 K (hid H [Cf]) v4 a4/\f a1 a2 a3 a4= .ok b/\WG K o Cf Q b (hid H [Cf])
def LN [z1:MonoE r1][z2:MonoE r2][z3:MonoE r3][z4:MonoE r4]{o:OE ρ}{f:α1->α2->α3->α4->Rs ρ}{ma:Rs α1}{mb:Rs α2}{mc:Rs α3}(ha:EvS K Er S OO U ta r1 ma)(hb:EvS K Er S OO U tb r2 mb)(hc:EvS K Er S OO U tc r3 mc)(hd:EvS K Er S OO U td r4 md):
  Ev K Er S OO OO U (Jd (qH r1 r2 r3 r4 o f K) [] E0 (Xk ta (Xk tb (Xk tc (Xk td YD))))) o (ma.bind λa=>mb.bind λb=>mc.bind λc=>md.bind λd=>noE (f a b c d)):=λH Q w s P=>
 ha.run w s FO.tr P λa x H1 s1 w1 q1 r1 P1=>hb.run w1 q1 FO.tr P1 λb y H2 s2 w2 q2 r2 P2=>hc.run w2 q2 FO.tr P2 λc z H3 s3 w3 q3 r3 P3=>hd.run w3 q3 FO.tr P3 λd t H4 s4 w4 q4 r4 P4=>by
  obtain⟨e,he,P5⟩:=P4.okOf λx=>Uz
  have n2:=Xh (OO:=OO) s2
  have n3:=Xh (OO:=OO) s3
  have n4:=Xh (OO:=OO) s4
  exact⟨x,y,z,t,a,b,c,d,e,rfl,OO.flatten,w4.one,by rw[Gf];exact z1.mono (n2.trans (n3.trans n4)) r1,by rw[Gf];exact z2.mono (n3.trans n4) r2,by rw[Gf];exact z3.mono n4 r3,by rw[Gf];exact r4,Ut he,by rw[Gf];exact TM w4 P5⟩
def NI [MonoO o1][MonoO o2][MonoO o3]{f:Rs L}(i j l k1 k2 k3:Nat)(h1:k1<OO.length)(h2:k2<OO.length)(h3:k3<OO.length)
  (hr:∀v w x C1 C2 C3,Sv Er (((S.addO K (oL o1) v [] C1).addO K (oL o2) w [] C2).addO K (oL o3) x [] C3) (((OO.set k1 C1).set k2 C2).set k3 C3) (((U.set i (some v)).set j (some w)).set l (some x)) u Fd f):Sv Er S OO U (Zf (TK i j l (Xk (Nd YD) (Xk (Nd YD) (Xk (Nd YD) YD)))) u) Fd f:=λH D w s P=>by
 refine⟨Nat.zero_le _,λp1 hp1=>⟨Nat.zero_le _,λp2 cW=>⟨Nat.zero_le _,λp3 hp3=>⟨_,_,_,rfl,?_⟩⟩⟩⟩
 have bw:∀{OO:List (List XD)}{H:Hp}{p:Addr}{k:Nat},W OO H->H p=none->k<OO.length->W (OO.set k [(p, .lst [])]) (upd H p (.lst []))/\Xp (hid H OO) (hid (upd H p (.lst [])) (OO.set k [(p, .lst [])])):=λw hp hk=>by
  obtain⟨a,b⟩:=qy (w.new hp (o:=.lst []) rfl) hk
  exact⟨a,(Um hp (o:=.lst [])).trans b⟩
 obtain⟨w1,m1⟩:=bw w hp1 h1
 obtain⟨w2,m2⟩:=bw w1 cW (k:=k2) (by simpa using h2)
 obtain⟨w3,m3⟩:=bw w2 hp3 (k:=k3) (by simpa using h3)
 have nl:∀{τ:Type}{o:OE τ}{h:Hp}{p:Addr},oL o K h (.ref p) [] [(p, .lst [])]:=fun {τ o h p}=>⟨p,[],[],rfl, .nil,rfl⟩
 exact hr _ _ _ _ _ _ _ D w3 ⟨⟨⟨S.mono _ _ ((m1.trans m2).trans m3) s,nl⟩,nl⟩,nl⟩ (PZ.tr (fd.tr D) ((m1.trans m2).trans m3) P)
end
section
variable {u:TS}[fd:FdOk Fd]
def Nz {tb:TS}[z:MonoE r]{f:B->Rs L}{as:List (List M)}(n k:Nat)(hσ:U[n]?=some (some v))(hk:OO[k]?=some C)(h:∀x,S.p x->oL (oL (oF r)) K x v as C)(hi:EvB K Er S OO U ti Xf mi)
  (J:Jn B ι)(T:∀OO,Tgt K OO g r κ)(x0:ι)(g0:B)(hC:∀x,(J.oo x)[k]?=some C)(h1:OO=J.oo x0)(h2:U=J.ss x0)(h3:∀h,S.p h->(J.sc g0 x0).p h)
  (hb:∀g x a v,Sv Er ((T (J.oo x)).sc a v (J.sc g x)) (J.oo x) ((T (J.oo x)).set v (J.ss x)) tb (FNd J) (body g a))
  (hr:∀g x,Sv Er (J.sc g x) (J.oo x) (J.ss x) u Fd (f g)):Sv Er S OO U (Zf (Il (Ft K (tOp (Ij K) (JP n) ti)) g tb) u) Fd (mi.bind λi=>(atR as i).bind λrow=>(forN row g0 body).bind f):=λH0 D w0 s0 P0=>
 ⟨v,hσ,hi.st w0 s0 P0 λix vi H s1 w s r1 P=>by
  obtain⟨p,xs,Cs,e,q,c⟩:=h _ s
  subst c
  cases er:atR as ix with
  |bad=>rw[er] at P;exact P.elim
  |err x=>exact absurd er KS
  |ok row=>
   rw[er] at P
   have P:PZ Er (Fd D) (hid H OO) ((forN row g0 body).bind f):=P
   obtain⟨j,hj,bv⟩:=M0 er
   obtain⟨a,c,ha,hc,ho⟩:=P3.get q bv
   obtain⟨p',ys,Cs',e',q',c'⟩:=ho
   have pr:=(P3.flat q').1
   have hpin:(p,HO.lst xs)∈OO.flatten:=List.mem_flatten.mpr ⟨_,List.mem_of_getElem? hk,List.mem_cons_self⟩
   have bq:∀x,(p',HO.lst ys)∈(J.oo x).flatten:=λx=>List.mem_flatten.mpr ⟨_,List.mem_of_getElem? (hC x),List.mem_cons_of_mem _ (List.mem_flatten.mpr ⟨c,List.mem_of_getElem? hc,by rw[c'];exact List.mem_cons_self⟩)⟩
   have hH:H p=some (.lst xs):=w.tr _ hpin
   have jJ:H p'=some (.lst ys):=w.tr (p', .lst ys) (by rw[h1];exact bq x0)
   refine⟨p,xs,ix,a,e,r1,SqL.of hH,?_,?_⟩
   ·unfold atI
    rw[(P3.len q).1,hj]
    exact ha
   refine⟨p',e',⟨ys,SqL.of jJ⟩,?_⟩
   refine⟨λi mm U' H2=>mm=row.length-i/\i<=row.length/\∃x gg,U'=J.ss x/\W (J.oo x) H2/\Xp (hid H OO) (hid H2 (J.oo x))/\(J.sc gg x).p (hid H2 (J.oo x))/\PZ Er (Fd D) (hid H2 (J.oo x)) ((forN (row.drop i) gg body).bind f),⟨row.length,rfl,Nat.zero_le _,x0,g0,h2,?_,?_,?_,?_⟩,?_⟩
   ·rw[←h1];exact w
   ·rw[←h1];exact Xp.refl _
   ·rw[←h1];exact h3 _ s
   ·rw[←h1,List.drop_zero];exact P
   ·rintro i mm U' H2 ⟨rfl,cY,x,gg,rfl,w2,m2,cQ,P2⟩
    have hq:SqL K H2 p' ys:=SqL.of (w2.tr (p', .lst ys) (bq x))
    by_cases ah:i<row.length
    ·right
     obtain⟨y0,jP,ry⟩:=Paired.getR pr (List.getElem?_eq_getElem ah)
     refine⟨⟨ys,y0,hq,jP⟩,λσ3 H3=>∃ x gg,σ3=J.ss x/\W (J.oo x) H3/\Xp (hid H OO) (hid H3 (J.oo x))/\(J.sc gg x).p (hid H3 (J.oo x))/\PZ Er (Fd D) (hid H3 (J.oo x)) ((forN (row.drop (i+1)) gg body).bind f),λσ3 H3 q=>⟨row.length-(i+1),Nat.sub_lt_sub_left ah (Nat.lt_succ_self i),rfl,ah,q⟩,λy H3 hy=>?_⟩
     obtain⟨rfl,hy2⟩:=hy
     have:=hy2 ys hq
     rw[jP] at this
     cases this
     refine(T (J.oo x)).ok (z.mono m2 ry) cQ λv hv=>hb gg x row[i] v H3 _ w2 hv ?_
     rw[List.drop_eq_getElem_cons ah] at P2
     have P3:PZ Er (Fd D) (hid H3 (J.oo x)) ((body gg row[i]).bind λg'=>(forN (row.drop (i+1)) g' body).bind f):=by rw[←XQ];exact P2
     cases eb:body gg row[i] with
     |bad=>rw[eb] at P3;exact P3
     |err x=>rw[eb] at P3;exact P3
     |ok g'=>
      rw[eb] at P3
      exact λx' H4 w4 m4 fJ=>⟨x',g',rfl,w4,m2.trans m4,fJ,PZ.tr (fd.tr D) m4 P3⟩
    ·left
     have e:i=row.length:=Nat.le_antisymm cY (Nat.not_lt.mp ah)
     subst e
     refine⟨⟨ys,hq,by rw[Paired.len pr];exact Nat.le_refl _⟩,hr gg x H2 D w2 cQ ?_⟩
     rw[List.drop_length] at P2
     exact P2⟩
end
section
variable {u:TS}
end
end L2
end
namespace L2
open PySem PySem.Spec PyProof.Rows
def Rf {X:Cx}{M:Type}[DecidableEq M]{r:Enc M}{d:Nat}(K:W.Frag)(h:X.K=K)(E:EqOk r d)(hu:X.A.units+d<cLine):OpR X (compareOp .Eq) (Av K r):=by subst h;exact Wj E hu
def FR {X:Cx}{M:Type}[DecidableEq M]{r:Enc M}{d:Nat}(K:W.Frag)(h:X.K=K)(E:EqOk r d)(hu:X.A.units+d<cLine):OpR X (compareOp .NotEq) (As K r):=by subst h;exact Wh E hu
section
variable {M L B δ ρ:Type}{K:W.Frag}{Er:Exc->Hp->Prop}{S T:SC}{OO:List (List XD)}{U l:St}{i j k n:Nat}{v w:V}{x:Option V}{r:Enc M}{q:Enc L}{t:Enc B}{o:OE M}{a:M}{C D:List XD}{te ta tb tc:TE}
class Nn (i j:Nat):Prop where h:i≠j
instance:Nn 0 (j+1):=⟨by omega⟩
instance:Nn (i+1) 0:=⟨by omega⟩
instance [x:Nn i j]:Nn (i+1) (j+1):=⟨by have:=x.h;omega⟩
class Lk {L:Type}(l:List L)(k:Nat):Prop where h:k<l.length
instance {b:L}{l:List L}:Lk (b::l) 0:=⟨by simp⟩
instance {b:L}{l:List L}[x:Lk l k]:Lk (b::l) (k+1):=⟨by simpa using x.h⟩
instance {b:L}{l:List L}[x:Lk l k]:Lk (l.set j b) k:=⟨by simpa using x.h⟩
instance {b:L}:Lk (List.replicate (n+1) b) 0:=⟨by simp⟩
instance {b:L}[x:Lk (List.replicate n b) k]:Lk (List.replicate (n+1) b) (k+1):=⟨by simpa using x.h⟩
instance {l m:List L}[x:Lk l k]:Lk (l++m) k:=⟨by have:=x.h;simp;omega⟩
class Sl (U:St)(i:Nat)(v:outParam V):Prop where h:U[i]?=some (some v)
instance:Sl (some v::l) 0 v:=⟨rfl⟩
instance [y:Sl l i v]:Sl (x::l) (i+1) v:=⟨y.h⟩
instance [y:Lk U i]:Sl (U.set i (some v)) i v:=⟨by simp[y.h]⟩
instance [y:Sl U i v][z:Nn j i]:Sl (U.set j x) i v:=⟨by rw[List.getElem?_set_ne z.h];exact y.h⟩
class Cp (caps:List (Nat×Str))(j:Nat)(i:outParam Nat):Prop where h:∃s,caps[j]?=some (i,s)
instance {s:Str}{c:List (Nat×Str)}:Cp ((i,s)::c) 0 i:=⟨s,rfl⟩
instance {p:Nat×Str}{c:List (Nat×Str)}[y:Cp c j i]:Cp (p::c) (j+1) i:=⟨y.h⟩
instance {s:Str}{z:List Str}{c:List (Nat×Str)}:Lk (X6 (List.length (s::z)) c U) 0:=⟨by unfold X6;simp;omega⟩
instance {s s':Str}{z:List Str}{c:List (Nat×Str)}:Lk (X6 (List.length (s::s'::z)) c U) 1:=⟨by unfold X6;simp;omega⟩
instance {s:Str}{c:List (Nat×Str)}[y:Cp c j i][z:Sl U i v]:Sl (X6 (List.length [s]) c U) (j+1) v:=⟨by
 obtain⟨s,h⟩:=y.h
 unfold X6
 rw[List.getElem?_append_right (by simp),List.getElem?_map]
 simp[h,z.h]⟩
instance {s s':Str}{c:List (Nat×Str)}[y:Cp c j i][z:Sl U i v]:Sl (X6 (List.length [s,s']) c U) (j+2) v:=⟨by
 obtain⟨s,h⟩:=y.h
 unfold X6
 rw[List.getElem?_append_right (by simp),List.getElem?_map]
 simp[h,z.h]⟩
instance {s s' s2:Str}{z:List Str}{c:List (Nat×Str)}:Lk (X6 (List.length (s::s'::s2::z)) c U) 2:=⟨by unfold X6;simp;omega⟩
instance {s s' s2:Str}{c:List (Nat×Str)}[y:Cp c j i][z:Sl U i v]:Sl (X6 (List.length [s,s',s2]) c U) (j+3) v:=⟨by
 obtain⟨s,h⟩:=y.h
 unfold X6
 rw[List.getElem?_append_right (by simp),List.getElem?_map]
 simp[h,z.h]⟩
class Ow (OO:List (List XD))(k:outParam Nat)(C:List XD):Prop where h:OO[k]?=some C
instance:Ow (C::OO) 0 C:=⟨rfl⟩
instance [y:Ow OO k C]:Ow (D::OO) (k+1) C:=⟨y.h⟩
instance [y:Lk OO k]:Ow (OO.set k C) k C:=⟨by simp[y.h]⟩
instance [y:Ow OO k C][z:Nn j k]:Ow (OO.set j D) k C:=⟨by rw[List.getElem?_set_ne z.h];exact y.h⟩
class Fc (S:SC)(K:W.Frag)(v:V){M:outParam Type}(r:outParam (Enc M))(a:outParam M):Prop where h:∀x,S.p x->r K x v a
instance [MonoE r]:Fc (S.and (SC.one K r v a)) K v r a:=⟨λ_ s=>s.2⟩
instance (priority:=900)[y:Fc S K v r a]:Fc (S.and T) K v r a:=⟨λx s=>y.h x s.1⟩
class Fo (S:SC)(K:W.Frag)(v:V){M:outParam Type}(o:outParam (OE M))(a:outParam M)(C:outParam (List XD)):Prop where h:∀x,S.p x->o K x v a C
instance [MonoO o]:Fo (S.and (SC.oneO K o v a C)) K v o a C:=⟨λ_ s=>s.2⟩
instance (priority:=900)[y:Fo S K v o a C]:Fo (S.and T) K v o a C:=⟨λx s=>y.h x s.1⟩
class Su (S T:SC):Prop where h:∀x,S.p x->T.p x
instance:Su S S:=⟨λ_ s=>s⟩
instance (priority:=900):Su S SC.nil:=⟨λ_ _=>SC.t⟩
instance (priority:=800)[MonoE r][y:Su S T][z:Fc S K v r a]:Su S (T.and (SC.one K r v a)):=⟨λx s=>⟨y.h x s,z.h x s⟩⟩
instance (priority:=800)[MonoO o][y:Su S T][z:Fo S K v o a C]:Su S (T.and (SC.oneO K o v a C)):=⟨λx s=>⟨y.h x s,z.h x s⟩⟩
instance (priority:=700){T':SC}[y:Su S T']:Su (S.and T) T':=⟨λx s=>y.h x s.1⟩
variable (K Er S OO U te) in
class CB {M:outParam Type}(r:outParam (Enc M))(m:outParam (Rs M)):Prop where h:EvB K Er S OO U te r m
variable (K Er S OO U te) in
class CW {M:Type}(r:Enc M)(m:outParam (Rs M)):Prop where h:EvB K Er S OO U te r m
variable (K Er S OO U te) in
class CS {M:outParam Type}(r:outParam (Enc M))(m:outParam (Rs M)):Prop where h:EvS K Er S OO U te r m
variable (K Er S OO U te) in
class CV {M:Type}(r:Enc M)(m:outParam (Rs M)):Prop where h:EvS K Er S OO U te r m
variable (K Er S OO U te) in
class CN {M:outParam Type}(o:outParam (OE M))(m:outParam (Rs M)):Prop where h:Ev K Er S OO OO U te o m
variable (K Er S OO U te) in
class CM {M:outParam Type}(o:outParam (OE M))(m:outParam (Rs M)):Prop where h:Ev K Er S OO OO U te o m
variable (K Er S OO U te) in
class CO {M:Type}(o:OE M)(m:outParam (Rs M)):Prop where h:Ev K Er S OO OO U te o m
variable (K Er S OO U te) in
class CL {M:outParam Type}(r:outParam (Enc M))(m:outParam (Rs (List M))):Prop where h:EvL K Er S OO U te r m
class CT (K:W.Frag)(Er:Exc->Hp->Prop)(S:SC)(OO:List (List XD))(U:St)(tt:TT)(m:outParam (Rs Bool)):Prop where h:EvT Er S OO U tt m
class CP (K:W.Frag)(Er:Exc->Hp->Prop)(S:SC)(OO:List (List XD))(U:St)(tt:TO)(m:outParam (Rs (Option Int))):Prop where h:EvP Er S OO U tt m
variable (K Er S OO U) in
class CA {M:Type}(t:TA)(r:Enc M)(m:outParam (Rs (List M))):Prop where h:EvA K Er S OO U t r m
variable (K Er S OO U) in
class Cw (wi:TI){M:outParam Type}(r:outParam (Enc M))(m:outParam (Rs (List M))):Prop where h:Walk K Er S OO U wi r m
variable {m m':Rs M}{ml:Rs (List M)}{mi mj:Rs Int}{mb mc:Rs Bool}{ms:Rs Str}{tt tu:TT}
def qb [c:CW K Er S OO U te r m]:EvB K Er S OO U te r m:=c.h
def qB [c:CB K Er S OO U te r m]:EvB K Er S OO U te r m:=c.h
def qs [c:CV K Er S OO U te r m]:EvS K Er S OO U te r m:=c.h
def qS [c:CS K Er S OO U te r m]:EvS K Er S OO U te r m:=c.h
def qn [c:CO K Er S OO U te o m]:Ev K Er S OO OO U te o m:=c.h
def qN [c:CN K Er S OO U te o m]:Ev K Er S OO OO U te o m:=c.h
def qM [c:CM K Er S OO U te o m]:Ev K Er S OO OO U te o m:=c.h
def ql [c:CL K Er S OO U te r ml]:EvL K Er S OO U te r ml:=c.h
variable (K) in
def qt [c:CT K Er S OO U tt mb]:EvT Er S OO U tt mb:=c.h
variable (K) in
def qp {tt:TO}{m:Rs (Option Int)}[c:CP K Er S OO U tt m]:EvP Er S OO U tt m:=c.h
def qa {t:TA}[c:CA K Er S OO U t r ml]:EvA K Er S OO U t r ml:=c.h
def qw {wi:TI}[c:Cw K Er S OO U wi r ml]:Walk K Er S OO U wi r ml:=c.h
-- as wanted
instance [c:CB K Er S OO U te r m]:CW K Er S OO U te r m:=⟨c.h⟩
instance (priority:=900){m:Rs Mx}[c:CB K Er S OO U te rMx m]:CW K Er S OO U te Xf (m.bind mxI):=⟨KL c.h⟩
instance (priority:=900){m:Rs Mx}[c:CB K Er S OO U te rMx m]:CW K Er S OO U te Hm (m.bind mxS):=⟨RA c.h⟩
instance (priority:=900){m:Rs Mx}[c:CB K Er S OO U te rMx m]:CW K Er S OO U te XI (m.bind mxB):=⟨SV c.h⟩
instance (priority:=900){m:Rs (Option M)}[c:CB K Er S OO U te (UT r) m]:CW K Er S OO U te r (m.bind qD):=⟨Ce c.h⟩
instance [FlatE r][c:CW K Er S OO U te r m]:CV K Er S OO U te r m:=⟨EvB.sh c.h⟩
instance (priority:=900)[c:CS K Er S OO U te r m]:CV K Er S OO U te r m:=⟨c.h⟩
instance (priority:=800)[c:CV K Er S OO U te Xf mi]:CV K Er S OO U te rMx (mi.bind λa=>.ok (.i a)):=⟨Ra c.h⟩
instance (priority:=800)[c:CV K Er S OO U te Hm ms]:CV K Er S OO U te rMx (ms.bind λa=>.ok (.s a)):=⟨TB c.h⟩
instance (priority:=800)[c:CV K Er S OO U te XI mb]:CV K Er S OO U te rMx (mb.bind λa=>.ok (.b a)):=⟨Rb c.h⟩
instance [c:CN K Er S OO U te o m]:CO K Er S OO U te o m:=⟨c.h⟩
instance (priority:=900)[c:CV K Er S OO U te r m]:CO K Er S OO U te (oF r) m:=⟨EvS.ev c.h⟩
instance [c:CN K Er S OO U te o m]:CM K Er S OO U te o m:=⟨c.h⟩
instance (priority:=900)[c:CS K Er S OO U te r m]:CM K Er S OO U te (oF r) m:=⟨EvS.ev c.h⟩
instance {o:OE M}:CO K Er S OO U (Nd YD) (oL o) (.ok []):=⟨Zt⟩
-- one of dC other
instance (priority:=500)[FrzC o r][c:CN K Er S OO U te o m]:CB K Er S OO U te r m:=⟨Ev.toB c.h⟩
instance (priority:=600)[FlatE r][c:CB K Er S OO U te r m]:CS K Er S OO U te r m:=⟨EvB.sh c.h⟩
instance (priority:=500)[FrzC o r][c:CN K Er S OO U te o m]:CS K Er S OO U te r m:=⟨Ev.sh c.h⟩
instance (priority:=700)[c:CS K Er S OO U te (rV r) ml]:CL K Er S OO U te r ml:=⟨EvS.ls c.h⟩
instance (priority:=600)[FlatE r][c:CB K Er S OO U te (rV r) ml]:CL K Er S OO U te r ml:=⟨EvB.ls c.h⟩
instance (priority:=800)[MonoE r][c:CN K Er S OO U te (oL (oF r)) ml]:CL K Er S OO U te r ml:=⟨Ev.ls c.h⟩
-- names
instance [y:Sl U i v][z:Fc S K v r a][MonoE r]:CB K Er S OO U (JP i) r (.ok a):=⟨S4 i y.h z.h⟩
instance (priority:=900)[y:Sl U i v][z:Fo S K v o a C][u:Ow OO k C][FrzC o r]:CB K Er S OO U (JP i) r (.ok a):=⟨Rz i k y.h u.h z.h⟩
instance [y:Sl U i v][z:Fc S K v r a]:CS K Er S OO U (JP i) r (.ok a):=⟨Tq i y.h z.h⟩
-- constants
instance {n:Int}:CB K Er S OO U (tC (.int n)) Xf (.ok n):=⟨SY n⟩
instance {b:Bool}:CB K Er S OO U (tC (.bl b)) XI (.ok b):=⟨W1 b⟩
instance {x:Str}:CB K Er S OO U (tC (.str x)) Hm (.ok x):=⟨Tn x⟩
-- numbers
section
variable [x':CW K Er S OO U ta Xf mi][y':CW K Er S OO U tb Xf mj]
instance:CB K Er S OO U (tOp (rI0 λi j=>V.int (i+j)) ta tb) Xf (mi.bind λa=>mj.bind λb=>.ok (a+b)):=⟨Bk x'.h y'.h⟩
instance:CB K Er S OO U (tOp (rI0 λi j=>V.int (i-j)) ta tb) Xf (mi.bind λa=>mj.bind λb=>.ok (a-b)):=⟨K3 x'.h y'.h⟩
instance:CB K Er S OO U (tOp (rI TV λi j=>V.int (i*j)) ta tb) Xf (mi.bind λa=>mj.bind λb=>Nv a b):=⟨Jl x'.h y'.h⟩
instance:CB K Er S OO U (tOp (rI (λx j=>(0:Int)<j) λi j=>V.int (i % j)) ta tb) Xf (mi.bind λa=>mj.bind λb=>Ag a b):=⟨RU x'.h y'.h⟩
instance:CB K Er S OO U (tOp (rI (λx j=>(0:Int)<j/\j.natAbs.log2<9000) λi j=>V.int (i/j)) ta tb) Xf (mi.bind λa=>mj.bind λb=>qg a b):=⟨R8 x'.h y'.h⟩
instance:CB K Er S OO U (tOp (rI qx λi j=>V.int (i^j.toNat)) ta tb) Xf (mi.bind λa=>mj.bind λb=>Az a b):=⟨RL x'.h y'.h⟩
instance:CB K Er S OO U (tOp (rI0 λi j=>V.bl (decide (i<j))) ta tb) XI (mi.bind λa=>mj.bind λb=>.ok (decide (a<b))):=⟨MK x'.h y'.h⟩
instance:CB K Er S OO U (tOp (rI0 λi j=>V.bl (decide (i<=j))) ta tb) XI (mi.bind λa=>mj.bind λb=>.ok (decide (a<=b))):=⟨Wq x'.h y'.h⟩
instance:CB K Er S OO U (tOp (rI0 λi j=>V.bl (decide (j<i))) ta tb) XI (mi.bind λa=>mj.bind λb=>.ok (decide (b<a))):=⟨PH x'.h y'.h⟩
instance:CB K Er S OO U (tCB (λxs H Q=>∃ (i:Int),∃(j:Int),xs=[V.int i,V.int j]/\Q (V.int (if j > i then j else i)) H) (Xk ta (Xk tb YD))) Xf (mi.bind λa=>mj.bind λb=>.ok (max a b)):=⟨Nk x'.h y'.h⟩
instance:CB K Er S OO U (tCB (λxs H Q=>∃ (i:Int),∃(j:Int),xs=[V.int i,V.int j]/\Q (V.int (if j<i then j else i)) H) (Xk ta (Xk tb YD))) Xf (mi.bind λa=>mj.bind λb=>.ok (min a b)):=⟨BJ x'.h y'.h⟩
instance:Cw K Er S OO U (Td (Xk ta (Xk tb YD))) Xf (mi.bind λlo=>mj.bind λn=>Ny lo n):=⟨B6 x'.h y'.h⟩
instance:Cw K Er S OO U (TL (Xk ta YD)) Xf (mi.bind λn=>Ny (0:Int) n):=⟨K6 x'.h⟩
instance:CB K Er S OO U (tUn (rU λi=>V.int (-i)) ta) Xf (mi.bind λa=>.ok (-a)):=⟨FN x'.h⟩
instance:CB K Er S OO U (tCB (λxs H Q=>∃ (i:Int),xs=[V.int i]/\Q (V.int (if i<(0:Int) then-i else i)) H) (Xk ta YD)) Xf (mi.bind λa=>.ok (a.natAbs:Int)):=⟨Tc x'.h⟩
instance:CP K Er S OO U (Sc ta) (mi.bind λi=>.ok (some i)):=⟨O4 x'.h⟩
instance:CP K Er S OO U BS (.ok none):=⟨OW⟩
end
section
variable [DecidableEq M][Scal r][MonoE r][y':CB K Er S OO U tb r m'][x':CW K Er S OO U ta r m]
instance:CB K Er S OO U (tOp rEq ta tb) XI (m.bind λa=>m'.bind λb=>.ok (decide (a=b))):=⟨JX x'.h y'.h⟩
instance:CB K Er S OO U (tOp rNe ta tb) XI (m.bind λa=>m'.bind λb=>.ok !decide (a=b)):=⟨EF x'.h y'.h⟩
end
section
variable [DecidableEq M][Scal r][MonoE r][x':CB K Er S OO U ta r m][y':CW K Er S OO U tb r m']
instance (priority:=900):CB K Er S OO U (tOp rEq ta tb) XI (m.bind λa=>m'.bind λb=>.ok (decide (a=b))):=⟨JX x'.h y'.h⟩
instance (priority:=900):CB K Er S OO U (tOp rNe ta tb) XI (m.bind λa=>m'.bind λb=>.ok !decide (a=b)):=⟨EF x'.h y'.h⟩
end
section
variable {m m':Rs Mx}[x':CB K Er S OO U ta rMx m][y':CB K Er S OO U tb rMx m']
instance:CB K Er S OO U (tOp rEq ta tb) XI ((m.bind mxI).bind λa=>(m'.bind mxI).bind λb=>.ok (decide (a=b))):=⟨JX (KL x'.h) (KL y'.h)⟩
instance:CB K Er S OO U (tOp rNe ta tb) XI ((m.bind mxI).bind λa=>(m'.bind mxI).bind λb=>.ok !decide (a=b)):=⟨EF (KL x'.h) (KL y'.h)⟩
end
section
variable [DecidableEq M][MonoE r][x':CB K Er S OO U ta r m][y':CW K Er S OO U tb r m']
instance:CB K Er S OO U (tOp (Av K r) ta tb) XI (m.bind λa=>m'.bind λb=>.ok (decide (a=b))):=⟨S7 x'.h y'.h⟩
instance:CB K Er S OO U (tOp (As K r) ta tb) XI (m.bind λa=>m'.bind λb=>.ok !decide (a=b)):=⟨Lz x'.h y'.h⟩
end
-- truths
section
variable [x':CW K Er S OO U ta XI mb][y':CW K Er S OO U tb XI mc][u':CT K Er S OO U tt mb][w':CT K Er S OO U tu mc]
instance:CT K Er S OO U (tB ta) mb:=⟨DB x'.h⟩
instance:CT K Er S OO U (OD ta) mb:=⟨XY x'.h⟩
instance:CT K Er S OO U (A0 tt) (mb.bind λb=>.ok !b):=⟨BW u'.h⟩
instance:CT K Er S OO U (AS tt tu) (Pj mb mc):=⟨Tp u'.h w'.h⟩
instance:CT K Er S OO U (tOr tt tu) (orR mb mc):=⟨Nq u'.h w'.h⟩
instance:CB K Er S OO U (S6 ta tb) XI (Pj mb mc):=⟨EZ x'.h y'.h⟩
instance:CB K Er S OO U (tCB (λxs H Q=>(∃(i:Int),xs=[V.int i]/\Q (V.int i) H)∨∃(k:Bool),xs=[V.bl k]/\Q (V.int (if k=true then(1:Int) else(0:Int))) H) (Xk ta YD)) Xf (mb.bind λb=>.ok (if b=true then(1:Int) else(0:Int))):=⟨U6 x'.h⟩
end
section
variable [u':CT K Er S OO U tt mb][x':CB K Er S OO U ta r m][y':CW K Er S OO U tb r m']
end
-- items
section
variable [MonoE r][j':CW K Er S OO U tb Xf mi]
section
variable [x':CB K Er S OO U ta (rV r) ml]
instance:CB K Er S OO U (tOp (Ij K) ta tb) r (ml.bind λas=>mi.bind λi=>atR as i):=⟨Wz x'.h j'.h⟩
end
section
variable [x':CB K Er S OO U ta (rPL r) ml]
instance:CB K Er S OO U (tOp (CY K) ta tb) r (ml.bind λas=>mi.bind λi=>atR as i):=⟨To x'.h j'.h⟩
end
section
variable [x':CL K Er S OO U ta r ml]
instance:CS K Er S OO U (tOp (Ij K) ta tb) r (ml.bind λas=>mi.bind λi=>atR as i):=⟨WK x'.h j'.h⟩
instance:CN K Er S OO U (tOp A9 ta tb) (oL (oF r)) (ml.bind λas=>mi.bind λn=>Mk as n):=⟨Ad x'.h j'.h⟩
end
end
section
variable [x':CB K Er S OO U ta (rV r) ml]
instance:CB K Er S OO U (tCB (Kr K) (Xk ta YD)) Xf (ml.bind λas=>.ok (as.length:Int)):=⟨Rr x'.h⟩
end
section
variable [x':CB K Er S OO U ta (rPL r) ml]
instance:CB K Er S OO U (tCB (Kr K) (Xk ta YD)) Xf (ml.bind λas=>.ok (as.length:Int)):=⟨Ot x'.h⟩
end
section
variable {m:Rs (Int×Int)}[x':CB K Er S OO U ta (rP2 Xf Xf) m]
end
section
variable {m:Rs (M×L)}[x':CB K Er S OO U ta (rP2 r q) m]
instance:CB K Er S OO U (tOp (CY K) ta (tC (V.int (0:Int)))) r (m.bind λp=>.ok p.fst):=⟨Bf x'.h⟩
instance:CB K Er S OO U (tOp (CY K) ta (tC (V.int (1:Int)))) q (m.bind λp=>.ok p.snd):=⟨B7 x'.h⟩
end
section
variable {m:Rs (M×L)}[y':CS K Er S OO U ta (rP2 r q) m]
instance:CS K Er S OO U (tOp (CY K) ta (tC (V.int (0:Int)))) r (m.bind λp=>.ok p.fst):=⟨TF y'.h⟩
instance:CS K Er S OO U (tOp (CY K) ta (tC (V.int (1:Int)))) q (m.bind λp=>.ok p.snd):=⟨TN y'.h⟩
end
-- lists, tuples
section
variable [MonoE r]{t:TA}{ml':Rs (List M)}[x':CL K Er S OO U ta r ml][y':CL K Er S OO U tb r ml']{tl th:TO}{pl ph:Rs (Option Int)}[u':CP K Er S OO U tl pl][w':CP K Er S OO U th ph]
instance:CN K Er S OO U (tOp qu ta tb) (oL (oF r)) (ml.bind λas=>ml'.bind λbs=>NW as bs):=⟨PD x'.h y'.h⟩
instance:CN K Er S OO U (tSl (Aq K) ta tl th) (oL (oF r)) (ml.bind λas=>pl.bind λlo=>ph.bind λhi=>.ok (Gb as lo hi)):=⟨NS x'.h u'.h w'.h⟩
instance:CN K Er S OO U (tCB (Fx K) (Xk ta YD)) (oL (oF r)) (ml.bind λas=>.ok as):=⟨Re x'.h⟩
end
section
variable [MonoE r]{tl th:TO}{pl ph:Rs (Option Int)}[z':CB K Er S OO U ta (rPL r) ml][u':CP K Er S OO U tl pl][w':CP K Er S OO U th ph]
instance:CB K Er S OO U (tSl (AE K) ta tl th) (rPL r) (ml.bind λas=>pl.bind λlo=>ph.bind λhi=>chk (¬(HT.sIx as.length 0 lo=0/\HT.sIx as.length as.length hi=as.length)) (.ok (Gb as lo hi))):=⟨Yq z'.h u'.h w'.h⟩
end
instance [MonoE r]:CA K Er S OO U YD r (.ok []):=⟨BZ⟩
instance [MonoE r]{t:TA}[x':CV K Er S OO U ta r m][y':CA K Er S OO U t r ml]:CA K Er S OO U (Xk ta t) r (m.bind λa=>ml.bind λas=>.ok (a::as)):=⟨Yn x'.h y'.h⟩
instance (priority:=1100)[MonoE r]{t:TA}[x':CA K Er S OO U t r ml]:CO K Er S OO U (Nd t) (oL (oF r)) (ml.bind λas=>chk (as.length<=sizeLine) (.ok as)):=⟨JY x'.h⟩
instance (priority:=1100)[MonoE r]{t:TA}[x':CA K Er S OO U t r ml]:CW K Er S OO U (Nd t) (rV r) (ml.bind λas=>chk (as.length<=sizeLine) (.ok as)):=⟨Ev.toB (JY x'.h)⟩
section
variable {t:TA}[MonoE r][x':CS K Er S OO U ta r m][y':CA K Er S OO U t r ml]
instance:CN K Er S OO U (Nd (Xk ta t)) (oL (oF r)) ((m.bind λa=>ml.bind λas=>.ok (a::as)).bind λas=>chk (as.length<=sizeLine) (.ok as)):=⟨JY (Yn x'.h y'.h)⟩
end
section
variable {m1:Rs L}[MonoE r][MonoE q][x':CS K Er S OO U ta r m][y':CS K Er S OO U tb q m1]
instance:CS K Er S OO U (Po (Xk ta (Xk tb YD))) (rP2 r q) (m.bind λa=>m1.bind λb=>.ok (a,b)):=⟨FW x'.h y'.h⟩
end
instance [MonoE r][x':CS K Er S OO U ta (rV r) ml]:Cw K Er S OO U (Ft K ta) r ml:=⟨Zv x'.h⟩
-- calls
section
variable {α1 α2 α3 α4:Type}{r1:Enc α1}{r2:Enc α2}{r3:Enc α3}{r4:Enc α4}{m1:Rs α1}{m2:Rs α2}{m3:Rs α3}{m4:Rs α4}{td:TE}{o:OE ρ}[FlatO o][MonoE r1][MonoE r2][MonoE r3]{f1:α1->Rs ρ}{f2:α1->α2->Rs ρ}{f3:α1->α2->α3->Rs ρ}{f4:α1->α2->α3->α4->Rs ρ}[x1:CW K Er S OO U ta r1 m1][x2:CW K Er S OO U tb r2 m2][x3:CW K Er S OO U tc r3 m3][x4:CW K Er S OO U td r4 m4]
instance:CN K Er S OO U (Jd (sp1 r1 o f1 K) [] E0 (Xk ta YD)) o (m1.bind λa=>noE (f1 a)):=⟨Hv (o:=o) (f:=f1) x1.h⟩
instance:CN K Er S OO U (Jd (sp2 r1 r2 o f2 K) [] E0 (Xk ta (Xk tb YD))) o (m1.bind λa=>m2.bind λb=>noE (f2 a b)):=⟨U3 (o:=o) (f:=f2) x1.h x2.h⟩
instance:CN K Er S OO U (Jd (sp3 r1 r2 r3 o f3 K) [] E0 (Xk ta (Xk tb (Xk tc YD)))) o (m1.bind λa=>m2.bind λb=>m3.bind λc=>noE (f3 a b c)):=⟨EX (o:=o) (f:=f3) x1.h x2.h x3.h⟩
instance:CN K Er S OO U (Jd (sp4 r1 r2 r3 r4 o f4 K) [] E0 (Xk ta (Xk tb (Xk tc (Xk td YD))))) o (m1.bind λa=>m2.bind λb=>m3.bind λc=>m4.bind λd=>noE (f4 a b c d)):=⟨Of (o:=o) (f:=f4) x1.h x2.h x3.h x4.h⟩
end
end
section
variable {M L B δ ρ ι κ κ2:Type}{K:W.Frag}{Er:Exc->Hp->Prop}{S:SC}{OO:List (List XD)}{U:St}{u t tb:TS}{Fd:Ends->L->Hp->Prop}[fd:FdOk Fd]{o:OE ρ}{wi:TI}{g:TG}{r:Enc M}
abbrev jn (OO:List (List XD))(U:St)(S:SC)(oo:List (List XD)->ι->List (List XD))(ss:St->ι->St)(nf:SC->B->ι->SC):Jn B ι:=⟨oo OO,ss U,nf S⟩
variable (oo:List (List XD)->ι->List (List XD))(ss:St->ι->St)(nf:SC->B->ι->SC)
def Y4 {m:Rs B}{f:B->Rs L}(hb:Sv Er S OO U t (FNd (jn OO U S oo ss nf)) m)(hr:∀g x,Sv Er (nf S g x) (oo OO x) (ss U x) u Fd (f g)):Sv Er S OO U (Zf t u) Fd (m.bind f):=Sr hb hr
def AO {m:Rs (Ctl ρ B)}{f:B->Rs ρ}(hb:Sv Er S OO U t (FCd K o (jn OO U S oo ss nf)) m)(hr:∀g x,Sv Er (nf S g x) (oo OO x) (ss U x) u (FTd K o) (f g)):Sv Er S OO U (Zf t u) (FTd K o) (m.bind (Vm f)):=Tt hb hr
def Ph {J2:Jn δ κ}{m:Rs (Ctl ρ B)}{f:B->Rs (Ctl ρ δ)}(hb:Sv Er S OO U t (FCd K o (jn OO U S oo ss nf)) m)(hr:∀g x,Sv Er (nf S g x) (oo OO x) (ss U x) u (FCd K o J2) (f g)):Sv Er S OO U (Zf t u) (FCd K o J2) (m.bind (UL f)):=OR hb hr
def PL {c:TT}{mc:B->Rs Bool}{body:B->Rs B}{f:B->Rs L}(n:Nat)(x0:ι)(g0:B)(h1:OO=oo OO x0)(h2:U=ss U x0)(h3:∀h,S.p h->(nf S g0 x0).p h)(hc:∀g x,EvT Er (nf S g x) (oo OO x) (ss U x) c (mc g))(hb:∀g x,Sv Er (nf S g x) (oo OO x) (ss U x) tb (FNd (jn OO U S oo ss nf)) (body g))(hr:∀g x,Sv Er (nf S g x) (oo OO x) (ss U x) u Fd (f g)):Sv Er S OO U (Zf (Du c tb) u) Fd ((Kd n g0 mc body).bind f):=NH (jn OO U S oo ss nf) n x0 g0 h1 h2 h3 hc hb hr
variable (K)
def Qh {m:Rs (List M)}{body:B->M->Rs B}{f:B->Rs L}(T:∀OO,Tgt K OO g r κ)(x0:ι)(g0:B)(he:Walk K Er S OO U wi r m)(h1:OO=oo OO x0)(h2:U=ss U x0)(h3:∀h,S.p h->(nf S g0 x0).p h)(hb:∀g x a v,Sv Er ((T (oo OO x)).sc a v (nf S g x)) (oo OO x) ((T (oo OO x)).set v (ss U x)) tb (FNd (jn OO U S oo ss nf)) (body g a))(hr:∀g x,Sv Er (nf S g x) (oo OO x) (ss U x) u Fd (f g)):Sv Er S OO U (Zf (Il wi g tb) u) Fd (m.bind λas=>(forN as g0 body).bind f):=WZ (jn OO U S oo ss nf) T x0 g0 he h1 h2 h3 hb hr
def Dl {m:Rs (List M)}{body:B->M->Rs (Ctl ρ B)}{f:B->Rs ρ}(T:∀OO,Tgt K OO g r κ)(x0:ι)(g0:B)(he:Walk K Er S OO U wi r m)(h1:OO=oo OO x0)(h2:U=ss U x0)(h3:∀h,S.p h->(nf S g0 x0).p h)(hb:∀g x a v,Sv Er ((T (oo OO x)).sc a v (nf S g x)) (oo OO x) ((T (oo OO x)).set v (ss U x)) tb (FCd K o (jn OO U S oo ss nf)) (body g a))(hr:∀g x,Sv Er (nf S g x) (oo OO x) (ss U x) u (FTd K o) (f g)):Sv Er S OO U (Zf (Il wi g tb) u) (FTd K o) (m.bind λas=>(C0 as g0 body).bind (Vm f)):=SD (jn OO U S oo ss nf) T x0 g0 he h1 h2 h3 hb hr
def MW {J2:Jn δ κ2}{m:Rs (List M)}{body:B->M->Rs (Ctl ρ B)}{f:B->Rs (Ctl ρ δ)}(T:∀OO,Tgt K OO g r κ)(x0:ι)(g0:B)(he:Walk K Er S OO U wi r m)(h1:OO=oo OO x0)(h2:U=ss U x0)(h3:∀h,S.p h->(nf S g0 x0).p h)(hb:∀g x a v,Sv Er ((T (oo OO x)).sc a v (nf S g x)) (oo OO x) ((T (oo OO x)).set v (ss U x)) tb (FCd K o (jn OO U S oo ss nf)) (body g a))(hr:∀g x,Sv Er (nf S g x) (oo OO x) (ss U x) u (FCd K o J2) (f g)):Sv Er S OO U (Zf (Il wi g tb) u) (FCd K o J2) (m.bind λas=>(C0 as g0 body).bind (UL f)):=NQ (jn OO U S oo ss nf) T x0 g0 he h1 h2 h3 hb hr
def Am {ti:TE}[MonoE r]{mi:Rs Int}{body:B->M->Rs B}{f:B->Rs L}{v:V}{as:List (List M)}{C:List XD}{n k:Nat}[y:Sl U n v][z:Fo S K v (oL (oL (oF r))) as C][q:Ow OO k C](hi:EvB K Er S OO U ti Xf mi)(T:∀OO,Tgt K OO g r κ)(x0:ι)(g0:B)(hC:∀x,(oo OO x)[k]?=some C)(h1:OO=oo OO x0)(h2:U=ss U x0)(h3:∀h,S.p h->(nf S g0 x0).p h)
  (hb:∀g x a v,Sv Er ((T (oo OO x)).sc a v (nf S g x)) (oo OO x) ((T (oo OO x)).set v (ss U x)) tb (FNd (jn OO U S oo ss nf)) (body g a))(hr:∀g x,Sv Er (nf S g x) (oo OO x) (ss U x) u Fd (f g)):Sv Er S OO U (Zf (Il (Ft K (tOp (Ij K) (JP n) ti)) g tb) u) Fd (mi.bind λi=>(atR as i).bind λrow=>(forN row g0 body).bind f):=Nz n k y.h q.h z.h hi (jn OO U S oo ss nf) T x0 g0 hC h1 h2 h3 hb hr
def A8 {te:TE}{o:OE M}[MonoO o]{m:Rs (List M)}{body:B->M->Rs B}{f:B->Rs L}(kx kr ix:Nat)(x0:ι)(g0:B)(he:Ev K Er S OO OO U te (oL o) m)(h1:OO=oo OO x0)(h2:U=ss U x0)(h3:∀h,S.p h->(nf S g0 x0).p h)(hkx:∀x,(oo OO x)[kx]?=some [])(hkr:∀x,(oo OO x)[kr]?=some [])(aN:kr≠kx)
  (hb:∀R g x a v C,Sv Er ((nf S g x).addO K o v a C) (((oo OO x).set kr R).set kx C) ((ss U x).set ix (some v)) tb (FNd ⟨λx=>(oo OO x).set kr R,ss U,nf S⟩) (body g a))(hr:∀g x,Sv Er (nf S g x) (oo OO x) (ss U x) u Fd (f g)):Sv Er S OO U (Zf (Il (Ft K te) (Yr ix) tb) u) Fd (m.bind λas=>(forN as g0 body).bind f):=Si (jn OO U S oo ss nf) kx kr ix x0 g0 he h1 h2 h3 hkx hkr aN hb hr
def Ry {c:TT}{mc:B->Rs Bool}{body:B->Rs (Ctl ρ B)}{f:B->Rs ρ}(n:Nat)(x0:ι)(g0:B)(h1:OO=oo OO x0)(h2:U=ss U x0)(h3:∀h,S.p h->(nf S g0 x0).p h)(hc:∀g x,EvT Er (nf S g x) (oo OO x) (ss U x) c (mc g))(hb:∀g x,Sv Er (nf S g x) (oo OO x) (ss U x) tb (FCd K o (jn OO U S oo ss nf)) (body g))(hr:∀g x,Sv Er (nf S g x) (oo OO x) (ss U x) u (FTd K o) (f g)):Sv Er S OO U (Zf (Du c tb) u) (FTd K o) ((Gj n g0 mc body).bind (Vm f)):=IZ (jn OO U S oo ss nf) n x0 g0 h1 h2 h3 hc hb hr
end
section
variable {M L B δ ρ:Type}(K:W.Frag){Er:Exc->Hp->Prop}{S:SC}{OO OO':List (List XD)}{U:St}{u:TS}{Fd:Ends->L->Hp->Prop}[fd:FdOk Fd]{o:OE M}{r:Enc M}{te ta:TE}{i k:Nat}{m:Rs M}{f:M->Rs L}{v:V}{as:List M}{C:List XD}
def Yc [MonoE r](he:EvS K Er S OO U te r m)(hr:∀a v,Sv Er (S.add K r v a) OO (U.set i (some v)) u Fd (f a)):Sv Er S OO U (Zf (DW te (Yr i)) u) Fd (m.bind f):=W9 i he hr
def Yl [MonoO o](k:Nat)[y:Lk OO k](he:Ev K Er S OO OO U te o m)(hr:∀a v C,Sv Er (S.addO K o v a C) (OO.set k C) (U.set i (some v)) u Fd (f a)):Sv Er S OO U (Zf (DW te (Yr i)) u) Fd (m.bind f):=IU i k he y.h hr
variable {K} in
def Zb {a:M}[y:Sl U i v][z:Fo S K v o a C][q:Ow OO k C]:Ev K Er S OO (OO.set k []) U (JP i) o (.ok a):=RF i k y.h q.h z.h
def UU {f:List M->Rs L}[MonoO o][y:Sl U i v][z:Fo S K v (oL o) as C](he:Ev K Er S OO OO' U ta o m)[q:Ow OO k C][q':Ow OO' k C](hr:∀zs C',Sv Er (S.addO K (oL o) v zs C') (OO'.set k C') U u Fd (f zs)):Sv Er S OO U (Zf (Gh (tBM K "list" G5 (JP i) (Xk ta YD))) u) Fd (m.bind λa=>chk (as.length<sizeLine) (f (as++[a]))):=Wc i k y.h q.h q'.h z.h he λa C'=>hr _ C'
def AG {m:Rs (List M)}{f:List M->Rs L}[MonoO o][y:Sl U i v][z:Fo S K v (oL o) as C](he:Ev K Er S OO OO' U ta (oL o) m)[q:Ow OO k C][q':Ow OO' k C](hr:∀zs C',Sv Er (S.addO K (oL o) v zs C') (OO'.set k C') U u Fd (f zs)):Sv Er S OO U (Zf (Gh (tBM K "list" BK (JP i) (Xk ta YD))) u) Fd (m.bind λbs=>chk (as.length+bs.length<=sizeLine) (f (as++bs))):=Ao i k y.h q.h q'.h z.h he λa C'=>hr _ C'
def jk {ti:TE}{mi:Rs Int}{x:Nat}[MonoE r]{f:M->List M->Rs L}[y:Sl U i v][z:Fo S K v (oL (oF r)) as C][q:Ow OO k C](hi:EvB K Er S OO U ti Xf mi)(hr:∀a bs y C',Sv Er ((S.add K r y a).addO K (oL (oF r)) v bs C') (OO.set k C') (U.set x (some y)) u Fd (f a bs)):Sv Er S OO U (Zf (DW (tBM K "list" E2 (JP i) (Xk ti YD)) (Yr x)) u) Fd (mi.bind λj=>(Ov as j).bind λp=>f p.1 p.2):=WD x i k y.h q.h z.h hi λa bs y C'=>hr a bs y C'
def AR {x:Nat}[MonoE r]{f:M->List M->Rs L}[y:Sl U i v][z:Fo S K v (oL (oF r)) as C][q:Ow OO k C](hr:∀a bs y C',Sv Er ((S.add K r y a).addO K (oL (oF r)) v bs C') (OO.set k C') (U.set x (some y)) u Fd (f a bs)):Sv Er S OO U (Zf (DW (qc K "list" A2 (JP i)) (Yr x)) u) Fd ((Ri as).bind λp=>f p.1 p.2):=S5 x i k y.h q.h z.h λa bs y C'=>hr a bs y C'
def Gw {ti:TE}{mi:Rs Int}{f:List M->Rs L}[MonoO o][y:Sl U i v][z:Fo S K v (oL o) as C][q:Ow OO k C](he:Ev K Er S OO OO U ta o m)(hi:∀D,EvB K Er S (D::OO) U ti Xf mi)(hr:∀bs C',Sv Er (S.addO K (oL o) v bs C') (OO.set k C') U u Fd (f bs)):Sv Er S OO U (Zf (DW ta (AJ (JP i) ti N7)) u) Fd (m.bind λa=>mi.bind λj=>(US as j a).bind f):=NP i k y.h q.h z.h he hi hr
def qO {g:Int->Int->Int}{m:Rs Int}{f:Int->Rs L}{a:Int}[y:Sl U i v][z:Fc S K v Xf a](he:EvB K Er S OO U te Xf m)(hr:∀b v,Sv Er (S.add K Xf v b) OO (U.set i (some v)) u Fd (f b)):Sv Er S OO U (Zf (AF i te (ipI g)) u) Fd (m.bind λb=>f (g a b)):=Wl i y.h z.h he hr
def Bw {tv ty:TE}[MonoE r]{mk:Rs Int}{f:List (Int×M)->Rs L}{d:List (Int×M)}[y:Sl U i v][z:Fo S K v (oD r) d C][q:Ow OO k C](hv:EvS K Er S OO U tv r m)(hy:EvB K Er S OO U ty Xf mk)(hr:∀d' C',Sv Er (S.addO K (oD r) v d' C') (OO.set k C') U u Fd (f d')):Sv Er S OO U (Zf (RQ (JP i) ty tv) u) Fd (m.bind λa=>mk.bind λn=>chk (d.length<sizeLine) (f (KZ d n a))):=Ro i k y.h q.h z.h hv hy hr
variable {B' ι:Type}{J:Jn B ι}
def XJ {J:Jn B ι}(x:ι)(g:B)(h1:OO=J.oo x)(h2:U=J.ss x)[h3:Su S (J.sc g x)]:Sv Er S OO U Bb (FNd J) (.ok g):=Aj x g h1 h2 h3.h
end
def JQ {N:List Str}{vs:List V}{j:Nat}(h:N.length=j+vs.length):Kg N vs=vs.map some++List.replicate j none:=by
 unfold Kg
 rw[show N.length-vs.length=j by omega]
section
variable {ρ:Type}{P:Program}{w:World}{K:W.Frag}{mg:Str->Option Value}{base:Heap}{x:Str}{st:Stmt}{N ps:List Str}{k:Nat}{o:OE ρ}[MonoO o]
abbrev Rm (k:Nat)(x:Str)(st:Stmt)(s:Shared)(f:Addr)(aj:Value)(A:Around):Prop:=Room k (A.deeper (envOfC x (Xg st) s.heap.objs.size f aj))
abbrev Au (x:Str)(st:Stmt)(s:Shared)(f:Addr)(aj:Value)(A:Around):Nat:=(A.deeper (envOfC x (Xg st) s.heap.objs.size f aj)).units
def go1 {α0:Type}{r0:Enc α0}[MonoE r0]{m:α0->Rs ρ}(D:Def K mg x st ps)(S:FnScope N ps (Xg st))(j n:Nat)(hN:N.length=j+1)(hp:ps.length=1)
  (hb:∀{f:Addr}{aj:Value}{A:Around}{outer:List Env}{s:Shared}{H:Hp}{E:XK},Rm k x st s f aj A->Au x st s f aj A+8<cLine->Au x st s f aj A+1<cLine->∃t,PSs (Ih CX0 P w K mg base N x (Xg st) f aj A outer s H E).nox (X4 st) t/\∀v0 a0,Sv (λ_ _=>False) (SC.add SC.nil K r0 v0 a0) (List.replicate n []) (some v0::List.replicate j none) t (FTd K o) (m a0)):Fn P w K mg base (k+1) x ps (sp1 r0 o m K):=by
 refine JW D S (λvs H Q E h=>?_) (λf aj A outer s H vs Q E hr h=>?_)
 ·obtain⟨v0,a0,b,rfl,_⟩:=h;exact hp.symm
 obtain⟨v0,a0,b,rfl,h0,hm,q⟩:=h
 obtain⟨t,hx,hy⟩:=hb hr (hu8 hr) (Jo hr)
 refine⟨t,hx,?_⟩
 rw[JQ hN]
 exact Bj (S:=(SC.add SC.nil K r0 v0 a0)) (U:=some v0::List.replicate j none) n (hy v0 a0) (SC.i SC.t h0) hm q rfl
def go2 {α0 α1:Type}{r0:Enc α0}[MonoE r0]{r1:Enc α1}[MonoE r1]{m:α0->α1->Rs ρ}(D:Def K mg x st ps)(S:FnScope N ps (Xg st))(j n:Nat)(hN:N.length=j+2)(hp:ps.length=2)
  (hb:∀{f:Addr}{aj:Value}{A:Around}{outer:List Env}{s:Shared}{H:Hp}{E:XK},Rm k x st s f aj A->Au x st s f aj A+8<cLine->Au x st s f aj A+1<cLine->∃t,PSs (Ih CX0 P w K mg base N x (Xg st) f aj A outer s H E).nox (X4 st) t/\∀v0 v1 a0 a1,Sv (λ_ _=>False) (SC.add (SC.add SC.nil K r0 v0 a0) K r1 v1 a1) (List.replicate n []) (some v0::some v1::List.replicate j none) t (FTd K o) (m a0 a1)):Fn P w K mg base (k+1) x ps (sp2 r0 r1 o m K):=by
 refine JW D S (λvs H Q E h=>?_) (λf aj A outer s H vs Q E hr h=>?_)
 ·obtain⟨v0,v1,a0,a1,b,rfl,_⟩:=h;exact hp.symm
 obtain⟨v0,v1,a0,a1,b,rfl,h0,h1,hm,q⟩:=h
 obtain⟨t,hx,hy⟩:=hb hr (hu8 hr) (Jo hr)
 refine⟨t,hx,?_⟩
 rw[JQ hN]
 exact Bj (S:=(SC.add (SC.add SC.nil K r0 v0 a0) K r1 v1 a1)) (U:=some v0::some v1::List.replicate j none) n (hy v0 v1 a0 a1) (SC.i (SC.i SC.t h0) h1) hm q rfl
def go3 {α0 α1 α2:Type}{r0:Enc α0}[MonoE r0]{r1:Enc α1}[MonoE r1]{r2:Enc α2}[MonoE r2]{m:α0->α1->α2->Rs ρ}(D:Def K mg x st ps)(S:FnScope N ps (Xg st))(j n:Nat)(hN:N.length=j+3)(hp:ps.length=3)
  (hb:∀{f:Addr}{aj:Value}{A:Around}{outer:List Env}{s:Shared}{H:Hp}{E:XK},Rm k x st s f aj A->Au x st s f aj A+8<cLine->Au x st s f aj A+1<cLine->∃t,PSs (Ih CX0 P w K mg base N x (Xg st) f aj A outer s H E).nox (X4 st) t/\∀v0 v1 v2 a0 a1 a2,Sv (λ_ _=>False) (SC.add (SC.add (SC.add SC.nil K r0 v0 a0) K r1 v1 a1) K r2 v2 a2) (List.replicate n []) (some v0::some v1::some v2::List.replicate j none) t (FTd K o) (m a0 a1 a2)):Fn P w K mg base (k+1) x ps (sp3 r0 r1 r2 o m K):=by
 refine JW D S (λvs H Q E h=>?_) (λf aj A outer s H vs Q E hr h=>?_)
 ·obtain⟨v0,v1,v2,a0,a1,a2,b,rfl,_⟩:=h;exact hp.symm
 obtain⟨v0,v1,v2,a0,a1,a2,b,rfl,h0,h1,h2,hm,q⟩:=h
 obtain⟨t,hx,hy⟩:=hb hr (hu8 hr) (Jo hr)
 refine⟨t,hx,?_⟩
 rw[JQ hN]
 exact Bj (S:=(SC.add (SC.add (SC.add SC.nil K r0 v0 a0) K r1 v1 a1) K r2 v2 a2)) (U:=some v0::some v1::some v2::List.replicate j none) n (hy v0 v1 v2 a0 a1 a2) (SC.i (SC.i (SC.i SC.t h0) h1) h2) hm q rfl
def go4 {α0 α1 α2 α3:Type}{r0:Enc α0}[MonoE r0]{r1:Enc α1}[MonoE r1]{r2:Enc α2}[MonoE r2]{r3:Enc α3}[MonoE r3]{m:α0->α1->α2->α3->Rs ρ}(D:Def K mg x st ps)(S:FnScope N ps (Xg st))(j n:Nat)(hN:N.length=j+4)(hp:ps.length=4)
  (hb:∀{f:Addr}{aj:Value}{A:Around}{outer:List Env}{s:Shared}{H:Hp}{E:XK},Rm k x st s f aj A->Au x st s f aj A+8<cLine->Au x st s f aj A+1<cLine->∃t,PSs (Ih CX0 P w K mg base N x (Xg st) f aj A outer s H E).nox (X4 st) t/\∀v0 v1 v2 v3 a0 a1 a2 a3,Sv (λ_ _=>False) (SC.add (SC.add (SC.add (SC.add SC.nil K r0 v0 a0) K r1 v1 a1) K r2 v2 a2) K r3 v3 a3) (List.replicate n []) (some v0::some v1::some v2::some v3::List.replicate j none) t (FTd K o) (m a0 a1 a2 a3)):Fn P w K mg base (k+1) x ps (sp4 r0 r1 r2 r3 o m K):=by
 refine JW D S (λvs H Q E h=>?_) (λf aj A outer s H vs Q E hr h=>?_)
 ·obtain⟨v0,v1,v2,v3,a0,a1,a2,a3,b,rfl,_⟩:=h;exact hp.symm
 obtain⟨v0,v1,v2,v3,a0,a1,a2,a3,b,rfl,h0,h1,h2,h3,hm,q⟩:=h
 obtain⟨t,hx,hy⟩:=hb hr (hu8 hr) (Jo hr)
 refine⟨t,hx,?_⟩
 rw[JQ hN]
 exact Bj (S:=(SC.add (SC.add (SC.add (SC.add SC.nil K r0 v0 a0) K r1 v1 a1) K r2 v2 a2) K r3 v3 a3)) (U:=some v0::some v1::some v2::some v3::List.replicate j none) n (hy v0 v1 v2 v3 a0 a1 a2 a3) (SC.i (SC.i (SC.i (SC.i SC.t h0) h1) h2) h3) hm q rfl
def go5 {α0 α1 α2 α3 α4:Type}{r0:Enc α0}[MonoE r0]{r1:Enc α1}[MonoE r1]{r2:Enc α2}[MonoE r2]{r3:Enc α3}[MonoE r3]{r4:Enc α4}[MonoE r4]{m:α0->α1->α2->α3->α4->Rs ρ}(D:Def K mg x st ps)(S:FnScope N ps (Xg st))(j n:Nat)(hN:N.length=j+5)(hp:ps.length=5)
  (hb:∀{f:Addr}{aj:Value}{A:Around}{outer:List Env}{s:Shared}{H:Hp}{E:XK},Rm k x st s f aj A->Au x st s f aj A+8<cLine->Au x st s f aj A+1<cLine->∃t,PSs (Ih CX0 P w K mg base N x (Xg st) f aj A outer s H E).nox (X4 st) t/\∀v0 v1 v2 v3 v4 a0 a1 a2 a3 a4,Sv (λ_ _=>False) (SC.add (SC.add (SC.add (SC.add (SC.add SC.nil K r0 v0 a0) K r1 v1 a1) K r2 v2 a2) K r3 v3 a3) K r4 v4 a4) (List.replicate n []) (some v0::some v1::some v2::some v3::some v4::List.replicate j none) t (FTd K o) (m a0 a1 a2 a3 a4)):Fn P w K mg base (k+1) x ps (sp5 r0 r1 r2 r3 r4 o m K):=by
 refine JW D S (λvs H Q E h=>?_) (λf aj A outer s H vs Q E hr h=>?_)
 ·obtain⟨v0,v1,v2,v3,v4,a0,a1,a2,a3,a4,b,rfl,_⟩:=h;exact hp.symm
 obtain⟨v0,v1,v2,v3,v4,a0,a1,a2,a3,a4,b,rfl,h0,h1,h2,h3,h4,hm,q⟩:=h
 obtain⟨t,hx,hy⟩:=hb hr (hu8 hr) (Jo hr)
 refine⟨t,hx,?_⟩
 rw[JQ hN]
 exact Bj (S:=(SC.add (SC.add (SC.add (SC.add (SC.add SC.nil K r0 v0 a0) K r1 v1 a1) K r2 v2 a2) K r3 v3 a3) K r4 v4 a4)) (U:=some v0::some v1::some v2::some v3::some v4::List.replicate j none) n (hy v0 v1 v2 v3 v4 a0 a1 a2 a3 a4) (SC.i (SC.i (SC.i (SC.i (SC.i SC.t h0) h1) h2) h3) h4) hm q rfl
def goL {f:Addr}{fd:FuncData}{α0:Type}{r0:Enc α0}[MonoE r0]{m:α0->Rs ρ}(F:Fun K x x st f fd)(S:FnScope N ps (Xg st))(j n:Nat)(hN:N.length=j+1)(hp:ps.length=1)
  (hb:∀{aj:Value}{A:Around}{outer:List Env}{s:Shared}{H:Hp}{E:XK},Rm k x st s f aj A->Au x st s f aj A+8<cLine->Au x st s f aj A+1<cLine->∃t,PSs (Ih CX0 P w K mg base N x (Xg st) f aj A outer s H E).nox (X4 st) t/\∀v0 a0,Sv (λ_ _=>False) (SC.add SC.nil K r0 v0 a0) (List.replicate n []) (some v0::List.replicate j none) t (FTd K o) (m a0)):FnOk P w K mg base CX0 (k+1) f fd ps (sp1 r0 o m K):=by
 refine F.ok S (λvs H Q E h=>?_) (λaj A outer s H vs Q E hr h=>?_)
 ·obtain⟨v0,a0,b,rfl,_⟩:=h;exact hp.symm
 obtain⟨v0,a0,b,rfl,h0,hm,q⟩:=h
 obtain⟨t,hx,hy⟩:=hb hr (hu8 hr) (Jo hr)
 refine⟨t,hx,?_⟩
 rw[JQ hN]
 exact Bj (S:=SC.add SC.nil K r0 v0 a0) (U:=some v0::List.replicate j none) n (hy v0 a0) (SC.i SC.t h0) hm q rfl
end
section
variable {X:Cx}{a b:Expr}{pos:Pos}{ta tb:TE}(K:W.Frag)(ha:PE X a ta)(hb:PE X b tb)(h:X.K=K:=by rfl)(hs:LJ b:=by exact λ_ _=>rfl)
include ha hb h hs
def Xz:PE X (.Subscript a b pos) (tOp (CY K) ta tb):=RZ (SE K h) ha hb hs
def Xm:PE X (.Subscript a b pos) (tOp (Ij K) ta tb):=RZ (EC K h) ha hb hs
end
section
variable {X:Cx}{N P:List Str}{s:Scope}{x:Str}{pos cC:Pos}{e:Expr}{te:TE}
def pgn (h:FnScope N P s)(i:Nat)(hN:X.N=N:=by rfl)(hi:X.N[i]?=some x:=by rfl)(hx:Loc X.env.scope x:=by exact Or.inl rfl)(hf:X.fn x=true∨X.env.scope.names.lookup x=some .local:=by first |exact .inl rfl |exact .inr rfl |assumption):PG X (.Name x pos) (Yr i):=XB (by rw[hN];exact h.nd) hi hx hf
def psn (h:FnScope N P s)(i:Nat)(he:PE X e te)(hN:X.N=N:=by rfl)(hi:X.N[i]?=some x:=by rfl)(hx:Loc X.env.scope x:=by exact Or.inl rfl)(hs:swapsWith e (some (.Name x cC)) pos.line X.env=pure false:=by rfl)(hf:X.fn x=true∨X.env.scope.names.lookup x=some .local:=by first |exact .inl rfl |exact .inr rfl |assumption):PS X (.Assign [.Name x cC] e pos) (DW te (Yr i)):=UI (by rw[hN];exact h.nd) hi hx he hs hf
end
section
variable {X:Cx}{e o tg iter:Expr}{es:List Expr}{t:TA}{to:TE}{p pos am aB:Pos}{x:Str}{ps:List Str}{sp:Sp}{k j:Nat}
def X8 (K:W.Frag)(hm:X.mg "len" =none)(ha:PA X (e::es) t)(hg:Gl X "len":=by rfl)(h:X.K=K:=by rfl)(he:starEach (e::es) X.env=(false,eval e X.env)::starEach es X.env:=by rfl)(hpl:(backTo pos (starEach es X.env)).any (·.1)=false:=by rfl):PE X (.Call (.Name "len" p) (e::es) [] pos) (tCB (Kr K) t):=XF (F9 K h) hg hm boot_len ha (he:=he) (hpl:=hpl)
def pef (G:Fn X.prog X.w X.K X.mg X.base k x ps sp)(hr:Room j X.A)(ha:PA X (e::es) t)(hj:k<=j:=by decide)(hg:Gl X x:=by rfl)(fD:(x==("__debug__":Str))=false:=by decide)(he:starEach (e::es) X.env=(false,eval e X.env)::starEach es X.env:=by rfl)(hpl:(backTo pos (starEach es X.env)).any (·.1)=false:=by rfl):PE X (.Call (.Name x p) (e::es) [] pos) (Jd sp [] E0 t):=Ws G hr hj ha hg fD he hpl
def psf {body:List Stmt}{wi:TI}{g:TG}{tb:TS}(hi:PI X tg iter wi)(hg:PG X tg g)(hb:PSs X body tb)(hp:PassesOwn (model X.prog X.w) X.A X.env X.xe:=by exact PassesOwn.never)(hc:X.calm=true:=by rfl)(hs:∀x,foldedSetIterable iter X.env x=pure x:=by intro _;rfl):PS X (.For tg iter body [] pos) (Il wi g tb):=Ab hp hc hi hg hb hs
end
end L2
set_option synthInstance.maxSize 2000
set_option synthInstance.maxHeartbeats 400000
namespace My
open PySem L2
def top (i:Nat):Stmt:=PySem.Challenge.pw_plait_k75_mark.main.body.getD i (.Pass ⟨0,0,0,0⟩)
abbrev Qo:Stmt:=top 6
abbrev Vj:Stmt:=top 7
abbrev ZL:Stmt:=top 8
abbrev GV:Stmt:=top 10
abbrev ZY:Stmt:=top 11
abbrev Ze:Stmt:=top 12
abbrev Jr:Stmt:=top 13
abbrev Zn:Stmt:=top 14
abbrev VX:Stmt:=top 17
abbrev ZD:Stmt:=top 18
abbrev Yv:Stmt:=top 19
abbrev Ye:Stmt:=top 20
abbrev Mi:Stmt:=top 23
abbrev JA:Stmt:=top 24
abbrev Uq:Stmt:=top 25
abbrev Y6:Stmt:=top 26
abbrev Qr:Stmt:=top 27
abbrev Zm:Stmt:=top 28
abbrev FJ:Stmt:=top 29
abbrev Mm:Stmt:=top 31
abbrev Lo:Stmt:=top 33
abbrev Q7:Stmt:=top 34
abbrev Zq:Stmt:=top 35
abbrev Qm:Stmt:=top 36
abbrev Be:Stmt:=top 37
abbrev Lv:Stmt:=top 40
abbrev JT:Stmt:=top 41
abbrev Qe:Stmt:=top 42
abbrev Zl:Stmt:=top 43
abbrev Z2:Stmt:=top 44
abbrev I9:Stmt:=top 45
abbrev EW:Stmt:=top 47
abbrev QJ:Stmt:=top 48
abbrev IE:Stmt:=top 50
abbrev RC:Stmt:=top 51
abbrev Ti:Stmt:=top 52
abbrev Fl:Stmt:=top 53
abbrev Zh:Stmt:=top 54
abbrev GJ:Stmt:=top 55
abbrev Bc:Stmt:=top 56
abbrev V5:Stmt:=top 57
abbrev JI:Stmt:=top 58
abbrev Fi:Stmt:=top 59
abbrev Kc:Stmt:=top 60
abbrev AD:Stmt:=top 61
abbrev Tz:Stmt:=top 62
abbrev Li:Stmt:=top 63
abbrev Od:Stmt:=top 64
abbrev Lf:Stmt:=top 65
abbrev BC:Stmt:=top 66
abbrev EA:Stmt:=top 67
abbrev Vo:Stmt:=top 68
abbrev Fq:Stmt:=top 69
abbrev FI:Stmt:=top 70
abbrev VI:Stmt:=top 71
abbrev Ba:Stmt:=top 72
abbrev NY:Stmt:=top 73
abbrev JS:Stmt:=top 74
abbrev Rx:Stmt:=top 75
abbrev GR:Stmt:=top 76
def Om:Scope:={kind:=PySem.ScopeKind.function,names:=[(PySem.Str.ofString ".0",PySem.NameKind.local),(PySem.Str.ofString "a",PySem.NameKind.cell),(PySem.Str.ofString "columns",PySem.NameKind.free)],isGenerator:=false,isCoroutine:=false,more:=[]:PySem.Scope}
def MI:Scope:={kind:=PySem.ScopeKind.function,names:=[(PySem.Str.ofString ".0",PySem.NameKind.local),(PySem.Str.ofString "_law_walk",PySem.NameKind.local),(PySem.Str.ofString "_law_far",PySem.NameKind.free)],isGenerator:=false,isCoroutine:=false,more:=[]:PySem.Scope}
structure Blt (mg:Str->Option Value):Prop where
 b_abs:mg "abs" =none
 b_all:mg "all" =none
 b_bool:mg "bool" =none
 b_dict:mg "dict" =none
 b_enumerate:mg "enumerate" =none
 b_int:mg "int" =none
 b_isinstance:mg "isinstance" =none
 b_len:mg "len" =none
 b_list:mg "list" =none
 b_max:mg "max" =none
 b_min:mg "min" =none
 b_range:mg "range" =none
 b_sorted:mg "sorted" =none
 b_sum:mg "sum" =none
 b_zip:mg "zip" =none
 c_MOST_LISTS:∃u,mg "MOST_LISTS" =some u/\XW (.int 65536) u
 c_MOST_OF_ALL:∃u,mg "MOST_OF_ALL" =some u/\XW (.int 4) u
 c_MOST_TO_COMPARE:∃u,mg "MOST_TO_COMPARE" =some u/\XW (.int 6) u
abbrev Pq (p:Program->World->W.Frag->(Str->Option Value)->Heap->Prop):Prop:=∀ {P w K mg base},Blt mg->p P w K mg base
theorem KO:FnScope ["most","size"] ["most","size"] (Xg Qo):={}
section
variable (P:Program)(w:World)(K:W.Frag)(mg:Str->Option Value)(base:Heap)
abbrev YV (m:Int->Int->Rs Unit):Prop:=Fn P w K mg base 1 "refuse_above" ["most","size"] (sp2 Xf Xf oU m K)
def Qt:{m // Pq λP w K mg base=>Def K mg "refuse_above" Qo ["most","size"]->YV P w K mg base m}:=⟨_, @λP w K mg base Z D=>by
 refine JW D KO (λvs H Q E h=>?_) (λf aj A outer s H vs Q E hr h=>?_)
 ·obtain⟨ab,ac,al,aw,b,rfl,_⟩:=h;rfl
 obtain⟨ab,ac,al,aw,b,rfl,ck,cF,hm,q⟩:=h
 have hu:=hu8 hr
 have ao:=Jo hr
 refine⟨_,(Xb (XV (Xl Fb (pv 1) (pv 0) (Xr _))
   (Xb GZ
   Xe)
   Xe)
  Xe),?_⟩
 refine NM (J:=({oo:=λx3=>[],ss:=λx3=>[some ab,some ac],sc:=λg4 x3=>(SC.add (SC.add SC.nil K Xf ab al) K Xf ac aw)}:Jn (Unit) (Unit))) (K:=K) (S:=(SC.add (SC.add SC.nil K Xf ab al) K Xf ac aw)) (U:=[some ab,some ac]) 0 ?_ (SC.i (SC.i SC.t ck) cF) hm q (λ_ _=>rfl)
 exact(Pr (qt K) (XJ () () rfl rfl))⟩
def YC:=Qt.1
theorem YX:FnScope ["lists","count","longer","ahead","number"] ["lists","count"] (Xg ZL):={}
abbrev ZW (m:QLs->Int->Rs QLs):Prop:=Fn P w K mg base 1 "longer_by_one" ["lists","count"] (sp2 (rV (rV Xf)) Xf (oL (oL (oF Xf))) m K)
def Jf:{m // Pq λP w K mg base=>Def K mg "longer_by_one" ZL ["lists","count"]->ZW P w K mg base m}:=⟨_, @λP w K mg base Z D=>go2 D YX 3 1 rfl rfl λhr hu ao=>⟨_,(Xb (psn YX 2 (Xs Xc))
  (Xb (psf (Xo (K:=K) rfl (pv 0)) (pgn YX 3)
   (Xb (psf (Xx rfl Z.b_range (Xa (pv 1) Xc)) (pgn YX 4)
    (Xb (XV (Xl Jm (pv 4) (pv 3) rfl)
     (Xb (Xy (YW PySem.F.plainAttrs_list PySem.F.slot_list_append PySem.F.type_list_append XC (pv 2) (Xa (Xi Z4 (pv 3) (Xs (Xa (pv 4) Xc))) Xc)))
     Xe)
     Xe)
    Xe))
   Xe))
  (Xb (Xq (pv 2))
  Xe))),λab ac al aw=>(Yl K (o:=(oL (oL (oF Xf)))) 0 (Zt (o:=(oL (oF Xf)))) λa1 v2 C3=>(Qh K (λO (x4:Option V×Option V×V×List XD)=>[x4.2.2.2]) (λs x4=>[some ab,some ac,some x4.2.2.1,x4.1,x4.2.1]) (λS (g5:QLs) x4=>(SC.addO S K (oL (oL (oF Xf))) x4.2.2.1 g5 x4.2.2.2)) (λ_=>tg1 3) ((none),(none),v2,C3) (a1) qw rfl rfl (λ_ s=>(SC.i s s.r)) (λg6 x7 a8 v9=>(Qh K (λO (c6:Option V×V×List XD)=>[c6.2.2]) (λs c6=>[some ab,some ac,some c6.2.1,some v9,c6.1]) (λS (g12:QLs) c6=>(SC.addO S K (oL (oL (oF Xf))) c6.2.1 g12 c6.2.2)) (λ_=>tg1 4) ((x7.2.1),x7.2.2.1,x7.2.2.2) (g6) qw rfl rfl (λ_ s=>(SC.i s s.l.r)) (λiB db j2 v16=>(Y4 (λO (dn:V×List XD)=>[dn.2]) (λs dn=>[some ab,some ac,some dn.1,some v9,some v16]) (λS (g21:QLs) dn=>(SC.addO S K (oL (oL (oF Xf))) dn.1 g21 dn.2)) (X2 (XY (K:=K) (Ts qB qB)) (UU K qN λgR C28=>(XJ (db.2.1,C28) (gR) rfl rfl)) (XJ (db.2.1,db.2.2) (iB) rfl rfl)) λfO bQ=>(XJ ((some v16),bQ.1,bQ.2) (fO) rfl rfl))) λfP de=>(XJ ((some v9),(de.1),de.2.1,de.2.2) (fP) rfl rfl))) λg35 bR=>(Xu Zb)))⟩⟩
def Jp:=Jf.1
theorem Qk:FnScope ["count","told","place"] ["count"] (Xg Vj):={}
abbrev Vv (m:Int->Rs QLs):Prop:=Fn P w K mg base 2 "each_once" ["count"] (sp1 Xf (oL (oL (oF Xf))) m K)
def K2:{m // Pq λP w K mg base=>Def K mg "each_once" Vj ["count"]->ZW P w K mg base Jp->Vv P w K mg base m}:=⟨_, @λP w K mg base Z D aE=>go1 D Qk 2 1 rfl rfl λhr hu ao=>⟨_,(Xb (psn Qk 1 (Xs (Xa (Xs Xc) Xc X3)))
  (Xb (psf (Xx rfl Z.b_range (Xa (pv 0) Xc)) (pgn Qk 2)
   (Xb (psn Qk 1 (pef aE hr (Xa (pv 1) (Xa (pv 0) Xc))))
   Xe))
  (Xb (Xq (pv 1))
  Xe))),λab al=>(Yl K (o:=(oL (oL (oF Xf)))) 0 (Ud (ZU (Zt (o:=(oF Xf))) λ_=>JH)) λa1 v2 C3=>(Qh K (λO (x8:Option V×V×List XD)=>[x8.2.2]) (λs x8=>[some ab,some x8.2.1,x8.1]) (λS (g9:QLs) x8=>(SC.addO S K (oL (oL (oF Xf))) x8.2.1 g9 x8.2.2)) (λ_=>tg1 2) ((none),v2,C3) (a1) qw rfl rfl (λ_ s=>(SC.i s s.r)) (λe7 c6 gS dJ=>(Yl K 0 qN λcw eD C16=>(XJ ((some dJ),eD,C16) (cw) rfl rfl))) λgl bh=>(Xu Zb)))⟩⟩
def Ku:=K2.1
theorem ZA:FnScope ["table","a","row"] ["table"] (Xg ZY):={}
abbrev ZX (m:QLs->Rs (Option (Int×Int))):Prop:=Fn P w K mg base 1 "breach_of_one" ["table"] (sp1 (rV (rV Xf)) (oF (UT (rP2 Xf Xf))) m K)
def JF:{m // Pq λP w K mg base=>Def K mg "breach_of_one" ZY ["table"]->ZX P w K mg base m}:=⟨_, @λP w K mg base Z D=>go1 D ZA 2 0 rfl rfl λhr hu ao=>⟨_,(Xb (psf (KC rfl Z.b_enumerate (pv 0)) (ZM rfl (Xt (pgn ZA 1) (Xt (pgn ZA 2) YJ)))
   (Xb (XV (Xl HV (Xm K (pv 2) (pv 1)) (pv 1) (Xr _))
    (Xb (Xq (Yk (Xa Xd (Xa (pv 1) Xc))))
    Xe)
    Xe)
   Xe))
  (Xb (Xq Ja)
  Xe)),λab al=>(Dl K (λO (x2:Option V×Option V)=>[]) (λs x2=>[some ab,x2.1,x2.2]) (λS (g3:Unit) x2=>S) (λ_=>tg2 1 2) ((none),(none)) () (Jz qS) rfl rfl (λ_ s=>s) (λg4 x5 a6 v7=>(QN (qt K) (Xu (VW SI qM)) (Zs (XJ ((some v7.1),(some v7.2)) () rfl rfl)))) λfQ bx=>(Xu Kl))⟩⟩
def Jg:=JF.1
theorem QI:FnScope ["column","x","colour"] ["column"] (Xg Jr):={}
abbrev Jx (m:(List Int)->Rs (Option (Int×Int))):Prop:=Fn P w K mg base 1 "first_same" ["column"] (sp1 (rV Xf) (oF (UT (rP2 Xf Xf))) m K)
def UJ:{m // Pq λP w K mg base=>Def K mg "first_same" Jr ["column"]->Jx P w K mg base m}:=⟨_, @λP w K mg base Z D=>go1 D QI 2 0 rfl rfl λhr hu ao=>⟨_,(Xb (psf (KC rfl Z.b_enumerate (pv 0)) (ZM rfl (Xt (pgn QI 1) (Xt (pgn QI 2) YJ)))
   (Xb (XV (Xl Kx (pv 2) (XM (Zo K rfl) (pv 0) (XO (Xi XA (pv 1) Xd)) Yj) rfl)
    (Xb (Xq (Yk (Xa (pv 1) (Xa (YW PySem.F.plainAttrs_list PySem.F.slot_list_index PySem.F.type_list_index IM (pv 0) (Xa (pv 2) (Xa (Xi XA (pv 1) Xd) Xc))) Xc))))
    Xe)
    Xe)
   Xe))
  (Xb (Xq Ja)
  Xe)),λab al=>(Dl K (λO (x2:Option V×Option V)=>[]) (λs x2=>[some ab,x2.1,x2.2]) (λS (g3:Unit) x2=>S) (λ_=>tg2 1 2) ((none),(none)) () (Jz qS) rfl rfl (λ_ s=>s) (λg4 x5 a6 v7=>(QN (XY (K:=K) (Pb qB qB)) (Xu (VW SI (EvS.ev (FW qS (EvB.sh (Hy qB qB qB)))))) (Zs (XJ ((some v7.1),(some v7.2)) () rfl rfl)))) λg27 x28=>(Xu Kl))⟩⟩
def Uu:=UJ.1
theorem Zy:FnScope ["table","b","pair"] ["table"] (Xg Ze):={}
abbrev ZO (m:QLs->Rs (Option (Int×Int×Int×Int))):Prop:=Fn P w K mg base 2 "breach_of_two" ["table"] (sp1 (rV (rV Xf)) (oF (UT (rP4 Xf Xf Xf Xf))) m K)
def Jw:{m // Pq λP w K mg base=>Def K mg "breach_of_two" Ze ["table"]->Jx P w K mg base Uu->ZO P w K mg base m}:=⟨_, @λP w K mg base Z D aW=>go1 D Zy 2 0 rfl rfl λhr hu ao=>⟨_,(Xb (psf (Xx rfl Z.b_range (Xa (X8 K Z.b_len (Xa (pv 0) Xc)) Xc)) (XB (i:=1) Zy.nd rfl (Or.inr rfl))
   (Xb (psn Zy 2 (pef aW hr (Xa (Ya (sc:=(Xg Ze)) (N0:=["table","b","pair"]) (tns:=["row"]) (caps:=[(1,"b")]) rfl (Xo (K:=K) rfl (pv 0)) (X0 (by decide)) (λcl C s H ex E=>⟨XB (i:=0) (show List.Nodup (["row","b"]:List Str) by decide+kernel) rfl (Or.inl rfl),YF,(Xm K (pv 0) (pv 1))⟩)) Xc)))
   (Xb (XV (Xl Lw (pv 2) Ja (Xr _))
    (Xb (Xq (Yk (Xa Xd (Xa (pv 1) (Xa (Xz K (pv 2) Xd) (Xa (Xz K (pv 2) Xd) Xc))))))
    Xe)
    Xe)
   Xe)))
  (Xb (Xq Ja)
  Xe)),λab al=>(Dl K (λO (x3:Option V×Option V)=>[]) (λs x3=>[some ab,x3.1,x3.2]) (λS (g4:Unit) x3=>S) (λ_=>tg1 1) ((none),(none)) () qw rfl rfl (λ_ s=>s) (λg5 x6 a7 v8=>(Yc K (r:=(UT (rP2 Xf Xf))) (EvB.sh (Ev.toB (Hv (Ev.toB (YG (λ_=>tg1 0) qw (λiC a13 eE=>qM)))))) λa9 fR=>(QN (XY (K:=K) (Hw (tb:=tC .non) qB)) (Xu (VW Al (EvS.ev (FM qS qS (EvB.sh (Bf (Ce qB))) (EvB.sh (B7 (Ce qB))))))) (Zs (XJ ((some v8),(some fR)) () rfl rfl))))) λiD eF=>(Xu Kl))⟩⟩
def Je:=Jw.1
theorem XZ:FnScope ["table","a","row","b","colour","c"] ["table"] (Xg Zn):={}
abbrev Zj (m:QLs->Rs (Option (Int×Int×Int×Int))):Prop:=Fn P w K mg base 1 "breach_of_three" ["table"] (sp1 (rV (rV Xf)) (oF (UT (rP4 Xf Xf Xf Xf))) m K)
def Qy:{m // Pq λP w K mg base=>Def K mg "breach_of_three" Zn ["table"]->Zj P w K mg base m}:=⟨_, @λP w K mg base Z D=>go1 D XZ 5 0 rfl rfl λhr hu ao=>⟨_,(Xb (psf (KC rfl Z.b_enumerate (pv 0)) (ZM rfl (Xt (pgn XZ 1) (Xt (pgn XZ 2) YJ)))
   (Xb (psf (KC rfl Z.b_enumerate (pv 2)) (ZM rfl (Xt (pgn XZ 3) (Xt (pgn XZ 4) YJ)))
    (Xb (psf (Xx rfl Z.b_range (Xa (X8 K Z.b_len (Xa (pv 0) Xc)) Xc)) (pgn XZ 5)
     (Xb (XV (Xl HV (Xm K (Xm K (pv 0) (pv 4)) (pv 5)) (Xm K (Xm K (pv 0) (Xm K (pv 2) (pv 5))) (Xm K (Xm K (pv 0) (pv 3)) (pv 5))) (Xr _))
      (Xb (Xq (Yk (Xa Xd (Xa (pv 1) (Xa (pv 3) (Xa (pv 5) Xc))))))
      Xe)
      Xe)
     Xe))
    Xe))
   Xe))
  (Xb (Xq Ja)
  Xe)),λab al=>(Dl K (λO (x2:Option V×Option V×Option V×Option V×Option V)=>[]) (λs x2=>[some ab,x2.1,x2.2.1,x2.2.2.1,x2.2.2.2.1,x2.2.2.2.2]) (λS (g3:Unit) x2=>S) (λ_=>tg2 1 2) ((none),(none),(none),(none),(none)) () (Jz qS) rfl rfl (λ_ s=>s) (λg4 x5 a6 v7=>(MW K (λO (x9:Option V×Option V×Option V)=>[]) (λs x9=>[some ab,some v7.1,some v7.2,x9.1,x9.2.1,x9.2.2]) (λS (e7:Unit) x9=>S) (λ_=>tg2 3 4) ((x5.2.2.1),(x5.2.2.2.1),(x5.2.2.2.2)) () (Jz qS) rfl rfl (λ_ s=>s) (λg11 bV a13 eE=>(MW K (λO (eG:Option V)=>[]) (λs eG=>[some ab,some v7.1,some v7.2,some eE.1,some eE.2,eG]) (λS (fQ:Unit) eG=>S) (λ_=>tg1 5) ((bV.2.2)) () qw rfl rfl (λ_ s=>s) (λgm dn iE gT=>(QN (qt K) (Xu (VW Al (EvS.ev (FM qS qS qS qS)))) (Zs (XJ ((some gT)) () rfl rfl)))) λg47 x48=>(Zs (XJ ((some eE.1),(some eE.2),(x48)) () rfl rfl)))) λiF dW=>(Zs (XJ ((some v7.1),(some v7.2),(dW.1),(dW.2.1),(dW.2.2)) () rfl rfl)))) λgn x56=>(Xu Kl))⟩⟩
def QD:=Qy.1
theorem VF:FnScope ["table","wrong"] ["table"] (Xg GV):={}
abbrev FD (m:QLs->Rs (Option (List Int))):Prop:=Fn P w K mg base 3 "broken" ["table"] (sp1 (rV (rV Xf)) (oF (UT (rPL Xf))) m K)
def E4:{m // Pq λP w K mg base=>Def K mg "broken" GV ["table"]->ZX P w K mg base Jg->ZO P w K mg base Je->Zj P w K mg base QD->FD P w K mg base m}:=⟨_, @λP w K mg base Z D aF aG ax=>go1 D VF 1 0 rfl rfl λhr hu ao=>⟨_,(Xb (psn VF 1 (pef aF hr (Xa (pv 0) Xc)))
  (Xb (XV (Xl Hb (pv 1) Ja (Xr _))
   (Xb (psn VF 1 (pef aG hr (Xa (pv 0) Xc)))
   Xe)
   Xe)
  (Xb (XV (Xl Hb (pv 1) Ja (Xr _))
   (Xb (psn VF 1 (pef ax hr (Xa (pv 0) Xc)))
   Xe)
   Xe)
  (Xb (Xq (pv 1))
  Xe)))),λab al=>(Yc K (r:=(UT (rPL Xf))) (Ev.sh (O5 qN)) λa1 v2=>(Y4 (λO (x8:V)=>[]) (λs x8=>[some ab,some x8]) (λS (g9:(Option (List Int))) x8=>(SC.add S K (UT (rPL Xf)) x8 g9)) (X2 (XY (K:=K) (Fp (tb:=tC .non) qB)) (Yc K (r:=(UT (rPL Xf))) (Ev.sh (Eu qN)) λfb bA=>(XJ (bA) (fb) rfl rfl)) (XJ (v2) (a1) rfl rfl)) λj3 dL=>(Y4 (λO (bx:V)=>[]) (λs bx=>[some ab,some bx]) (λS (gl:(Option (List Int))) bx=>(SC.add S K (UT (rPL Xf)) bx gl)) (X2 (XY (K:=K) (Fp (tb:=tC .non) qB)) (Yc K (r:=(UT (rPL Xf))) (Ev.sh (Eu qN)) λiE gT=>(XJ (gT) (iE) rfl rfl)) (XJ (dL) (j3) rfl rfl)) λg27 fe=>(Xu qM))))⟩⟩
def E6:=E4.1
theorem Vk:FnScope ["columns"] ["columns"] (Xg Ye):={}
abbrev Y8 (m:QLs->Rs QLs):Prop:=Fn P w K mg base 1 "table_of_columns" ["columns"] (sp1 (rV (rV Xf)) (oL (oL (oF Xf))) m K)
def Qf:{m // Pq λP w K mg base=>Def K mg "table_of_columns" Ye ["columns"]->Y8 P w K mg base m}:=⟨_, @λP w K mg base Z D=>go1 D Vk 0 0 rfl rfl λhr hu ao=>⟨_,(Xb (Xq (F3 (sc:=(Xg Ye)) (N0:=["columns"]) (tns:=["a"]) (caps:=[(0,"columns")]) rfl (Xx rfl Z.b_range (Xa (X8 K Z.b_len (Xa (pv 0) Xc)) Xc)) (X0 (by decide)) (λcl C s H ex E=>⟨XB (i:=0) (show List.Nodup (["a","columns"]:List Str) by decide+kernel) rfl (Or.inr rfl) (hf:=Or.inl rfl),YF,(F3 (sc:=(WM Om (Xg Ye))) (N0:=["a","columns"]) (tns:=["column"]) (caps:=[(0,"a")]) rfl (Xo (K:=K) rfl (pv 1)) (X0 (by decide)) (λcl C s H ex E=>⟨XB (i:=0) (show List.Nodup (["column","a"]:List Str) by decide+kernel) rfl (Or.inl rfl),YF,(Xm K (pv 0) (pv 1))⟩))⟩)))
  Xe),λab al=>(Xu (YG (λ_=>tg1 0) qw (λC3 a4 v5=>(YG (λ_=>tg1 0) qw (λC7 a8 v9=>qM)))))⟩⟩
def Qg:=Qf.1
theorem YO:FnScope ["choices","columns","longer","ahead"] ["choices","columns"] (Xg Yv):={}
abbrev Y1 (m:(List QLs)->QLs->Rs (List QLs)):Prop:=Fn P w K mg base 1 "longer_by_columns" ["choices","columns"] (je (rV (rV (rV Xf))) (rV (rV Xf)) (oL (oL (oF (rV Xf)))) m K)
def ZP:{m // Pq λP w K mg base=>Def K mg "longer_by_columns" Yv ["choices","columns"]->Y1 P w K mg base m}:=⟨_, @λP w K mg base Z D=>by
 refine JW D YO (λvs H Q E h=>?_) (λf aj A outer s H vs Q E hr h=>?_)
 ·obtain⟨ab,ac,al,aw,b,rfl,_⟩:=h;rfl
 obtain⟨ab,ac,al,aw,b,rfl,Cf,hw,ck,cF,hm,q⟩:=h
 have hu:=hu8 hr
 have ao:=Jo hr
 refine⟨_,(Xb (psn YO 2 (Xs Xc))
  (Xb (psf (Xo (K:=K) rfl (pv 0)) (XB (i:=3) YO.nd rfl (Or.inr rfl))
   (Xb (Xy (YW PySem.F.plainAttrs_list PySem.F.slot_list_extend PySem.F.type_list_extend VA (pv 2) (Xa (Ya (sc:=(Xg Yv)) (N0:=["choices","columns","longer","ahead"]) (tns:=["column"]) (caps:=[(3,"ahead")]) rfl (Xo (K:=K) rfl (pv 1)) (X0 (by decide)) (λcl C s H ex E=>⟨XB (i:=0) (show List.Nodup (["column","ahead"]:List Str) by decide+kernel) rfl (Or.inl rfl),YF,(Xi Z4 (pv 1) (Xs (Xa (pv 0) Xc)))⟩)) Xc)))
   Xe))
  (Xb (Xq (pv 2))
  Xe))),?_⟩
 refine Ng (S:=(SC.add (SC.add SC.nil K (rV (rV (rV Xf))) ab al) K (rV (rV Xf)) ac aw)) (U:=[some ab,some ac,none,none]) 1 ?_ hw (SC.i (SC.i SC.t ck) cF) hm q rfl
 exact(Yl K (o:=(oL (oL (oF (rV Xf))))) 0 (Zt (o:=(oL (oF (rV Xf))))) λa1 v2 C3=>(Qh K (λO (x4:Option V×V×List XD)=>[x4.2.2,Cf]) (λs x4=>[some ab,some ac,some x4.2.1,x4.1]) (λS (g5:(List QLs)) x4=>(SC.addO S K (oL (oL (oF (rV Xf)))) x4.2.1 g5 x4.2.2)) (λ_=>tg1 3) ((none),v2,C3) (a1) qw rfl rfl (λ_ s=>(SC.i s s.r)) (λg6 x7 a8 v9=>(AG K (YG (λ_=>tg1 0) qw (λiG gp gU=>qN)) λiE j4=>(XJ ((some v9),x7.2.1,j4) (iE) rfl rfl))) λgq bL=>(FU (K:=K) 1 (by rfl) Zb)))⟩
def ZQ:=ZP.1
theorem YU:FnScope ["size","lists","told","b"] ["size"] (Xg ZD):={}
abbrev QQ (m:Int->Rs (List QLs)):Prop:=Fn P w K mg base 3 "all_columns" ["size"] (qU Xf (oL (oL (oF (rV Xf)))) m K)
def VQ:{m // Pq λP w K mg base=>Def K mg "all_columns" ZD ["size"]->Vv P w K mg base Ku->Y1 P w K mg base ZQ->QQ P w K mg base m}:=⟨_, @λP w K mg base Z D bi ar=>by
 refine JW D YU (λvs H Q E h=>?_) (λf aj A outer s H vs Q E hr h=>?_)
 ·obtain⟨ab,al,b,rfl,_⟩:=h;rfl
 obtain⟨ab,al,b,rfl,Cf,hw,ck,hm,q⟩:=h
 have hu:=hu8 hr
 have ao:=Jo hr
 refine⟨_,(Xb (psn YU 1 (pef bi hr (Xa (pv 0) Xc)))
  (Xb (psn YU 2 (Xs (Xa (Xs Xc) Xc X3)))
  (Xb (psf (Xx rfl Z.b_range (Xa (pv 0) Xc)) (XB (i:=3) YU.nd rfl (Or.inr rfl))
   (Xb (psn YU 2 (pef ar hr (Xa (pv 2) (Xa (Ya (sc:=(Xg ZD)) (N0:=["size","lists","told","b"]) (tns:=["order"]) (caps:=[(3,"b")]) rfl (Xo (K:=K) rfl (pv 1)) (X0 (by decide)) (λcl C s H ex E=>⟨XB (i:=0) (show List.Nodup (["order","b"]:List Str) by decide+kernel) rfl (Or.inl rfl),(Qs (Xl YL (Xm K (pv 0) (pv 1)) (pv 1) (Xr _))),(pv 0)⟩)) Xc))))
   Xe))
  (Xb (Xq (pv 2))
  Xe)))),?_⟩
 refine Ng (S:=(SC.add SC.nil K Xf ab al)) (U:=[some ab,none,none,none]) 1 ?_ hw (SC.i SC.t ck) hm q rfl
 exact(Yc K qS λa1 v2=>(Yl K (o:=(oL (oL (oF (rV Xf))))) 0 (Ud (ZU (Zt (o:=(oF (rV Xf)))) λ_=>JH)) λa5 v6 C7=>(Qh K (λO (bV:Option V×V×List XD)=>[bV.2.2,Cf]) (λs bV=>[some ab,some v2,some bV.2.1,bV.1]) (λS (iB:(List QLs)) bV=>(SC.addO S K (oL (oL (oF (rV Xf)))) bV.2.1 iB bV.2.2)) (λ_=>tg1 3) ((none),v6,C7) (a5) qw rfl rfl (λ_ s=>(SC.i s s.r)) (λdX dL gW iH=>(Lp (K:=K) (o:=(oL (oL (oF (rV Xf))))) 0 rfl (λ_ s=>s.l.r) (Yl K (o:=(oL (oL (oF (rV Xf))))) 0 (Nj qS (Ev.sh (ZF (λ_=>tg1 0) qw (λj5 gr v24=>(qt K)) (λj5 gr v24=>qM)))) λj6 fS j4=>(XJ ((some iH),fS,j4) (j6) rfl rfl)))) λfP de=>(FU (K:=K) 1 (by rfl) Zb))))⟩
def VZ:=VQ.1
theorem Di:FnScope ["size","tried"] ["size"] (Xg VX):={}
abbrev Fg (m:Int->Rs (List QLs)):Prop:=Fn P w K mg base 4 "tables" ["size"] (sp1 Xf (oL (oL (oL (oF Xf)))) m K)
def E7:{m // Pq λP w K mg base=>Def K mg "tables" VX ["size"]->YV P w K mg base YC->Y8 P w K mg base Qg->QQ P w K mg base VZ->FD P w K mg base E6->Fg P w K mg base m}:=⟨_, @λP w K mg base Z D af au aR b4=>go1 D Di 1 1 rfl rfl λhr hu ao=>⟨_,(Xb (Xy (pef af hr (Xa (Eo Z.c_MOST_OF_ALL rfl) (Xa (pv 0) Xc))))
  (Xb (Vf 1 (Xg VX) ["size","tried"] ["columns"] [] rfl Di.nd rfl rfl (Xo (K:=K) rfl (pef aR hr (Xa (pv 0) Xc))) (X0 (by decide)) (λcl C s H ex E=>⟨XB (i:=0) (show List.Nodup (["columns"]:List Str) by decide+kernel) rfl (Or.inl rfl),YF,(pef au hr (Xa (pv 0) Xc))⟩))
  (Xb (Xq (XF (Ko (Pw eq_int) Wi (DR OF) K rfl (Ci (by decide) hu)) rfl Z.b_sorted PyProof.Rows.boot_sorted (Xa (Ya (sc:=(Xg VX)) (N0:=["size","tried"]) (tns:=["table"]) (caps:=[]) rfl (Xo (K:=K) rfl (pv 1)) (X0 (by decide)) (λcl C s H ex E=>⟨XB (i:=0) (show List.Nodup (["table"]:List Str) by decide+kernel) rfl (Or.inl rfl),(Qs (Xl Hb (pef b4 hr (Xa (pv 0) Xc)) Ja (Xr _))),(pv 0)⟩)) Xc)))
  Xe))),λab al=>(Vt (K:=K) qB (Yl K (o:=(oL (oL (oL (oF Xf))))) 0 (YG (λ_=>tg1 0) (Zv (Ev.sh (Mp qS))) (λiG gp gU=>qN)) λa5 v6 C7=>(Xu (NU (r:=rV Xf) (lt:=ltG ltI) (TQ (K:=K) (o:=(oL (oL (oF Xf)))) (r:=(rV (rV Xf))) 1 0 (by decide) rfl rfl (λ_ s=>s.r) (λC18 gt v20=>(XY (K:=K) (Fp (tb:=tC .non) qB))))))))⟩⟩
def Qa:=E7.1
theorem F4:FnScope ["one","other"] ["one","other"] (Xg JA):={}
abbrev Jh (m:QLs->QLs->Rs Unit):Prop:=Fn P w K mg base 2 "refuse_big" ["one","other"] (sp2 (rV (rV Xf)) (rV (rV Xf)) oU m K)
def UG:{m // Pq λP w K mg base=>Def K mg "refuse_big" JA ["one","other"]->YV P w K mg base YC->Jh P w K mg base m}:=⟨_, @λP w K mg base Z D af=>by
 refine JW D F4 (λvs H Q E h=>?_) (λf aj A outer s H vs Q E hr h=>?_)
 ·obtain⟨ab,ac,al,aw,b,rfl,_⟩:=h;rfl
 obtain⟨ab,ac,al,aw,b,rfl,ck,cF,hm,q⟩:=h
 have hu:=hu8 hr
 have ao:=Jo hr
 refine⟨_,(Xb (Xy (pef af hr (Xa (Eo Z.c_MOST_TO_COMPARE rfl) (Xa (XF (VU rfl) rfl Z.b_max PyProof.Rows.boot_max (Xa (X8 K Z.b_len (Xa (pv 0) Xc)) (Xa (X8 K Z.b_len (Xa (pv 1) Xc)) Xc))) Xc))))
  Xe),?_⟩
 refine NM (J:=({oo:=λx3=>[],ss:=λx3=>[some ab,some ac],sc:=λg4 x3=>(SC.add (SC.add SC.nil K (rV (rV Xf)) ab al) K (rV (rV Xf)) ac aw)}:Jn (Unit) (Unit))) (K:=K) (S:=(SC.add (SC.add SC.nil K (rV (rV Xf)) ab al) K (rV (rV Xf)) ac aw)) (U:=[some ab,some ac]) 0 ?_ (SC.i (SC.i SC.t ck) cF) hm q (λ_ _=>rfl)
 exact(Vt (K:=K) qB (XJ () () rfl rfl))⟩
def UB:=UG.1
theorem Qc:FnScope ["one","other","images","a","b","result"] ["one","other","images","a","b"] (Xg Zm):={}
abbrev Zg (m:QLs->QLs->(List Int)->Int->Int->Rs Bool):Prop:=Fn P w K mg base 1 "equation_broken" ["one","other","images","a","b"] (sp5 (rV (rV Xf)) (rV (rV Xf)) (rPL Xf) Xf Xf (oF XI) m K)
def QG:{m // Pq λP w K mg base=>Def K mg "equation_broken" Zm ["one","other","images","a","b"]->Zg P w K mg base m}:=⟨_, @λP w K mg base Z D=>go5 D Qc 1 0 rfl rfl λhr hu ao=>⟨_,(Xb (psn Qc 5 (Xm K (Xm K (pv 0) (pv 3)) (pv 4)))
  (Xb (Xq (Le (Y2 UR (pv 5) (X8 K Z.b_len (Xa (pv 2) Xc)) (Xr _)) (IX (Y2 HV (Xm K (Xm K (pv 1) (Xz K (pv 2) (pv 3))) (Xz K (pv 2) (pv 4))) (Xz K (pv 2) (pv 5)) (Xr _)))))
  Xe)),λab ac aJ df v_4 al aw bW fw a_4=>(Yc K qS λa1 v2=>(Xu qM))⟩⟩
def Qz:=QG.1
theorem ZT:FnScope ["one","other","images","a","b"] ["one","other","images"] (Xg Qr):={}
abbrev Qq (m:QLs->QLs->(List Int)->Rs (Option (Int×Int))):Prop:=Fn P w K mg base 2 "first_breach" ["one","other","images"] (sp3 (rV (rV Xf)) (rV (rV Xf)) (rPL Xf) (oF (UT (rP2 Xf Xf))) m K)
def J6:{m // Pq λP w K mg base=>Def K mg "first_breach" Qr ["one","other","images"]->Zg P w K mg base Qz->Qq P w K mg base m}:=⟨_, @λP w K mg base Z D az=>go3 D ZT 2 0 rfl rfl λhr hu ao=>⟨_,(Xb (psf (Xx rfl Z.b_range (Xa (X8 K Z.b_len (Xa (pv 2) Xc)) Xc)) (pgn ZT 3)
   (Xb (psf (Xx rfl Z.b_range (Xa (X8 K Z.b_len (Xa (pv 2) Xc)) Xc)) (pgn ZT 4)
    (Xb (XV (Q9 (pef az hr (Xa (pv 0) (Xa (pv 1) (Xa (pv 2) (Xa (pv 3) (Xa (pv 4) Xc)))))))
     (Xb (Xq (Yk (Xa (pv 3) (Xa (pv 4) Xc))))
     Xe)
     Xe)
    Xe))
   Xe))
  (Xb (Xq Ja)
  Xe)),λab ac aJ al aw bW=>(Dl K (λO (x3:Option V×Option V)=>[]) (λs x3=>[some ab,some ac,some aJ,x3.1,x3.2]) (λS (g4:Unit) x3=>S) (λ_=>tg1 3) ((none),(none)) () qw rfl rfl (λ_ s=>s) (λg5 x6 a7 v8=>(MW K (λO (c6:Option V)=>[]) (λs c6=>[some ab,some ac,some aJ,some v8,c6]) (λS (g12:Unit) c6=>S) (λ_=>tg1 4) ((x6.2)) () qw rfl rfl (λ_ s=>s) (λiB db j2 v16=>(QN (DB (K:=K) (Ev.toB (Oz qB qB qB qB qB))) (Xu (VW SI qM)) (Zs (XJ ((some v16)) () rfl rfl)))) λg29 bQ=>(Zs (XJ ((some v8),(bQ)) () rfl rfl)))) λiI x34=>(Xu Kl))⟩⟩
def J7:=J6.1
theorem UP:FnScope ["images","size"] ["images","size"] (Xg Y6):={}
abbrev Z1 (m:(List Int)->Int->Rs QLs):Prop:=Fn P w K mg base 1 "longer_images" ["images","size"] (sp2 (rPL Xf) Xf (oL (oF (rPL Xf))) m K)
def JB:{m // Pq λP w K mg base=>Def K mg "longer_images" Y6 ["images","size"]->Z1 P w K mg base m}:=⟨_, @λP w K mg base Z D=>go2 D UP 0 0 rfl rfl λhr hu ao=>⟨_,(Xb (Xq (Ya (sc:=(Xg Y6)) (N0:=["images","size"]) (tns:=["colour"]) (caps:=[(0,"images")]) rfl (Lr rfl Z.b_range (Xa (Xi Qj (pv 1) Xd) (Xa (Zx Yx Xd) (Xa (Zx Yx Xd) Xc)))) (X0 (by decide)) (λcl C s H ex E=>⟨XB (i:=0) (show List.Nodup (["colour","images"]:List Str) by decide+kernel) rfl (Or.inl rfl),(Qs (Xl (Fh K rfl) (pv 0) (pv 1) rfl)),(Xi (U8 K rfl) (pv 1) (Yk (Xa (pv 0) Xc)))⟩)))
  Xe),λab ac al aw=>(Xu (ZF (λ_=>tg1 0) (Ed qB qB qB) (λC8 a9 fR=>(XY (K:=K) (EI qB qB))) (λC8 a9 fR=>(EvS.ev (EvB.sh (Ka qB (Ev.toB (EvS.ev (Z9 (Yn qS BZ))))))))))⟩⟩
def Jt:=JB.1
theorem Z0:FnScope ["one","other","paper","waiting","images","breach"] ["one","other"] (Xg Uq):={}
abbrev Ue (m:QLs->QLs->Rs ((Option (List Int))×(List ((List Int)×Int×Int)))):Prop:=Fn P w K mg base 3 "searched" ["one","other"] (sp2 (rV (rV Xf)) (rV (rV Xf)) (oT2 (R1 (oL (oF Xf))) (oL (oF (rP3 (rPL Xf) Xf Xf)))) m K)
def Gq:{m // Pq λP w K mg base=>Def K mg "searched" Uq ["one","other"]->Qq P w K mg base J7->Z1 P w K mg base Jt->Ue P w K mg base m}:=⟨_, @λP w K mg base Z D aK aH=>go2 D Z0 4 2 rfl rfl λhr hu ao=>⟨_,(Xb (psn Z0 2 (Xs Xc))
  (Xb (psn Z0 3 (ED (Xl YL (X8 K Z.b_len (Xa (pv 0) Xc)) (X8 K Z.b_len (Xa (pv 1) Xc)) (Xr _)) (Xs (Xa (Yk Xc) Xc)) (Xs Xc)))
  (Xb (GY PassesOwn.never (Xl Fb (X8 K Z.b_len (Xa (pv 3) Xc)) Xd (Xr _))
   (Xb (psn Z0 4 (Wm PySem.F.plainAttrs_list PySem.F.slot_list_pop PySem.F.type_list_pop Ap (pv 3)))
   (Xb (psn Z0 5 (pef aK hr (Xa (pv 0) (Xa (pv 1) (Xa (pv 4) Xc)))))
   (Xb (XV (Xl Lw (pv 5) Ja (Xr _))
    (Xb (Xy (YW PySem.F.plainAttrs_list PySem.F.slot_list_append PySem.F.type_list_append XC (pv 2) (Xa (Yk (Xa (pv 4) (Xa (Xz K (pv 5) Xd) (Xa (Xz K (pv 5) Xd) Xc)))) Xc)))
    Xe)
    (Xb (XV (Xl YL (X8 K Z.b_len (Xa (pv 4) Xc)) (X8 K Z.b_len (Xa (pv 0) Xc)) (Xr _))
     (Xb (Xq (Yk (Xa (Yg (ZC K rfl) rfl Z.b_list PyProof.Rows.boot_list (Xa (pv 4) Xc)) (Xa (pv 2) Xc))))
     Xe)
     (Xb (Xy (YW PySem.F.plainAttrs_list PySem.F.slot_list_extend PySem.F.type_list_extend VA (pv 3) (Xa (pef aH hr (Xa (pv 4) (Xa (X8 K Z.b_len (Xa (pv 1) Xc)) Xc))) Xc)))
     Xe))
    Xe))
   Xe))))
  (Xb (Xq (Yk (Xa Ja (Xa (pv 2) Xc))))
  Xe)))),λab ac al aw=>(Yl K (o:=(oL (oF (rP3 (rPL Xf) Xf Xf)))) 0 (Zt (o:=(oF (rP3 (rPL Xf) Xf Xf)))) λa1 v2 C3=>(Yl K (o:=(oL (oF (rPL Xf)))) 1 (WX (qt K) (JY (Yn (Z9 BZ) qa)) (Zt (o:=(oF (rPL Xf))))) λa4 v5 C6=>(Ry K (λO (aA:Option V×Option V×V×V×List XD×List XD)=>[aA.2.2.2.2.2,aA.2.2.2.2.1]) (λs aA=>[some ab,some ac,some aA.2.2.2.1,some aA.2.2.1,aA.1,aA.2.1]) (λS (fT:QLs×(List ((List Int)×Int×Int))) aA=>(SC.addO (SC.addO S K (oL (oF (rPL Xf))) aA.2.2.1 fT.1 aA.2.2.2.2.1) K (oL (oF (rP3 (rPL Xf) Xf Xf))) aA.2.2.2.1 fT.2 aA.2.2.2.2.2)) (al.length+100000) ((none),(none),v5,v2,C6,C3) (a4,a1) rfl rfl (λ_ s=>(SC.i (SC.i s s.r) s.l.r)) (λfQ bx=>(qt K)) (λfQ bx=>(AR K λgr iJ v25 C26=>(Yc K qS λgX fz=>(Ph (λO (bR:V×V×List XD×List XD)=>[bR.2.2.1,bR.2.2.2]) (λs bR=>[some ab,some ac,some bR.1,some bR.2.1,some v25,some fz]) (λS (fU:(List ((List Int)×Int×Int))×QLs) bR=>(SC.addO (SC.addO S K (oL (oF (rP3 (rPL Xf) Xf Xf))) bR.1 fU.1 bR.2.2.1) K (oL (oF (rPL Xf))) bR.2.1 fU.2 bR.2.2.2)) (X2 (XY (K:=K) (Hw (tb:=tC .non) qB)) (UU K (EvS.ev (FY qS (EvB.sh (Bf (Ce qB))) (EvB.sh (B7 (Ce qB))))) λa45 C44=>(Zs (XJ (bx.2.2.2.1,bx.2.2.1,C44,C26) (a45,iJ) rfl rfl))) (Ph (λO (dW:V×List XD)=>[bx.2.2.2.2.2,dW.2]) (λs dW=>[some ab,some ac,some bx.2.2.2.1,some dW.1,some v25,some fz]) (λS (g53:QLs) dW=>(SC.addO S K (oL (oF (rPL Xf))) dW.1 g53 dW.2)) (X2 (qt K) (SR (Xu (JU (Sx ji (N1 qB)) λ_=>(Zb (k:=1))))) (AG K qN λa65 C64=>(Zs (XJ (bx.2.2.1,C64) (a65) rfl rfl)))) λg68 gY=>(Zs (XJ (bx.2.2.2.1,gY.1,bx.2.2.2.2.2,gY.2) (fQ.2,g68) rfl rfl)))) λg71 gZ=>(Zs (XJ ((some v25),(some fz),gZ.2.1,gZ.1,gZ.2.2.2,gZ.2.2.1) (g71.2,g71.1) rfl rfl)))))) λg73 x74=>(Xu (JU TY λ_=>(Zb (k:=1)))))))⟩⟩
def Gp:=Gq.1
theorem Sn:FnScope ["one","other"] ["one","other"] (Xg Mi):={}
abbrev Nl (m:QLs->QLs->Rs (Option (List Int))):Prop:=Fn P w K mg base 4 "like" ["one","other"] (sp2 (rV (rV Xf)) (rV (rV Xf)) (R1 (oL (oF Xf))) m K)
def Pk:{m // Pq λP w K mg base=>Def K mg "like" Mi ["one","other"]->Jh P w K mg base UB->Ue P w K mg base Gp->Nl P w K mg base m}:=⟨_, @λP w K mg base Z D aX bB=>go2 D Sn 0 0 rfl rfl λhr hu ao=>⟨_,(Xb (Xy (pef aX hr (Xa (pv 0) (Xa (pv 1) Xc))))
  (Xb (Xq (Xz K (pef bB hr (Xa (pv 0) (Xa (pv 1) Xc))) Xd))
  Xe)),λab ac al aw=>(Vt (K:=K) qB (Xu (Se qN)))⟩⟩
def Mj:=Pk.1
theorem FX:FnScope ["size","told","table"] ["size"] (Xg FJ):={}
abbrev Dc (m:Int->Rs (List QLs)):Prop:=Fn P w K mg base 5 "kinds" ["size"] (sp1 Xf (oL (oL (oL (oF Xf)))) m K)
def Ef:{m // Pq λP w K mg base=>Def K mg "kinds" FJ ["size"]->Fg P w K mg base Qa->Nl P w K mg base Mj->Dc P w K mg base m}:=⟨_, @λP w K mg base Z D b5 dq=>go1 D FX 2 3 rfl rfl λhr hu ao=>⟨_,(Xb (psn FX 1 (Xs Xc))
  (Xb (psf (Xo (K:=K) rfl (pef b5 hr (Xa (pv 0) Xc))) (XB (i:=2) FX.nd rfl (Or.inr rfl))
   (Xb (XV (Q9 (XF (DN rfl) rfl Z.b_all PyProof.Rows.boot_all (Xa (Ya (sc:=(Xg FJ)) (N0:=["size","told","table"]) (tns:=["kind"]) (caps:=[(2,"table")]) rfl (Xo (K:=K) rfl (pv 1)) (X0 (by decide)) (λcl C s H ex E=>⟨XB (i:=0) (show List.Nodup (["kind","table"]:List Str) by decide+kernel) rfl (Or.inl rfl),YF,(Y2 Hb (pef dq hr (Xa (pv 0) (Xa (pv 1) Xc))) Ja (Xr _))⟩)) Xc)))
    (Xb (Xy (YW PySem.F.plainAttrs_list PySem.F.slot_list_append PySem.F.type_list_append XC (pv 1) (Xa (pv 2) Xc)))
    Xe)
    Xe)
   Xe))
  (Xb (Xq (pv 1))
  Xe))),λab al=>(Yl K (o:=(oL (oL (oL (oF Xf))))) 0 (Zt (o:=(oL (oL (oF Xf))))) λa1 v2 C3=>(A8 K (o:=(oL (oL (oF Xf)))) (λO (x6:Option V×V×List XD)=>[x6.2.2,[],[]]) (λs x6=>[some ab,some x6.2.1,x6.1]) (λS (g7:(List QLs)) x6=>(SC.addO S K (oL (oL (oL (oF Xf)))) x6.2.1 g7 x6.2.2)) 1 2 2 ((none),v2,C3) (a1) qN rfl rfl (λ_ s=>(SC.i s s.r)) (λ_=>rfl) (λ_=>rfl) (by decide) (λR13 g8 x9 fb bA iC=>(Y4 (λO (bf:V×Option V×List XD)=>[bf.2.2,[],R13]) (λs bf=>[some ab,some bf.1,bf.2.1]) (λS (fA:(List QLs)) bf=>(SC.addO S K (oL (oL (oL (oF Xf)))) bf.1 fA bf.2.2)) (X2 (DB (K:=K) (M8 (Ev.toB (Bx (K:=K) (o1:=(oL (oL (oL (oF Xf))))) 0 rfl (λ_ s=>s.l.r) (YG (λ_=>tg1 0) qw (λC14 j2 v16=>(EvS.ev (EvB.sh (Fp (tb:=tC .non) qB))))))))) (UU K Zb λgX C27=>(XJ (x9.2.1,(some bA),C27) (gX) rfl rfl)) (FQ 1 (XJ (x9.2.1,(some bA),x9.2.2) (g8) rfl rfl))) λiD j7=>(XJ ((j7.2.1),j7.1,j7.2.2) (iD) rfl rfl))) λfO fB=>(Xu Zb)))⟩⟩
def Zz:=Ef.1
theorem Ei:FnScope ["drawing","passage","at","walk"] ["drawing","passage"] (Xg Mm):={}
abbrev IC (m:QDr->Int->Rs (Int×Int)):Prop:=Fn P w K mg base 1 "spot" ["drawing","passage"] (sp2 (rP2 (rV (rV Xf)) (rV (rP2 Xf Xf))) Xf (oF (rP2 Xf Xf)) m K)
def MZ:{m // Pq λP w K mg base=>Def K mg "spot" Mm ["drawing","passage"]->IC P w K mg base m}:=⟨_, @λP w K mg base Z D=>go2 D Ei 2 0 rfl rfl λhr hu ao=>⟨_,(Xb (psf (KC rfl Z.b_enumerate (Xz K (pv 0) Xd)) (ZM rfl (Xt (pgn Ei 2) (Xt (pgn Ei 3) YJ)))
   (Xb (XV (Xl Kx (pv 1) (pv 3) rfl)
    (Xb (Xq (Yk (Xa (pv 2) (Xa (Ah (K:=K) rfl PySem.F.plainAttrs_list PySem.F.slot_list_index PySem.F.type_list_index (M9 K rfl) (pv 3) (Xa (pv 1) Xc)) Xc))))
    Xe)
    Xe)
   Xe))
  (Xb GZ
  Xe)),λab ac al aw=>(Dl K (λO (x3:Option V×Option V)=>[]) (λs x3=>[some ab,some ac,x3.1,x3.2]) (λS (g4:Unit) x3=>S) (λ_=>tg2 2 3) ((none),(none)) () (Jz qS) rfl rfl (λ_ s=>s) (λg5 x6 a7 v8=>(QN (XY (K:=K) (Pb qB qB)) (Xu (EvS.ev (FW qS (EvB.sh (Nc qB qB))))) (Zs (XJ ((some v8.1),(some v8.2)) () rfl rfl)))) λfQ bx=>WN)⟩⟩
def EK:=MZ.1
theorem JD:FnScope ["walk","unders"] ["walk"] (Xg Zq):={}
abbrev YR (m:(List Int)->Rs Int):Prop:=Fn P w K mg base 1 "arcs_of_walk" ["walk"] (sp1 (rV Xf) (oF Xf) m K)
def Qp:{m // Pq λP w K mg base=>Def K mg "arcs_of_walk" Zq ["walk"]->YR P w K mg base m}:=⟨_, @λP w K mg base Z D=>go1 D JD 1 0 rfl rfl λhr hu ao=>⟨_,(Xb (Vf 1 (Xg Zq) ["walk","unders"] ["passage"] [] rfl JD.nd rfl rfl (Xo (K:=K) rfl (pv 0)) (X0 (by decide)) (λcl C s H ex E=>⟨XB (i:=0) (show List.Nodup (["passage"]:List Str) by decide+kernel) rfl (Or.inl rfl),(Qs (Xl UR (pv 0) Xd (Xr _))),(pv 0)⟩))
  (Xb (Xq (XF (VU rfl) rfl Z.b_max PyProof.Rows.boot_max (Xa (X8 K Z.b_len (Xa (pv 1) Xc)) (Xa Xd Xc))))
  Xe)),λab al=>(Yc K (r:=(rV Xf)) (Ev.sh (ZF (λ_=>tg1 0) qw (λC3 a4 v5=>(qt K)) (λC3 a4 v5=>qM))) λa1 v2=>(Xu qM))⟩⟩
def YB:=Qp.1
theorem Yp:FnScope ["walk","first","number","unders","ways","passage"] ["walk","first"] (Xg Qm):={}
abbrev Qw (m:(List Int)->Int->Rs (List Int)):Prop:=Fn P w K mg base 2 "arcs_of_ways" ["walk","first"] (sp2 (rV Xf) Xf (oL (oF Xf)) m K)
def Qn:{m // Pq λP w K mg base=>Def K mg "arcs_of_ways" Qm ["walk","first"]->YR P w K mg base YB->Qw P w K mg base m}:=⟨_, @λP w K mg base Z D ag=>go2 D Yp 4 1 rfl rfl λhr hu ao=>⟨_,(Xb (psn Yp 2 (pef ag hr (Xa (pv 0) Xc)))
  (Xb (psn Yp 3 Xd)
  (Xb (psn Yp 4 (Xs (Xa (pv 1) Xc)))
  (Xb (psf (Xo (K:=K) rfl (XM (Zo K rfl) (pv 0) Yj (XO (Zx Yx Xd)))) (pgn Yp 5)
   (Xb (XV (Xl UR (pv 5) Xd (Xr _))
    (Xb (LV (i:=3) Yp.nd rfl (Or.inl rfl) Xd Pz)
    Xe)
    Xe)
   (Xb (Xy (YW PySem.F.plainAttrs_list PySem.F.slot_list_append PySem.F.type_list_append XC (pv 4) (Xa (Xi XA (pv 1) (Xi Yd (pv 3) (pv 2))) Xc)))
   Xe)))
  (Xb (Xq (pv 4))
  Xe))))),λab ac al aw=>(Yc K qS λa1 v2=>(Yc K qS λa5 v6=>(Yl K 0 qN λa7 v8 C9=>(Qh K (λO (bH:Option V×V×V×List XD)=>[bH.2.2.2]) (λs bH=>[some ab,some ac,some v2,some bH.2.1,some bH.2.2.1,bH.1]) (λS (gm:Int×(List Int)) bH=>(SC.addO (SC.add S K Xf bH.2.1 gm.1) K (oL (oF Xf)) bH.2.2.1 gm.2 bH.2.2.2)) (λ_=>tg1 5) ((none),v6,v8,C9) (a5,a7) qw rfl rfl (λ_ s=>(SC.i (SC.i s s.l.r) s.r)) (λgl bh a22 hJ=>(Y4 (λO (cG:V)=>[bh.2.2.2]) (λs cG=>[some ab,some ac,some v2,some cG,some bh.2.2.1,some hJ]) (λS (j8:Int) cG=>(SC.add S K Xf cG j8)) (X2 (qt K) (qO K qB λdY gu=>(XJ (gu) (dY) rfl rfl)) (XJ (bh.2.1) (gl.1) rfl rfl)) λiI fB=>(UU K qM λiK j9=>(XJ ((some hJ),fB,bh.2.2.1,j9) (iI,iK) rfl rfl)))) λg41 iL=>(Xu Zb)))))⟩⟩
def Zr:=Qn.1
theorem K7:FnScope ["drawing","told","first","walk"] ["drawing"] (Xg Lo):={}
abbrev IA (m:QDr->Rs QLs):Prop:=Fn P w K mg base 3 "arcs" ["drawing"] (sp1 (rP2 (rV (rV Xf)) (rV (rP2 Xf Xf))) (oL (oL (oF Xf))) m K)
def LD:{m // Pq λP w K mg base=>Def K mg "arcs" Lo ["drawing"]->YR P w K mg base YB->Qw P w K mg base Zr->IA P w K mg base m}:=⟨_, @λP w K mg base Z D ag aL=>go1 D K7 3 1 rfl rfl λhr hu ao=>⟨_,(Xb (psn K7 1 (Xs Xc))
  (Xb (psn K7 2 Xd)
  (Xb (psf (Xo (K:=K) rfl (Xz K (pv 0) Xd)) (pgn K7 3)
   (Xb (Xy (YW PySem.F.plainAttrs_list PySem.F.slot_list_append PySem.F.type_list_append XC (pv 1) (Xa (pef aL hr (Xa (pv 3) (Xa (pv 2) Xc))) Xc)))
   (Xb (LV (i:=2) K7.nd rfl (Or.inl rfl) (pef ag hr (Xa (pv 3) Xc)) Pz)
   Xe)))
  (Xb (Xq (pv 1))
  Xe)))),λab al=>(Yl K (o:=(oL (oL (oF Xf)))) 0 (Zt (o:=(oL (oF Xf)))) λa1 v2 C3=>(Yc K qS λa4 v5=>(Qh K (λO (x7:Option V×V×V×List XD)=>[x7.2.2.2]) (λs x7=>[some ab,some x7.2.2.1,some x7.2.1,x7.1]) (λS (g8:Int×QLs) x7=>(SC.addO (SC.add S K Xf x7.2.1 g8.1) K (oL (oL (oF Xf))) x7.2.2.1 g8.2 x7.2.2.2)) (λ_=>tg1 3) ((none),v5,v2,C3) (a4,a1) qw rfl rfl (λ_ s=>(SC.i (SC.i s s.r) s.l.r)) (λg9 x10 gp gU=>(UU K qN λj6 C17=>(qO K qB λgr gT=>(XJ ((some gU),gT,x10.2.2.1,C17) (gr,j6) rfl rfl)))) λhU x25=>(Xu Zb))))⟩⟩
def Ep:=LD.1
theorem DI:FnScope ["drawing"] ["drawing"] (Xg Q7):={}
abbrev QH (m:QDr->Rs Int):Prop:=Fn P w K mg base 2 "arc_count" ["drawing"] (sp1 (rP2 (rV (rV Xf)) (rV (rP2 Xf Xf))) (oF Xf) m K)
def Va:{m // Pq λP w K mg base=>Def K mg "arc_count" Q7 ["drawing"]->YR P w K mg base YB->QH P w K mg base m}:=⟨_, @λP w K mg base Z D ag=>go1 D DI 0 0 rfl rfl λhr hu ao=>⟨_,(Xb (Xq (XF (Mf rfl) rfl Z.b_sum PyProof.Rows.boot_sum (Xa (Ya (sc:=(Xg Q7)) (N0:=["drawing"]) (tns:=["walk"]) (caps:=[]) rfl (Xo (K:=K) rfl (Xz K (pv 0) Xd)) (X0 (by decide)) (λcl C s H ex E=>⟨XB (i:=0) (show List.Nodup (["walk"]:List Str) by decide+kernel) rfl (Or.inl rfl),YF,(pef ag hr (Xa (pv 0) Xc))⟩)) Xc)))
  Xe),λab al=>(Xu (EvS.ev (EvB.sh (Sa (Ev.toB (YG (λ_=>tg1 0) qw (λC3 a4 v5=>qN)))))))⟩⟩
def ZS:=Va.1
theorem Zd:FnScope ["drawing","numbers","told","crossing","sign","above","below","over","ways","inward","outward"] ["drawing"] (Xg Be):={}
abbrev B0 (m:QDr->Rs (List (Int×Int×Int×Int×Int))):Prop:=Fn P w K mg base 4 "meets" ["drawing"] (sp1 (rP2 (rV (rV Xf)) (rV (rP2 Xf Xf))) (oL (oF (rP5 Xf Xf Xf Xf Xf))) m K)
def Bp:{m // Pq λP w K mg base=>Def K mg "meets" Be ["drawing"]->IA P w K mg base Ep->IC P w K mg base EK->B0 P w K mg base m}:=⟨_, @λP w K mg base Z D dr cH=>go1 D Zd 10 1 rfl rfl λhr hu ao=>⟨_,(Xb (psn Zd 1 (pef dr hr (Xa (pv 0) Xc)))
  (Xb (psn Zd 2 (Xs Xc))
  (Xb (psf (Xo (K:=K) rfl (Xz K (pv 0) Xd)) (ZM rfl (Xt (pgn Zd 3) (Xt (pgn Zd 4) YJ)))
   (Xb (psn Zd 5 (pef cH hr (Xa (pv 0) (Xa (pv 3) Xc))))
   (Xb (psn Zd 6 (pef cH hr (Xa (pv 0) (Xa (Zx Yx (pv 3)) Xc))))
   (Xb (psn Zd 7 (Xm K (Xm K (pv 1) (Xz K (pv 5) Xd)) (Xz K (pv 5) Xd)))
   (Xb (psn Zd 8 (Xm K (pv 1) (Xz K (pv 6) Xd)))
   (Xb (psn Zd 9 (Xm K (pv 8) (Xz K (pv 6) Xd)))
   (Xb (psn Zd 10 (Xm K (pv 8) (Xi Yd (Xi XA (Xz K (pv 6) Xd) Xd) (X8 K Z.b_len (Xa (pv 8) Xc)))))
   (Xb (Xy (YW PySem.F.plainAttrs_list PySem.F.slot_list_append PySem.F.type_list_append XC (pv 2) (Xa (Yk (Xa (pv 3) (Xa (pv 4) (Xa (pv 7) (Xa (pv 9) (Xa (pv 10) Xc)))))) Xc)))
   Xe))))))))
  (Xb (Xq (pv 2))
  Xe)))),λab al=>(Yc K qS λa1 v2=>(Yl K (o:=(oL (oF (rP5 Xf Xf Xf Xf Xf)))) 0 (Zt (o:=(oF (rP5 Xf Xf Xf Xf Xf)))) λa5 v6 C7=>(Qh K (λO (x9:Option V×Option V×Option V×Option V×Option V×Option V×Option V×Option V×V×List XD)=>[x9.2.2.2.2.2.2.2.2.2]) (λs x9=>[some ab,some v2,some x9.2.2.2.2.2.2.2.2.1,x9.1,x9.2.1,x9.2.2.1,x9.2.2.2.1,x9.2.2.2.2.1,x9.2.2.2.2.2.1,x9.2.2.2.2.2.2.1,x9.2.2.2.2.2.2.2.1]) (λS (e7:(List (Int×Int×Int×Int×Int))) x9=>(SC.addO S K (oL (oF (rP5 Xf Xf Xf Xf Xf))) x9.2.2.2.2.2.2.2.2.1 e7 x9.2.2.2.2.2.2.2.2.2)) (λ_=>tg2 3 4) ((none),(none),(none),(none),(none),(none),(none),(none),v6,C7) (a5) qw rfl rfl (λ_ s=>(SC.i s s.r)) (λg11 bV a13 eE=>(Yc K qS λj2 v16=>(Yc K qS λiM v21=>(Yc K qS λa26 kd=>(Yc K qS λa34 ke=>(Yc K qS λa39 v40=>(Yc K qS λa44 v45=>(UU K (EvS.ev (ET qS qS qS qS qS)) λa61 C60=>(XJ ((some eE.1),(some eE.2),(some v16),(some v21),(some kd),(some ke),(some v40),(some v45),bV.2.2.2.2.2.2.2.2.1,C60) (a61) rfl rfl))))))))) λg62 x63=>(Xu Zb))))⟩⟩
def Up:=Bp.1
theorem Vq:FnScope ["drawing","told","crossing","sign","over","inward","outward"] ["drawing"] (Xg Lv):={}
abbrev Lx (m:QDr->Rs (List (Int×Int×Int))):Prop:=Fn P w K mg base 5 "ties" ["drawing"] (sp1 (rP2 (rV (rV Xf)) (rV (rP2 Xf Xf))) (oL (oF (rP3 Xf Xf Xf))) m K)
def Lu:{m // Pq λP w K mg base=>Def K mg "ties" Lv ["drawing"]->B0 P w K mg base Up->Lx P w K mg base m}:=⟨_, @λP w K mg base Z D cI=>go1 D Vq 6 1 rfl rfl λhr hu ao=>⟨_,(Xb (psn Vq 1 (Xs Xc))
  (Xb (psf (Xo (K:=K) rfl (pef cI hr (Xa (pv 0) Xc))) (ZM rfl (Xt (pgn Vq 2) (Xt (pgn Vq 3) (Xt (pgn Vq 4) (Xt (pgn Vq 5) (Xt (pgn Vq 6) YJ))))))
   (Xb (Xy (YW PySem.F.plainAttrs_list PySem.F.slot_list_append PySem.F.type_list_append XC (pv 1) (Xa (ED (Xl YL (pv 3) Xd (Xr _)) (Yk (Xa (pv 5) (Xa (pv 4) (Xa (pv 6) Xc)))) (Yk (Xa (pv 6) (Xa (pv 4) (Xa (pv 5) Xc))))) Xc)))
   Xe))
  (Xb (Xq (pv 1))
  Xe))),λab al=>(Yl K (o:=(oL (oF (rP3 Xf Xf Xf)))) 0 (Zt (o:=(oF (rP3 Xf Xf Xf)))) λa1 v2 C3=>(Qh K (λO (x6:Option V×Option V×Option V×Option V×Option V×V×List XD)=>[x6.2.2.2.2.2.2]) (λs x6=>[some ab,some x6.2.2.2.2.2.1,x6.1,x6.2.1,x6.2.2.1,x6.2.2.2.1,x6.2.2.2.2.1]) (λS (g7:(List (Int×Int×Int))) x6=>(SC.addO S K (oL (oF (rP3 Xf Xf Xf))) x6.2.2.2.2.2.1 g7 x6.2.2.2.2.2.2)) (λ_=>tg5 2 3 4 5 6) ((none),(none),(none),(none),(none),v2,C3) (a1) qw rfl rfl (λ_ s=>(SC.i s s.r)) (λg8 x9 fb bA=>(UU K (WX (qt K) (EvS.ev (FY qS qS qS)) (EvS.ev (FY qS qS qS))) λgr j5=>(XJ ((some bA.1),(some bA.2.1),(some bA.2.2.1),(some bA.2.2.2.1),(some bA.2.2.2.2),x9.2.2.2.2.2.1,j5) (gr) rfl rfl))) λhU x25=>(Xu Zb)))⟩⟩
def Es:=Lu.1
theorem BB:FnScope ["table","colours","asked"] ["table","colours","asked"] (Xg JT):={}
abbrev Ur (m:QLs->(List Int)->(List (Int×Int×Int))->Rs Bool):Prop:=Fn P w K mg base 1 "all_held" ["table","colours","asked"] (sp3 (rV (rV Xf)) (rV Xf) (rV (rP3 Xf Xf Xf)) (oF XI) m K)
def V8:{m // Pq λP w K mg base=>Def K mg "all_held" JT ["table","colours","asked"]->Ur P w K mg base m}:=⟨_, @λP w K mg base Z D=>go3 D BB 0 0 rfl rfl λhr hu ao=>⟨_,(Xb (Xq (XF (DN rfl) rfl Z.b_all PyProof.Rows.boot_all (Xa (Ya (sc:=(Xg JT)) (N0:=["table","colours","asked"]) (tns:=["start","over","end"]) (caps:=[(0,"table"),(1,"colours")]) rfl (Xo (K:=K) rfl (pv 2)) (SS (by decide) (by decide) (by decide)) (λcl C s H ex E=>⟨Bg K rfl rfl (Xt (XB (i:=0) (show List.Nodup (["start","over","end","table","colours"]:List Str) by decide+kernel) rfl (Or.inl rfl)) (Xt (XB (i:=1) (show List.Nodup (["start","over","end","table","colours"]:List Str) by decide+kernel) rfl (Or.inl rfl)) (Xt (XB (i:=2) (show List.Nodup (["start","over","end","table","colours"]:List Str) by decide+kernel) rfl (Or.inl rfl)) YJ))),YF,(Y2 YL (Xm K (Xm K (pv 3) (Xm K (pv 4) (pv 0))) (Xm K (pv 4) (pv 1))) (Xm K (pv 4) (pv 2)) (Xr _))⟩)) Xc)))
  Xe),λab ac aJ al aw bW=>(Xu (EvS.ev (EvB.sh (M8 (Ev.toB (YG (λ_=>tg3 0 1 2) qw (λC2 a3 v4=>qM)))))))⟩⟩
def JK:=V8.1
theorem YI:FnScope ["size","count","lists","arc"] ["size","count"] (Xg Zl):={}
abbrev YM (m:Int->Int->Rs Unit):Prop:=Fn P w K mg base 1 "refuse_too_much" ["size","count"] (sp2 Xf Xf oU m K)
def Zi:{m // Pq λP w K mg base=>Def K mg "refuse_too_much" Zl ["size","count"]->YM P w K mg base m}:=⟨_, @λP w K mg base Z D=>by
 refine JW D YI (λvs H Q E h=>?_) (λf aj A outer s H vs Q E hr h=>?_)
 ·obtain⟨ab,ac,al,aw,b,rfl,_⟩:=h;rfl
 obtain⟨ab,ac,al,aw,b,rfl,ck,cF,hm,q⟩:=h
 have hu:=hu8 hr
 have ao:=Jo hr
 refine⟨_,(Xb (psn YI 2 Xd)
  (Xb (psf (Xx rfl Z.b_range (Xa (pv 1) Xc)) (pgn YI 3)
   (Xb (LV (i:=2) YI.nd rfl (Or.inl rfl) (pv 0) Af)
   Xe))
  (Xb (XV (Xl Fb (pv 2) (Eo Z.c_MOST_LISTS rfl) (Xr _))
   (Xb GZ
   Xe)
   Xe)
  Xe))),?_⟩
 refine NM (J:=({oo:=λx3=>[],ss:=λx3=>[some ab,some ac,x3.1,x3.2],sc:=λg4 x3=>(SC.add (SC.add SC.nil K Xf ab al) K Xf ac aw)}:Jn (Unit) (Option V×Option V))) (K:=K) (S:=(SC.add (SC.add SC.nil K Xf ab al) K Xf ac aw)) (U:=[some ab,some ac,none,none]) 0 ?_ (SC.i (SC.i SC.t ck) cF) hm q (λ_ _=>rfl)
 exact(Yc K qS λa5 v6=>(Qh K (λO (x8:Option V×V)=>[]) (λs x8=>[some ab,some ac,some x8.2,x8.1]) (λS (g9:Int) x8=>(SC.add S K Xf x8.2 g9)) (λ_=>tg1 3) ((none),v6) (a5) qw rfl rfl (λ_ s=>(SC.i s s.r)) (λe7 c6 gS dJ=>(SX (K:=K) 2 rfl (λ_ s=>s.l.r) qB λgW eD=>(XJ ((some dJ),eD) (gW) rfl rfl))) λfT bH=>(Pr (qt K) (XJ ((some bH.2),(bH.1)) () rfl rfl))))⟩
def Yo:=Zi.1
theorem YA:FnScope ["lists","table","asked","longer","ahead","colour","tried"] ["lists","table","asked"] (Xg Z2):={}
abbrev ZN (m:QLs->QLs->(List (Int×Int×Int))->Rs QLs):Prop:=Fn P w K mg base 2 "longer_by_arc" ["lists","table","asked"] (sp3 (rV (rV Xf)) (rV (rV Xf)) (rV (rP3 Xf Xf Xf)) (oL (oL (oF Xf))) m K)
def ZZ:{m // Pq λP w K mg base=>Def K mg "longer_by_arc" Z2 ["lists","table","asked"]->Ur P w K mg base JK->ZN P w K mg base m}:=⟨_, @λP w K mg base Z D bC=>go3 D YA 4 2 rfl rfl λhr hu ao=>⟨_,(Xb (psn YA 3 (Xs Xc))
  (Xb (psf (Xo (K:=K) rfl (pv 0)) (pgn YA 4)
   (Xb (psf (Xx rfl Z.b_range (Xa (X8 K Z.b_len (Xa (pv 1) Xc)) Xc)) (pgn YA 5)
    (Xb (psn YA 6 (Xi Z4 (pv 4) (Xs (Xa (pv 5) Xc))))
    (Xb (XV (Q9 (pef bC hr (Xa (pv 1) (Xa (pv 6) (Xa (pv 2) Xc)))))
     (Xb (Xy (YW PySem.F.plainAttrs_list PySem.F.slot_list_append PySem.F.type_list_append XC (pv 3) (Xa (pv 6) Xc)))
     Xe)
     Xe)
    Xe)))
   Xe))
  (Xb (Xq (pv 3))
  Xe))),λab ac aJ al aw bW=>(Yl K (o:=(oL (oL (oF Xf)))) 0 (Zt (o:=(oL (oF Xf)))) λa1 v2 C3=>(Qh K (λO (x4:Option V×Option V×Option V×V×List XD)=>[x4.2.2.2.2,[]]) (λs x4=>[some ab,some ac,some aJ,some x4.2.2.2.1,x4.1,x4.2.1,x4.2.2.1]) (λS (g5:QLs) x4=>(SC.addO S K (oL (oL (oF Xf))) x4.2.2.2.1 g5 x4.2.2.2.2)) (λ_=>tg1 4) ((none),(none),(none),v2,C3) (a1) qw rfl rfl (λ_ s=>(SC.i s s.r)) (λg6 x7 a8 v9=>(Qh K (λO (bV:Option V×Option V×V×List XD)=>[bV.2.2.2,[]]) (λs bV=>[some ab,some ac,some aJ,some bV.2.2.1,some v9,bV.1,bV.2.1]) (λS (iB:QLs) bV=>(SC.addO S K (oL (oL (oF Xf))) bV.2.2.1 iB bV.2.2.2)) (λ_=>tg1 5) ((x7.2.1),(x7.2.2.1),x7.2.2.2.1,x7.2.2.2.2) (g6) qw rfl rfl (λ_ s=>(SC.i s s.l.r)) (λdX dL gW iH=>(Yl K 1 qN λj6 fS j4=>(Y4 (λO (eF:V×Option V×List XD)=>[eF.2.2,[]]) (λs eF=>[some ab,some ac,some aJ,some eF.1,some v9,some iH,eF.2.1]) (λS (fP:QLs) eF=>(SC.addO S K (oL (oL (oF Xf))) eF.1 fP eF.2.2)) (X2 (qt K) (UU K Zb λa35 kg=>(XJ (dL.2.2.1,(some fS),kg) (a35) rfl rfl)) (FQ 1 (XJ (dL.2.2.1,(some fS),dL.2.2.2) (dX) rfl rfl))) λfU bR=>(XJ ((some iH),(bR.2.1),bR.1,bR.2.2) (fU) rfl rfl)))) λg38 bJ=>(XJ ((some v9),(bJ.1),(bJ.2.1),bJ.2.2.1,bJ.2.2.2) (g38) rfl rfl))) λg41 iL=>(Xu Zb)))⟩⟩
def Y9:=ZZ.1
theorem YN:FnScope ["drawing","table","count","asked","told","arc"] ["drawing","table"] (Xg Qe):={}
abbrev Js (m:QDr->QLs->Rs QLs):Prop:=Fn P w K mg base 6 "colourings" ["drawing","table"] (sp2 (rP2 (rV (rV Xf)) (rV (rP2 Xf Xf))) (rV (rV Xf)) (oL (oL (oF Xf))) m K)
def Ji:{m // Pq λP w K mg base=>Def K mg "colourings" Qe ["drawing","table"]->QH P w K mg base ZS->YM P w K mg base Yo->Lx P w K mg base Es->ZN P w K mg base Y9->Js P w K mg base m}:=⟨_, @λP w K mg base Z D av ai dt aI=>go2 D YN 4 1 rfl rfl λhr hu ao=>⟨_,(Xb (psn YN 2 (pef av hr (Xa (pv 0) Xc)))
  (Xb (Xy (pef ai hr (Xa (X8 K Z.b_len (Xa (pv 1) Xc)) (Xa (pv 2) Xc))))
  (Xb (psn YN 3 (pef dt hr (Xa (pv 0) Xc)))
  (Xb (psn YN 4 (Xs (Xa (Xs Xc) Xc X3)))
  (Xb (psf (Xx rfl Z.b_range (Xa (pv 2) Xc)) (XB (i:=5) YN.nd rfl (Or.inr rfl))
   (Xb (psn YN 4 (pef aI hr (Xa (pv 4) (Xa (pv 1) (Xa (Ya (sc:=(Xg Qe)) (N0:=["drawing","table","count","asked","told","arc"]) (tns:=["tie"]) (caps:=[(5,"arc")]) rfl (Xo (K:=K) rfl (pv 3)) (X0 (by decide)) (λcl C s H ex E=>⟨XB (i:=0) (show List.Nodup (["tie","arc"]:List Str) by decide+kernel) rfl (Or.inl rfl),(Qs (Xl YL (XF (VR K rfl rfl) rfl Z.b_max PyProof.Rows.boot_max (Xa (pv 0) Xc)) (pv 1) (Xr _))),(pv 0)⟩)) Xc)))))
   Xe))
  (Xb (Xq (pv 4))
  Xe)))))),λab ac al aw=>(Yc K qS λa1 v2=>(Vt (K:=K) qB (Yc K qS λfb bA=>(Yl K (o:=(oL (oL (oF Xf)))) 0 (Ud (ZU (Zt (o:=(oF Xf))) λ_=>JH)) λcw eD C16=>(Qh K (λO (bh:Option V×V×List XD)=>[bh.2.2]) (λs bh=>[some ab,some ac,some v2,some bA,some bh.2.1,bh.1]) (λS (gq:QLs) bh=>(SC.addO S K (oL (oL (oF Xf))) bh.2.1 gq bh.2.2)) (λ_=>tg1 5) ((none),eD,C16) (cw) qw rfl rfl (λ_ s=>(SC.i s s.r)) (λkh bf a25 gv=>(Yl K (o:=(oL (oL (oF Xf)))) 0 (EX qB qB (Ev.toB (ZF (λ_=>tg1 0) qw (λC31 a32 v33=>(XY (K:=K) (JX (UY (Sj qB)) qB))) (λC31 a32 v33=>qM)))) λa27 v28 C29=>(XJ ((some gv),v28,C29) (a27) rfl rfl))) λg41 iL=>(Xu Zb))))))⟩⟩
def Z5:=Ji.1
theorem SO:FnScope ["drawing","table"] ["drawing","table"] (Xg I9):={}
abbrev Nt (m:QDr->QLs->Rs Int):Prop:=Fn P w K mg base 7 "many" ["drawing","table"] (sp2 (rP2 (rV (rV Xf)) (rV (rP2 Xf Xf))) (rV (rV Xf)) (oF Xf) m K)
def Ir:{m // Pq λP w K mg base=>Def K mg "many" I9 ["drawing","table"]->Js P w K mg base Z5->Nt P w K mg base m}:=⟨_, @λP w K mg base Z D aZ=>go2 D SO 0 0 rfl rfl λhr hu ao=>⟨_,(Xb (Xq (X8 K Z.b_len (Xa (pef aZ hr (Xa (pv 0) (Xa (pv 1) Xc))) Xc)))
  Xe),λab ac al aw=>(Xu qM)⟩⟩
def KA:=Ir.1
theorem J1:FnScope ["size","drawings","drawing"] ["size","drawings"] (Xg QJ):={}
abbrev QY (m:Int->(List QDr)->Rs Unit):Prop:=Fn P w K mg base 3 "refuse_size" ["size","drawings"] (sp2 Xf (rV (rP2 (rV (rV Xf)) (rV (rP2 Xf Xf)))) oU m K)
def QL:{m // Pq λP w K mg base=>Def K mg "refuse_size" QJ ["size","drawings"]->YV P w K mg base YC->YM P w K mg base Yo->QH P w K mg base ZS->QY P w K mg base m}:=⟨_, @λP w K mg base Z D af ai av=>by
 refine JW D J1 (λvs H Q E h=>?_) (λf aj A outer s H vs Q E hr h=>?_)
 ·obtain⟨ab,ac,al,aw,b,rfl,_⟩:=h;rfl
 obtain⟨ab,ac,al,aw,b,rfl,ck,cF,hm,q⟩:=h
 have hu:=hu8 hr
 have ao:=Jo hr
 refine⟨_,(Xb (Xy (pef af hr (Xa (Eo Z.c_MOST_OF_ALL rfl) (Xa (pv 0) Xc))))
  (Xb (psf (Xo (K:=K) rfl (pv 1)) (pgn J1 2)
   (Xb (Xy (pef ai hr (Xa (pv 0) (Xa (pef av hr (Xa (pv 2) Xc)) Xc))))
   Xe))
  Xe)),?_⟩
 refine NM (J:=({oo:=λx3=>[],ss:=λx3=>[some ab,some ac,x3],sc:=λg4 x3=>(SC.add (SC.add SC.nil K Xf ab al) K (rV (rP2 (rV (rV Xf)) (rV (rP2 Xf Xf)))) ac aw)}:Jn (Unit) (Option V))) (K:=K) (S:=(SC.add (SC.add SC.nil K Xf ab al) K (rV (rP2 (rV (rV Xf)) (rV (rP2 Xf Xf)))) ac aw)) (U:=[some ab,some ac,none]) 0 ?_ (SC.i (SC.i SC.t ck) cF) hm q (λ_ _=>rfl)
 exact(Vt (K:=K) qB (Qh K (λO (x9:Option V)=>[]) (λs x9=>[some ab,some ac,x9]) (λS (e7:Unit) x9=>S) (λ_=>tg1 2) ((none)) () qw rfl rfl (λ_ s=>s) (λg11 bV a13 eE=>(Vt (K:=K) qB (XJ ((some eE)) () rfl rfl))) λg21 hV=>(XJ ((hV)) () rfl rfl)))⟩
def ZG:=QL.1
theorem BR:FnScope ["drawing","size","told","each"] ["drawing","size"] (Xg EW):={}
abbrev MU (m:QDr->Int->Rs (List Int)):Prop:=Fn P w K mg base 8 "mark" ["drawing","size"] (sp2 (rP2 (rV (rV Xf)) (rV (rP2 Xf Xf))) Xf (oL (oF Xf)) m K)
def M4:{m // Pq λP w K mg base=>Def K mg "mark" EW ["drawing","size"]->QY P w K mg base ZG->Nt P w K mg base KA->Dc P w K mg base Zz->MU P w K mg base m}:=⟨_, @λP w K mg base Z D aS du br=>go2 D BR 2 1 rfl rfl λhr hu ao=>⟨_,(Xb (Xy (pef aS hr (Xa (pv 1) (Xa (Xs (Xa (pv 0) Xc)) Xc X3))))
  (Xb (psn BR 2 (Xs Xc))
  (Xb (psf (Ke rfl Z.b_range (Xa Xd (Xa (Xi XA (pv 1) Xd) Xc))) (pgn BR 3)
   (Xb (Xy (YW PySem.F.plainAttrs_list PySem.F.slot_list_extend PySem.F.type_list_extend VA (pv 2) (Xa (Ya (sc:=(Xg EW)) (N0:=["drawing","size","told","each"]) (tns:=["table"]) (caps:=[(0,"drawing")]) rfl (Xo (K:=K) rfl (pef br hr (Xa (pv 3) Xc))) (X0 (by decide)) (λcl C s H ex E=>⟨XB (i:=0) (show List.Nodup (["table","drawing"]:List Str) by decide+kernel) rfl (Or.inl rfl),YF,(pef du hr (Xa (pv 1) (Xa (pv 0) Xc)))⟩)) Xc)))
   Xe))
  (Xb (Xq (pv 2))
  Xe)))),λab ac al aw=>(Vt (K:=K) (Ev.toB (U3 qB (Ev.toB (Ud (ZU qM λ_=>JH))))) (Yl K (o:=(oL (oF Xf))) 0 (Zt (o:=(oF Xf))) λa8 v9 iG=>(Qh K (λO (dL:Option V×V×List XD)=>[dL.2.2]) (λs dL=>[some ab,some ac,some dL.2.1,dL.1]) (λS (j3:(List Int)) dL=>(SC.addO S K (oL (oF Xf)) dL.2.1 j3 dL.2.2)) (λ_=>tg1 3) ((none),v9,iG) (a8) qw rfl rfl (λ_ s=>(SC.i s s.r)) (λfT bH gt v20=>(AG K (YG (λ_=>tg1 0) qw (λC23 iJ v25=>qN)) λa32 C31=>(XJ ((some v20),bH.2.1,C31) (a32) rfl rfl))) λiI x34=>(Xu Zb))))⟩⟩
def EJ:=M4.1
theorem GP:FnScope ["_law_script","_law_place","_law_seed","_law_cell_here"] ["_law_script","_law_place"] (Xg IE):={}
abbrev LG (m:(List Int)->Int->Rs Int):Prop:=Fn P w K mg base 1 "_law_cell" ["_law_script","_law_place"] (sp2 (rL Xf) Xf (oF Xf) m K)
def IW:{m // Pq λP w K mg base=>Def K mg "_law_cell" IE ["_law_script","_law_place"]->LG P w K mg base m}:=⟨_, @λP w K mg base Z D=>go2 D GP 2 0 rfl rfl λhr hu ao=>⟨_,(Xb (XV (Xl UR (pv 1) (X8 K Z.b_len (Xa (pv 0) Xc)) (Xr _))
   (Xb (Xq (Xm K (pv 0) (pv 1)))
   Xe)
   Xe)
  (Xb (psn GP 2 Xd)
  (Xb (psf (Xo (K:=K) rfl (XM (Zo K rfl) (pv 0) Yj (XO Xd))) (pgn GP 3)
   (Xb (psn GP 2 (Xi Yd (Xi XA (Xi XA (Xi Yb (pv 2) Xd) (Xi Yd (pv 3) Xd)) Xd) Xd))
   Xe))
  (Xb (Xq (Xi Yd (Xi XA (pv 2) (Xi Yb Xd (pv 1))) Xd))
  Xe)))),λab ac al aw=>(J3 (XY (K:=K) (MK qB (OS qB))) (Xu (EvS.ev (EvB.sh (RG qB qB)))) (Yc K qS λa7 v8=>(Qh K (λO (aM:Option V×V)=>[]) (λs aM=>[some ab,some ac,some aM.2,aM.1]) (λS (dX:Int) aM=>(SC.add S K Xf aM.2 dX)) (λ_=>tg1 3) ((none),v8) (a7) (Zv (Ev.sh (LZ qB (qp K) (qp K)))) rfl rfl (λ_ s=>(SC.i s s.r)) (λdM aA hW cJ=>(Yc K qS λgt v20=>(XJ ((some cJ),v20) (gt) rfl rfl))) λfO fB=>(Xu qM))))⟩⟩
def En:=IW.1
theorem Mr:FnScope ["_law_cell_here","_law_k","_law_one","_law_two"] ["_law_cell_here","_law_k"] (Xg RC):={}
abbrev S1 (m:Int->Int->Rs Int):Prop:=Fn P w K mg base 1 "_law_mix" ["_law_cell_here","_law_k"] (sp2 Xf Xf (oF Xf) m K)
def Th:{m // Pq λP w K mg base=>Def K mg "_law_mix" RC ["_law_cell_here","_law_k"]->S1 P w K mg base m}:=⟨_, @λP w K mg base Z D=>go2 D Mr 2 0 rfl rfl λhr hu ao=>⟨_,(Xb (psn Mr 2 (Xi Yd (Xi VM (Xi XA (Xi XA (Xi Yd (pv 0) Xd) (Xi Yb Xd (pv 1))) Xd) Xd) Xd))
  (Xb (psn Mr 3 (Xi Yd (Xi XA (Xi XA (Xi Yb (pv 2) Xd) (Xi Yb (Xi Yb Xd (pv 1)) (pv 1))) Xd) Xd))
  (Xb (Xq (Xi G4 (pv 3) Xd))
  Xe))),λab ac al aw=>(Yc K qS λa1 v2=>(Yc K qS λj2 v16=>(Xu qM)))⟩⟩
def OP:=Th.1
theorem Kv:FnScope ["_law_script","_law_place","_law_sizes","_law_cell_here","_law_left","_law_some","_law_k","_law_other"] ["_law_script","_law_place","_law_sizes"] (Xg Ti):={}
abbrev Ia (m:(List Int)->Int->(List Int)->Rs (List Int)):Prop:=Fn P w K mg base 2 "_law_row" ["_law_script","_law_place","_law_sizes"] (sp3 (rL Xf) Xf (rV Xf) (oL (oF Xf)) m K)
def RX:{m // Pq λP w K mg base=>Def K mg "_law_row" Ti ["_law_script","_law_place","_law_sizes"]->LG P w K mg base En->S1 P w K mg base OP->Ia P w K mg base m}:=⟨_, @λP w K mg base Z D cK dN=>go3 D Kv 5 1 rfl rfl λhr hu ao=>⟨_,(Xb (psn Kv 3 (pef cK hr (Xa (pv 0) (Xa (pv 1) Xc))))
  (Xb (psn Kv 4 (pv 3))
  (Xb (psn Kv 5 (Xs Xc))
  (Xb (psf (Xx rfl Z.b_range (Xa (X8 K Z.b_len (Xa (pv 2) Xc)) Xc)) (pgn Kv 6)
   (Xb (XV (Xl UR (pv 3) (Xi VM Xd Xd) (Xr _))
    (Xb (Xy (YW PySem.F.plainAttrs_list PySem.F.slot_list_append PySem.F.type_list_append XC (pv 5) (Xa (Xi Yd (pef dN hr (Xa (pv 3) (Xa (pv 6) Xc))) (Xm K (pv 2) (pv 6))) Xc)))
    Xe)
    (Xb (XV (Xl Fb (pv 4) Xd (Xr _))
     (Xb (Xy (YW PySem.F.plainAttrs_list PySem.F.slot_list_append PySem.F.type_list_append XC (pv 5) (Xa (Xi Yd (pv 4) (Xm K (pv 2) (pv 6))) Xc)))
     (Xb (psn Kv 4 (Xi G4 (pv 4) (Xm K (pv 2) (pv 6))))
     Xe))
     (Xb (psn Kv 7 (pef cK hr (Xa (pv 0) (Xa (Xi Yd (Xi XA (Xi XA (pv 1) Xd) (pv 6)) Xd) Xc))))
     (Xb (Xy (YW PySem.F.plainAttrs_list PySem.F.slot_list_append PySem.F.type_list_append XC (pv 5) (Xa (Xi Yd (pef dN hr (Xa (pv 7) (Xa (pv 6) Xc))) (Xm K (pv 2) (pv 6))) Xc)))
     Xe)))
    Xe))
   Xe))
  (Xb (Xq (pv 5))
  Xe))))),λab ac aJ al aw bW=>(Yc K qS λa1 v2=>(Yc K qS λa6 v7=>(Yl K (o:=(oL (oF Xf))) 0 (Zt (o:=(oF Xf))) λa8 v9 iG=>(Qh K (λO (aM:Option V×V×V×Option V×List XD)=>[aM.2.2.2.2]) (λs aM=>[some ab,some ac,some aJ,some v2,some aM.2.2.1,some aM.2.1,aM.1,aM.2.2.2.1]) (λS (dX:(List Int)×Int) aM=>(SC.add (SC.addO S K (oL (oF Xf)) aM.2.1 dX.1 aM.2.2.2.2) K Xf aM.2.2.1 dX.2)) (λ_=>tg1 6) ((none),v9,v7,(none),iG) (a8,a6) qw rfl rfl (λ_ s=>(SC.i (SC.i s s.r) s.l.r)) (λdM aA hW cJ=>(Y4 (λO (bf:V×V×Option V×List XD)=>[bf.2.2.2]) (λs bf=>[some ab,some ac,some aJ,some v2,some bf.2.1,some bf.1,some cJ,bf.2.2.1]) (λS (fA:(List Int)×Int) bf=>(SC.add (SC.addO S K (oL (oF Xf)) bf.1 fA.1 bf.2.2.2) K Xf bf.2.1 fA.2)) (X2 (qt K) (UU K qM λa35 kg=>(XJ (aA.2.1,aA.2.2.1,(aA.2.2.2.1),kg) (a35,dM.2) rfl rfl)) (Y4 (λO (bJ:V×Option V×V×List XD)=>[bJ.2.2.2]) (λs bJ=>[some ab,some ac,some aJ,some v2,some bJ.1,some bJ.2.2.1,some cJ,bJ.2.1]) (λS (iN:Int×(List Int)) bJ=>(SC.addO (SC.add S K Xf bJ.1 iN.1) K (oL (oF Xf)) bJ.2.2.1 iN.2 bJ.2.2.2)) (X2 (qt K) (UU K qM λa47 C46=>(Yc K qS λki fV=>(XJ (fV,(aA.2.2.2.1),aA.2.1,C46) (ki,a47) rfl rfl))) (Yc K qS λgx v55=>(UU K qM λa74 C73=>(XJ (aA.2.2.1,(some v55),aA.2.1,C73) (dM.2,a74) rfl rfl)))) λg76 fW=>(XJ (fW.2.2.1,fW.1,(fW.2.1),fW.2.2.2) (g76.2,g76.1) rfl rfl))) λg78 x77=>(XJ ((some cJ),x77.1,x77.2.1,(x77.2.2.1),x77.2.2.2) (g78.1,g78.2) rfl rfl))) λg79 x80=>(Xu Zb)))))⟩⟩
def Fz:=RX.1
theorem Y7:FnScope ["_law_lows","_law_signs","_law_strands","_law_seen","_law_walks","_law_start","_law_walk","_law_at","_law_k"] ["_law_lows","_law_signs","_law_strands"] (Xg Fl):={}
abbrev F0 (m:(List Int)->(List Int)->Int->Rs QLs):Prop:=Fn P w K mg base 1 "_law_traced" ["_law_lows","_law_signs","_law_strands"] (sp3 (rV Xf) (rV Xf) Xf (oL (oL (oF Xf))) m K)
def Fv:{m // Pq λP w K mg base=>Def K mg "_law_traced" Fl ["_law_lows","_law_signs","_law_strands"]->F0 P w K mg base m}:=⟨_, @λP w K mg base Z D=>go3 D Y7 6 3 rfl rfl λhr hu ao=>⟨_,(Xb (psn Y7 3 (Xi DH (Xs (Xa UN Xc)) (pv 2)))
  (Xb (psn Y7 4 (Xs Xc))
  (Xb (psf (Xx rfl Z.b_range (Xa (pv 2) Xc)) (pgn Y7 5)
   (Xb (XV (DV (Q9 (Xm K (pv 3) (pv 5))))
    (Xb (psn Y7 6 (Xs Xc))
    (Xb (psn Y7 7 (pv 5))
    (Xb (GY PassesOwn.never (DV (Q9 (Xm K (pv 3) (pv 7))))
     (Xb (Jb UN (Uw (pv 3) (pv 7) Qd))
     (Xb (psf (Xx rfl Z.b_range (Xa (X8 K Z.b_len (Xa (pv 0) Xc)) Xc)) (pgn Y7 8)
      (Xb (XV (Xl YL (pv 7) (Xm K (pv 0) (pv 8)) (Xr _))
       (Xb (Xy (YW PySem.F.plainAttrs_list PySem.F.slot_list_append PySem.F.type_list_append XC (pv 6) (Xa (Xi Yb (Xi XA (pv 8) Xd) (Xm K (pv 1) (pv 8))) Xc)))
       (Xb (psn Y7 7 (Xi XA (pv 7) Xd))
       Xe))
       (Xb (XV (Xl YL (pv 7) (Xi XA (Xm K (pv 0) (pv 8)) Xd) (Xr _))
        (Xb (Xy (YW PySem.F.plainAttrs_list PySem.F.slot_list_append PySem.F.type_list_append XC (pv 6) (Xa (Xi Yb (Zx Yx (Xi XA (pv 8) Xd)) (Xm K (pv 1) (pv 8))) Xc)))
        (Xb (psn Y7 7 (Xi Qj (pv 7) Xd))
        Xe))
        Xe)
       Xe))
      Xe))
     Xe)))
    (Xb (Xy (YW PySem.F.plainAttrs_list PySem.F.slot_list_append PySem.F.type_list_append XC (pv 4) (Xa (pv 6) Xc)))
    Xe))))
    Xe)
   Xe))
  (Xb (Xq (pv 4))
  Xe)))),λab ac aJ al aw bW=>(Yl K 1 qN λa1 v2 C3=>(Yl K (o:=(oL (oL (oF Xf)))) 0 (Zt (o:=(oL (oF Xf)))) λa9 fR C11=>(Qh K (λO (aM:Option V×Option V×Option V×V×Option V×V×List XD×List XD)=>[aM.2.2.2.2.2.2.2,aM.2.2.2.2.2.2.1,[]]) (λs aM=>[some ab,some ac,some aJ,some aM.2.2.2.1,some aM.2.2.2.2.2.1,aM.1,aM.2.1,aM.2.2.1,aM.2.2.2.2.1]) (λS (dX:(List Bool)×QLs) aM=>(SC.addO (SC.addO S K (oL (oF XI)) aM.2.2.2.1 dX.1 aM.2.2.2.2.2.2.1) K (oL (oL (oF Xf))) aM.2.2.2.2.2.1 dX.2 aM.2.2.2.2.2.2.2)) (λ_=>tg1 5) ((none),(none),(none),v2,(none),fR,C3,C11) (a1,a9) qw rfl rfl (λ_ s=>(SC.i (SC.i s s.l.r) s.r)) (λdM aA hW cJ=>(Y4 (λO (bL:Option V×Option V×V×Option V×V×List XD×List XD)=>[bL.2.2.2.2.2.2,bL.2.2.2.2.2.1,[]]) (λs bL=>[some ab,some ac,some aJ,some bL.2.2.1,some bL.2.2.2.2.1,some cJ,bL.1,bL.2.1,bL.2.2.2.1]) (λS (hU:(List Bool)×QLs) bL=>(SC.addO (SC.addO S K (oL (oF XI)) bL.2.2.1 hU.1 bL.2.2.2.2.2.1) K (oL (oL (oF Xf))) bL.2.2.2.2.1 hU.2 bL.2.2.2.2.2.2)) (X2 (qt K) (Yl K (o:=(oL (oF Xf))) 2 (Zt (o:=(oF Xf))) λa25 gv C27=>(Yc K qS λgX fz=>(PL (λO (bQ:V×Option V×V×V×List XD×List XD)=>[aA.2.2.2.2.2.2.2,bQ.2.2.2.2.1,bQ.2.2.2.2.2]) (λs bQ=>[some ab,some ac,some aJ,some bQ.1,some aA.2.2.2.2.2.1,some cJ,some bQ.2.2.2.1,some bQ.2.2.1,bQ.2.1]) (λS (fO:(List Bool)×Int×(List Int)) bQ=>(SC.addO (SC.add (SC.addO S K (oL (oF XI)) bQ.1 fO.1 bQ.2.2.2.2.1) K Xf bQ.2.2.1 fO.2.1) K (oL (oF Xf)) bQ.2.2.2.1 fO.2.2 bQ.2.2.2.2.2)) (bW.natAbs+2) (aA.2.2.2.1,(aA.2.2.2.2.1),fz,gv,aA.2.2.2.2.2.2.1,C27) (dM.1,gX,a25) rfl rfl (λ_ s=>(SC.i (SC.i (SC.i s s.l.l.l.l.r) s.r) s.l.r)) (λfP de=>(qt K)) (λfP de=>(Gw K qM (λ_=>qB) λa39 C40=>(Qh K (λO (ff:Option V×V×V×List XD)=>[aA.2.2.2.2.2.2.2,C40,ff.2.2.2]) (λs ff=>[some ab,some ac,some aJ,some de.1,some aA.2.2.2.2.2.1,some cJ,some ff.2.2.1,some ff.2.1,ff.1]) (λS (kj:Int×(List Int)) ff=>(SC.addO (SC.add S K Xf ff.2.1 kj.1) K (oL (oF Xf)) ff.2.2.1 kj.2 ff.2.2.2)) (λ_=>tg1 8) ((de.2.1),de.2.2.1,de.2.2.2.1,de.2.2.2.2.2) (fP.2.1,fP.2.2) qw rfl rfl (λ_ s=>(SC.i (SC.i s s.l.l.r) s.l.r)) (λfX kl a47 km=>(Y4 (λO (cx:V×V×List XD)=>[aA.2.2.2.2.2.2.2,C40,cx.2.2]) (λs cx=>[some ab,some ac,some aJ,some de.1,some aA.2.2.2.2.2.1,some cJ,some cx.2.1,some cx.1,some km]) (λS (gn:Int×(List Int)) cx=>(SC.addO (SC.add S K Xf cx.1 gn.1) K (oL (oF Xf)) cx.2.1 gn.2 cx.2.2)) (X2 (qt K) (UU K qM λa64 iO=>(Yc K qS λa65 v66=>(XJ (v66,kl.2.2.1,iO) (a65,a64) rfl rfl))) (Y4 (λO (b6:V×V×List XD)=>[aA.2.2.2.2.2.2.2,C40,b6.2.2]) (λs b6=>[some ab,some ac,some aJ,some de.1,some aA.2.2.2.2.2.1,some cJ,some b6.2.1,some b6.1,some km]) (λS (ko:Int×(List Int)) b6=>(SC.addO (SC.add S K Xf b6.1 ko.1) K (oL (oF Xf)) b6.2.1 ko.2 b6.2.2)) (X2 (qt K) (UU K qM λa87 C86=>(Yc K qS λa88 v89=>(XJ (v89,kl.2.2.1,C86) (a88,a87) rfl rfl))) (XJ (kl.2.1,kl.2.2.1,kl.2.2.2) (fX.1,fX.2) rfl rfl)) λg93 x92=>(XJ (x92.1,x92.2.1,x92.2.2) (g93.1,g93.2) rfl rfl))) λg95 x94=>(XJ ((some km),x94.1,x94.2.1,x94.2.2) (g95.1,g95.2) rfl rfl))) λg96 x97=>(XJ (de.1,(x97.1),x97.2.1,x97.2.2.1,C40,x97.2.2.2) (a39,g96.1,g96.2) rfl rfl)))) λg99 fg=>(UU K Zb λa103 hX=>(XJ ((some fg.2.2.2.1),(some fg.2.2.1),fg.1,(fg.2.1),aA.2.2.2.2.2.1,fg.2.2.2.2.1,hX) (g99.1,a103) rfl rfl))))) (XJ ((aA.2.1),(aA.2.2.1),aA.2.2.2.1,(aA.2.2.2.2.1),aA.2.2.2.2.2.1,aA.2.2.2.2.2.2.1,aA.2.2.2.2.2.2.2) (dM.1,dM.2) rfl rfl)) λkq dv=>(XJ ((some cJ),(dv.1),(dv.2.1),dv.2.2.1,(dv.2.2.2.1),dv.2.2.2.2.1,dv.2.2.2.2.2.1,dv.2.2.2.2.2.2) (kq.1,kq.2) rfl rfl))) λg106 x107=>(Xu Zb))))⟩⟩
def U0:=Fv.1
theorem X7:FnScope ["_law_walks","_law_signs","_law_some","_law_behind","_law_k","_law_one","_law_found","_law_sign","_law_far"] ["_law_walks","_law_signs","_law_some"] (Xg Zh):={}
abbrev Vx (m:QLs->(List Int)->(List Int)->Rs QDr):Prop:=Fn P w K mg base 1 "_law_turn_back" ["_law_walks","_law_signs","_law_some"] (qJ (oL (oL (oF Xf))) (rV Xf) (rV Xf) (oT2 (oL (oL (oF Xf))) (oL (oF (rP2 Xf Xf)))) m K)
def Vh:{m // Pq λP w K mg base=>Def K mg "_law_turn_back" Zh ["_law_walks","_law_signs","_law_some"]->Vx P w K mg base m}:=⟨_, @λP w K mg base Z D=>by
 refine JW D X7 (λvs H Q E h=>?_) (λf aj A outer s H vs Q E hr h=>?_)
 ·obtain⟨ab,ac,aJ,al,aw,bW,b,rfl,_⟩:=h;rfl
 obtain⟨ab,ac,aJ,al,aw,bW,b,rfl,iP,hw,ck,cF,fY,hm,q⟩:=h
 have hu:=hu8 hr
 have ao:=Jo hr
 refine⟨_,(Xb (psn X7 3 F7)
  (Xb (psf (Xx rfl Z.b_range (Xa (X8 K Z.b_len (Xa (pv 0) Xc)) Xc)) (pgn X7 4)
   (Xb (XV (Xl YL (Xm K (pv 2) (Xi XA Xd (pv 4))) Xd (Xr _))
    (Xb (Jb (Cm K rfl (Xm K (pv 0) (pv 4)) (Zx Yx Xd)) (Uw (pv 0) (pv 4) Qd))
    (Xb (psf (Xo (K:=K) rfl (Xm K (pv 0) (pv 4))) (pgn X7 5)
     (Xb (Vb ao (pv 3) (pv 5) UN rfl)
     Xe))
    Xe))
    Xe)
   Xe))
  (Xb (psn X7 6 (Xs Xc))
  (Xb (psf (Xx rfl Z.b_range (Xa (X8 K Z.b_len (Xa (pv 1) Xc)) Xc)) (pgn X7 4)
   (Xb (psn X7 7 (Xm K (pv 1) (pv 4)))
   (Xb (XV (Xl HV (Py (LH ao (Xi XA (pv 4) Xd) (pv 3))) (Py (LH ao (Xi Qj (Zx Yx (pv 4)) Xd) (pv 3))) (Xr _))
    (Xb (psn X7 7 (Zx Yx (pv 7)))
    Xe)
    Xe)
   (Xb (Xy (YW PySem.F.plainAttrs_list PySem.F.slot_list_append PySem.F.type_list_append XC (pv 6) (Xa (Yk (Xa (Xi XA (pv 4) Xd) (Xa (pv 7) Xc))) Xc)))
   Xe))))
  (Xb (UI (i:=8) X7.nd rfl (Or.inr rfl) (Xm K (Xs (Xa Xd (Xa Xd (Xa (Xi VM Xd Xd) Xc)))) (Xm K (pv 2) (Zx Yx Xd))))
  (Xb (Vf 0 (Xg Zh) ["_law_walks","_law_signs","_law_some","_law_behind","_law_k","_law_one","_law_found","_law_sign","_law_far"] ["_law_walk"] [(8,"_law_far")] rfl X7.nd rfl rfl (Xo (K:=K) rfl (pv 0)) (X0 (by decide)) (λcl C s H ex E=>⟨XB (i:=0) (show List.Nodup (["_law_walk","_law_far"]:List Str) by decide+kernel) rfl (Or.inl rfl),YF,(F3 (sc:=(WM MI (Xg Zh))) (N0:=["_law_walk","_law_far"]) (tns:=["_law_one"]) (caps:=[(1,"_law_far")]) rfl (Xo (K:=K) rfl (pv 0)) (X0 (by decide)) (λcl C s H ex E=>⟨XB (i:=0) (show List.Nodup (["_law_one","_law_far"]:List Str) by decide+kernel) rfl (Or.inl rfl),YF,(Xi Yb (pv 0) (pv 1))⟩))⟩))
  (Xb (Xq (Yk (Xa (pv 0) (Xa (Ya (sc:=(Xg Zh)) (N0:=["_law_walks","_law_signs","_law_some","_law_behind","_law_k","_law_one","_law_found","_law_sign","_law_far"]) (tns:=["_law_one","_law_sign"]) (caps:=[(8,"_law_far")]) rfl (Xo (K:=K) rfl (pv 6)) (MD (by decide) (by decide)) (λcl C s H ex E=>⟨Bg K rfl rfl (Xt (XB (i:=0) (show List.Nodup (["_law_one","_law_sign","_law_far"]:List Str) by decide+kernel) rfl (Or.inl rfl)) (Xt (XB (i:=1) (show List.Nodup (["_law_one","_law_sign","_law_far"]:List Str) by decide+kernel) rfl (Or.inl rfl)) YJ)),YF,(Yk (Xa (Xi Yb (pv 0) (pv 2)) (Xa (pv 1) Xc)))⟩)) Xc))))
  Xe))))))),?_⟩
 refine A5 (S:=(SC.add (SC.add (SC.addO SC.nil K (oL (oL (oF Xf))) ab al iP) K (rV Xf) ac aw) K (rV Xf) aJ bW)) (U:=[some ab,some ac,some aJ,none,none,none,none,none,none]) 3 0 (by decide) ?_ hw (SC.i (SC.i (SC.i SC.t ck) cF) fY) hm q rfl
 exact(Yl K (o:=(oD XI)) 2 (BM (r:=XI)) λa1 v2 C3=>(Qh K (λO (x6:Option V×V×Option V×V×List XD×List XD)=>[x6.2.2.2.2.1,[],x6.2.2.2.2.2]) (λs x6=>[some x6.2.1,some ac,some aJ,some x6.2.2.2.1,x6.1,x6.2.2.1,none,none,none]) (λS (g7:QLs×(List (Int×Bool))) x6=>(SC.addO (SC.addO S K (oL (oL (oF Xf))) x6.2.1 g7.1 x6.2.2.2.2.1) K (oD XI) x6.2.2.2.1 g7.2 x6.2.2.2.2.2)) (λ_=>tg1 4) ((none),ab,(none),v2,iP,C3) (al,a1) qw rfl rfl (λ_ s=>(SC.i (SC.i s s.l.l.l.r) s.r)) (λg8 x9 fb bA=>(Y4 (λO (bx:V×Option V×V×List XD×List XD)=>[bx.2.2.2.1,[],bx.2.2.2.2]) (λs bx=>[some bx.1,some ac,some aJ,some bx.2.2.1,some bA,bx.2.1,none,none,none]) (λS (gl:QLs×(List (Int×Bool))) bx=>(SC.addO (SC.addO S K (oL (oL (oF Xf))) bx.1 gl.1 bx.2.2.2.1) K (oD XI) bx.2.2.1 gl.2 bx.2.2.2.2)) (X2 (qt K) (Gw K (DK ql qB) (λ_=>qB) λgX C29=>(Am K (λO (bQ:Option V×V×List XD)=>[C29,[],bQ.2.2]) (λs bQ=>[some x9.2.1,some ac,some aJ,some bQ.2.1,some bA,bQ.1,none,none,none]) (λS (fO:(List (Int×Bool))) bQ=>(SC.addO S K (oD XI) bQ.2.1 fO bQ.2.2)) (r:=Xf) qB (λ_=>tg1 5) ((x9.2.2.1),x9.2.2.2.1,x9.2.2.2.2.2) (g8.2) (λ_=>rfl) rfl rfl (λ_ s=>(SC.i s s.l.l.r)) (λfP de a34 ke=>(Bw K qS qB λa38 j9=>(XJ ((some ke),de.2.1,j9) (a38) rfl rfl))) λiN x41=>(XJ (x9.2.1,(x41.1),x41.2.1,C29,x41.2.2) (gX,iN) rfl rfl))) (XJ (x9.2.1,(x9.2.2.1),x9.2.2.2.1,x9.2.2.2.2.1,x9.2.2.2.2.2) (g8.1,g8.2) rfl rfl)) λfX cR=>(XJ ((some bA),cR.1,(cR.2.1),cR.2.2.1,cR.2.2.2.1,cR.2.2.2.2) (fX.1,fX.2) rfl rfl))) λg46 bS=>(Yl K (o:=(oL (oF (rP2 Xf Xf)))) 1 (Zt (o:=(oF (rP2 Xf Xf)))) λki fV C50=>(Qh K (λO (gy:Option V×Option V×V×List XD)=>[bS.2.2.2.2.1,gy.2.2.2,bS.2.2.2.2.2]) (λs gy=>[some bS.2.1,some ac,some aJ,some bS.2.2.2.1,gy.1,bS.2.2.1,some gy.2.2.1,gy.2.1,none]) (λS (g54:QPs) gy=>(SC.addO S K (oL (oF (rP2 Xf Xf))) gy.2.2.1 g54 gy.2.2.2)) (λ_=>tg1 4) ((bS.1),(none),fV,C50) (ki) qw rfl rfl (λ_ s=>(SC.i s s.r)) (λgn x56 a57 v58=>(Yc K qS λa59 v60=>(Y4 (λO (fW:V)=>[bS.2.2.2.2.1,x56.2.2.2,bS.2.2.2.2.2]) (λs fW=>[some bS.2.1,some ac,some aJ,some bS.2.2.2.1,some v58,bS.2.2.1,some x56.2.2.1,some fW,none]) (λS (g76:Int) fW=>(SC.add S K Xf fW g76)) (X2 (XY (K:=K) (EF (Eb qB qB) (Eb qB qB))) (Yc K qS λku kw=>(XJ (kw) (ku) rfl rfl)) (XJ (v60) (a59) rfl rfl)) λg81 x80=>(UU K qM λa88 C87=>(XJ ((some v58),(some x80),x56.2.2.1,C87) (a88) rfl rfl))))) λg89 x90=>(Yc K qS λa91 v92=>(Yl K (o:=(oL (oL (oF Xf)))) 0 (Bx (K:=K) (o1:=(oL (oL (oF Xf)))) 0 rfl (λ_ s=>s.l.l.l.l.r) (YG (λ_=>tg1 0) qw (λkz a111 v112=>(YG (λ_=>tg1 0) qw (λC114 a115 v116=>qM))))) λa107 v108 C109=>(Xu (JU Zb λ_=>(Bx (K:=K) (o1:=(oL (oF (rP2 Xf Xf)))) 2 rfl (λ_ s=>s.l.l.r) (YG (λ_=>tg2 0 1) qw (λC120 a121 v122=>qM)))))))))))⟩
def QP:=Vh.1
theorem Y5:FnScope ["_law_script","_law_place","_law_sizes","_law_some","_law_signs","_law_lows","_law_left","_law_strands","_law_k","_law_walks","_law_at","_law_passage"] ["_law_script","_law_place"] (Xg GJ):={}
abbrev Eg (m:(List Int)->Int->Rs QDr):Prop:=Fn P w K mg base 3 "_law_begun" ["_law_script","_law_place"] (sp2 (rL Xf) Xf (oT2 (oL (oL (oF Xf))) (oL (oF (rP2 Xf Xf)))) m K)
def Bq:{m // Pq λP w K mg base=>Def K mg "_law_begun" GJ ["_law_script","_law_place"]->Ia P w K mg base Fz->F0 P w K mg base U0->Vx P w K mg base QP->Eg P w K mg base m}:=⟨_, @λP w K mg base Z D aT b7 bj=>go2 D Y5 10 4 rfl rfl λhr hu ao=>⟨_,(Xb (psn Y5 2 (Xi Z4 (Xi Z4 (Xs (Xa Xd (Xa Xd (Xa Xd (Xa Xd Xc))))) (Xi DH (Xs (Xa Xd Xc)) Xd)) (Xi DH (Xs (Xa Xd (Xa Xd (Xa Xd (Xa Xd (Xa Xd (Xa Xd Xc))))))) Xd)))
  (Xb (psn Y5 3 (pef aT hr (Xa (pv 0) (Xa (pv 1) (Xa (Xi Z4 (pv 2) (Xs (Xa Xd Xc))) Xc)))))
  (Xb (Lj (i:=4) (j:=5) (k:=6) rfl Y5.nd rfl rfl rfl (by decide) (by decide) (by decide) rfl rfl rfl (Xa (Xs Xc) (Xa (Xs Xc) (Xa (Xs Xc) Xc X3) X3) X3) rfl)
  (Xb (psn Y5 7 (Xi XA Xd (Xm K (pv 3) Xd)))
  (Xb (psf (Xx rfl Z.b_range (Xa (Xm K (pv 3) Xd) Xc)) (pgn Y5 8)
   (Xb (Xy (YW PySem.F.plainAttrs_list PySem.F.slot_list_append PySem.F.type_list_append XC (pv 5) (Xa (Xi Yd (Xm K (pv 3) (Xi XA (Xi Yb Xd (pv 8)) Xd)) (Xi Qj (pv 7) Xd)) Xc)))
   (Xb (Xy (YW PySem.F.plainAttrs_list PySem.F.slot_list_append PySem.F.type_list_append XC (pv 4) (Xa (Xi Qj (Xi Yb Xd (Xm K (pv 3) (Xi XA (Xi Yb Xd (pv 8)) Xd))) Xd) Xc)))
   (Xb (Xy (YW PySem.F.plainAttrs_list PySem.F.slot_list_extend PySem.F.type_list_extend VA (pv 6) (Xa (Xs (Xa (Xi XA (pv 8) Xd) (Xa (Xi Qj (Zx Yx (pv 8)) Xd) Xc))) Xc X3)))
   Xe))))
  (Xb (XV (PW.pt (Ls (Xl Fb (Xm K (pv 3) Xd) Xd (Xr _)) (BL (Xl Fb (pv 7) Xd (Xr _)))))
   (Xb (Jb (XM (Zo K rfl) (Xs (Xa Xd (Xa Xd (Xa Xd Xc)))) Yj (XO (X8 K Z.b_len (Xa (pv 5) Xc)))) (A1 (pv 5) Yj (XO Xd)))
   Xe)
   Xe)
  (Xb (psn Y5 9 (pef b7 hr (Xa (pv 5) (Xa (pv 4) (Xa (pv 7) Xc)))))
  (Xb (XV (Xl YL (Xm K (pv 3) Xd) Xd (Xr _))
   (Xb (Vf 9 (Xg GJ) ["_law_script","_law_place","_law_sizes","_law_some","_law_signs","_law_lows","_law_left","_law_strands","_law_k","_law_walks","_law_at","_law_passage"] ["_law_k"] [] rfl Y5.nd rfl rfl (Xx rfl Z.b_range (Xa (pv 7) Xc)) (X0 (by decide)) (λcl C s H ex E=>⟨XB (i:=0) (show List.Nodup (["_law_k"]:List Str) by decide+kernel) rfl (Or.inl rfl),YF,(Xs Xc)⟩))
   (Xb (psf (Xx rfl Z.b_range (Xa (Xi Yb Xd (Xm K (pv 3) Xd)) Xc)) (pgn Y5 8)
    (Xb (psn Y5 10 (Xi XA (Xi XA (Xi Yb Xd (Xi G4 (pv 8) Xd)) (Xi Yd (pv 8) Xd)) Xd))
    (Xb (psn Y5 11 (YW PySem.F.plainAttrs_list PySem.F.slot_list_pop PySem.F.type_list_pop N2 (pv 6) (Xa (Xi Yd (Xm K (pv 3) (pv 10)) (X8 K Z.b_len (Xa (pv 6) Xc))) Xc)))
    (Xb (Xy (YW PySem.F.plainAttrs_list PySem.F.slot_list_append PySem.F.type_list_append XC (Xm K (pv 9) (Xi Yd (Xm K (pv 3) (Xi XA (pv 10) Xd)) (pv 7))) (Xa (pv 11) Xc)))
    Xe))))
   Xe))
   Xe)
  (Xb (Xq (pef bj hr (Xa (pv 9) (Xa (pv 4) (Xa (pv 3) Xc)))))
  Xe))))))))),λab ac al aw=>(Yc K qS λa1 v2=>(Yc K qS λa36 v37=>(NI (K:=K) (o1:=(oF Xf)) (o2:=(oF Xf)) (o3:=(oF Xf)) 4 5 6 1 0 2 (Nat.le_of_ble_eq_true rfl) (Nat.le_of_ble_eq_true rfl) (Nat.le_of_ble_eq_true rfl) λv47 km fV C50 C51 C52=>(Yc K qS λa53 v54=>(Qh K (λO (dh:Option V×V×V×V×List XD×List XD×List XD)=>[dh.2.2.2.2.1,dh.2.2.2.2.2.1,dh.2.2.2.2.2.2,[]]) (λs dh=>[some ab,some ac,some v2,some v37,some dh.2.2.1,some dh.2.1,some dh.2.2.2.1,some v54,dh.1,none,none,none]) (λS (fC:(List Int)×(List Int)×(List Int)) dh=>(SC.addO (SC.addO (SC.addO S K (oL (oF Xf)) dh.2.1 fC.1 dh.2.2.2.2.1) K (oL (oF Xf)) dh.2.2.1 fC.2.1 dh.2.2.2.2.2.1) K (oL (oF Xf)) dh.2.2.2.1 fC.2.2 dh.2.2.2.2.2.2)) (λ_=>tg1 8) ((none),km,v47,fV,C51,C50,C52) (([]:(List Int)),([]:(List Int)),([]:(List Int))) qw rfl rfl (λ_ s=>(SC.i (SC.i (SC.i s s.l.l.r) s.l.l.l.r) s.l.r)) (λg64 x65 a66 v67=>(UU K qM λa80 C79=>(UU K qM λa93 C92=>(AG K qN λkA C105=>(XJ ((some v67),x65.2.1,x65.2.2.1,x65.2.2.2.1,C79,C92,C105) (a80,a93,kA) rfl rfl))))) λkB bm=>(Y4 (λO (dZ:V×List XD)=>[dZ.2,bm.2.2.2.2.2.1,bm.2.2.2.2.2.2,[]]) (λs dZ=>[some ab,some ac,some v2,some v37,some bm.2.2.1,some dZ.1,some bm.2.2.2.1,some v54,bm.1,none,none,none]) (λS (kC:(List Int)) dZ=>(SC.addO S K (oL (oF Xf)) dZ.1 kC dZ.2)) (X2 (qt K) (NR (K:=K) 5 0 rfl rfl (λ_ s=>s.l.l.r) qN (λ_=>(qp K)) (λ_=>(qp K)) λa131 C132=>(XJ (bm.2.1,C132) (a131) rfl rfl)) (XJ (bm.2.1,bm.2.2.2.2.1) (kB.1) rfl rfl)) λg137 x136=>(Yl K 3 qN λa138 v139 C140=>(Y4 (λO (cm:V×Option V×Option V×Option V×Option V×List XD)=>[x136.2,bm.2.2.2.2.2.1,[],cm.2.2.2.2.2]) (λs cm=>[some ab,some ac,some v2,some v37,some bm.2.2.1,some x136.1,cm.2.2.2.2.1,some v54,cm.2.1,some cm.1,cm.2.2.1,cm.2.2.2.1]) (λS (g151:QLs) cm=>(SC.addO S K (oL (oL (oF Xf))) cm.1 g151 cm.2.2.2.2.2)) (X2 (qt K) (Yl K (o:=(oL (oL (oF Xf)))) 3 (YG (λ_=>tg1 0) qw (λC156 a157 kD=>(Zt (o:=(oF Xf))))) λa152 v153 C154=>(Qh K (λO (bM:Option V×Option V×Option V×V×V×List XD×List XD)=>[x136.2,bm.2.2.2.2.2.1,bM.2.2.2.2.2.1,bM.2.2.2.2.2.2]) (λs bM=>[some ab,some ac,some v2,some v37,some bm.2.2.1,some x136.1,some bM.2.2.2.1,some v54,bM.1,some bM.2.2.2.2.1,bM.2.1,bM.2.2.1]) (λS (kE:(List Int)×QLs) bM=>(SC.addO (SC.addO S K (oL (oF Xf)) bM.2.2.2.1 kE.1 bM.2.2.2.2.2.1) K (oL (oL (oF Xf))) bM.2.2.2.2.1 kE.2 bM.2.2.2.2.2.2)) (λ_=>tg1 8) ((bm.1),(none),(none),bm.2.2.2.1,v153,bm.2.2.2.2.2.2,C154) (kB.2.2,a152) qw rfl rfl (λ_ s=>(SC.i (SC.i s s.l.l.l.r) s.r)) (λg167 kF a169 v170=>(Yc K qS λa171 v172=>(jk K qB λa188 a189 v190 C191=>(O2 (K:=K) (r:=Xf) 9 3 rfl rfl (λ_ s=>s.l.l.l.l.r) qS qB λa203 C204=>(XJ ((some v170),(some v172),(some v190),kF.2.2.2.1,kF.2.2.2.2.1,C191,C204) (a189,a203) rfl rfl))))) λg205 d3=>(FQ 2 (XJ (d3.2.2.2.2.1,(d3.1),(d3.2.1),(d3.2.2.1),(some d3.2.2.2.1),d3.2.2.2.2.2.2) (g205.2) rfl rfl)))) (FQ 2 (XJ (v139,(bm.1),(none),(none),(some bm.2.2.2.1),C140) (a138) rfl rfl))) λg209 x208=>(Lp (K:=K) (o:=(oL (oF Xf))) 1 rfl (λ_ s=>s.l.l.l.l.r) (Oo (K:=K) (q:=(oL (oL (oF Xf)))) 9 3 rfl rfl (λ_ s=>s.l.r) qS qS))))))))))⟩⟩
def Fe:=Bq.1
theorem Kb:FnScope ["_law_walks","_law_found","_law_at","_law_k"] ["_law_walks"] (Xg Bc):={}
abbrev BU (m:QLs->Rs (List (Int×Int×Int×Int))):Prop:=Fn P w K mg base 1 "_law_pairs" ["_law_walks"] (sp1 (rV (rV Xf)) (oL (oF (rP4 Xf Xf Xf Xf))) m K)
def El:{m // Pq λP w K mg base=>Def K mg "_law_pairs" Bc ["_law_walks"]->BU P w K mg base m}:=⟨_, @λP w K mg base Z D=>go1 D Kb 3 1 rfl rfl λhr hu ao=>⟨_,(Xb (psn Kb 1 (Xs Xc))
  (Xb (psf (Xx rfl Z.b_range (Xa (X8 K Z.b_len (Xa (pv 0) Xc)) Xc)) (pgn Kb 2)
   (Xb (psf (Xx rfl Z.b_range (Xa (Xi Qj (X8 K Z.b_len (Xa (Xm K (pv 0) (pv 2)) Xc)) Xd) Xc)) (pgn Kb 3)
    (Xb (Xy (YW PySem.F.plainAttrs_list PySem.F.slot_list_append PySem.F.type_list_append XC (pv 1) (Xa (Yk (Xa (pv 2) (Xa (pv 3) (Xa (Xm K (Xm K (pv 0) (pv 2)) (pv 3)) (Xa (Xm K (Xm K (pv 0) (pv 2)) (Xi XA (pv 3) Xd)) Xc))))) Xc)))
    Xe))
   Xe))
  (Xb (Xq (pv 1))
  Xe))),λab al=>(Yl K (o:=(oL (oF (rP4 Xf Xf Xf Xf)))) 0 (Zt (o:=(oF (rP4 Xf Xf Xf Xf)))) λa1 v2 C3=>(Qh K (λO (x6:Option V×Option V×V×List XD)=>[x6.2.2.2]) (λs x6=>[some ab,some x6.2.2.1,x6.1,x6.2.1]) (λS (g7:(List (Int×Int×Int×Int))) x6=>(SC.addO S K (oL (oF (rP4 Xf Xf Xf Xf))) x6.2.2.1 g7 x6.2.2.2)) (λ_=>tg1 2) ((none),(none),v2,C3) (a1) qw rfl rfl (λ_ s=>(SC.i s s.r)) (λg8 x9 fb bA=>(Qh K (λO (bH:Option V×V×List XD)=>[bH.2.2]) (λs bH=>[some ab,some bH.2.1,some bA,bH.1]) (λS (gm:(List (Int×Int×Int×Int))) bH=>(SC.addO S K (oL (oF (rP4 Xf Xf Xf Xf))) bH.2.1 gm bH.2.2)) (λ_=>tg1 3) ((x9.2.1),x9.2.2.1,x9.2.2.2) (g8) qw rfl rfl (λ_ s=>(SC.i s s.l.r)) (λgl bh a22 hJ=>(UU K (EvS.ev (FM qS qS qS qS)) λiK j9=>(XJ ((some hJ),bh.2.1,j9) (iK) rfl rfl))) λg41 iL=>(XJ ((some bA),(iL.1),iL.2.1,iL.2.2) (g41) rfl rfl))) λkj x45=>(Xu Zb)))⟩⟩
def FE:=El.1
theorem YZ:FnScope ["_law_signs","_law_top","_law_mid","_law_low","_law_a","_law_c","_law_b","_law_p","_law_q","_law_r"] ["_law_signs","_law_top","_law_mid","_law_low"] (Xg V5):={}
abbrev V7 (m:QPs->(Int×Int×Int×Int)->(Int×Int×Int×Int)->(Int×Int×Int×Int)->Rs Bool):Prop:=Fn P w K mg base 1 "_law_straight" ["_law_signs","_law_top","_law_mid","_law_low"] (sp4 (rD Xf) (rP4 Xf Xf Xf Xf) (rP4 Xf Xf Xf Xf) (rP4 Xf Xf Xf Xf) (oF XI) m K)
def V4:{m // Pq λP w K mg base=>Def K mg "_law_straight" V5 ["_law_signs","_law_top","_law_mid","_law_low"]->V7 P w K mg base m}:=⟨_, @λP w K mg base Z D=>go4 D YZ 6 0 rfl rfl λhr hu ao=>⟨_,(Xb (psn YZ 4 (Zx Yx (XF (K8 rfl) rfl Z.b_min PyProof.Rows.boot_min (Xa (Xz K (pv 2) Xd) (Xa (Xz K (pv 2) Xd) Xc)))))
  (Xb (psn YZ 5 (XF (VU rfl) rfl Z.b_max PyProof.Rows.boot_max (Xa (Xz K (pv 2) Xd) (Xa (Xz K (pv 2) Xd) Xc))))
  (Xb (XV (PW.pt (L8 (Xl Jm (pv 4) (XM (Y0 K rfl) (pv 1) (XO Xd) Yj) rfl) (Et (Xl Kx (pv 5) (XM (Y0 K rfl) (pv 1) (XO Xd) Yj) rfl))))
   (Xb (Xq UN)
   Xe)
   Xe)
  (Xb (psn YZ 6 (Xi Qj (Xi XA (Xz K (pv 1) Xd) (Xz K (pv 1) Xd)) (pv 4)))
  (Xb (XV (Xl (FR K rfl (Pw eq_int) (Ci (by decide) hu)) (XF (J4 K rfl) rfl Z.b_sorted PyProof.Rows.boot_sorted (Xa (Xs (Xa (Zx Yx (Xz K (pv 3) Xd)) (Xa (Zx Yx (Xz K (pv 3) Xd)) Xc))) Xc X3)) (XF (J4 K rfl) rfl Z.b_sorted PyProof.Rows.boot_sorted (Xa (Xs (Xa (pv 6) (Xa (pv 5) Xc))) Xc X3)) (Xr _))
   (Xb (Xq UN)
   Xe)
   Xe)
  (Xb (psn YZ 7 (Xi Qj (Xi Yb Xd (Yg QF rfl Z.b_int PyProof.Rows.boot_int (Xa (Y2 YL (Xz K (pv 1) Xd) (pv 4) (Xr _)) Xc))) Xd))
  (Xb (psn YZ 8 (Xi Qj (Xi Yb Xd (Yg QF rfl Z.b_int PyProof.Rows.boot_int (Xa (Y2 YL (Xz K (pv 2) Xd) (Zx Yx (pv 4)) (Xr _)) Xc))) Xd))
  (Xb (psn YZ 9 (Xi Qj (Xi Yb Xd (Yg QF rfl Z.b_int PyProof.Rows.boot_int (Xa (Y2 YL (Xz K (pv 3) Xd) (Zx Yx (pv 6)) (Xr _)) Xc))) Xd))
  (Xb (Xq (Le (Y2 YL (Xi Yb (pv 7) (Vg ao (pv 0) (pv 6) (λ_ _=>rfl))) (Xi Yb (pv 8) (Vg ao (pv 0) (pv 5) (λ_ _=>rfl))) (Xr _)) (IX (Y2 YL (Xi Yb (pv 8) (Vg ao (pv 0) (pv 4) (λ_ _=>rfl))) (Xi Yb (pv 9) (Vg ao (pv 0) (pv 6) (λ_ _=>rfl))) (Xr _)))))
  Xe))))))))),λab ac aJ df al aw bW fw=>(Yc K (r:=Xf) (EvB.sh (FN (BJ (Vl qB) (GQ qB)))) λa1 v2=>(Yc K (r:=Xf) (EvB.sh (Nk (Vl qB) (GQ qB))) λa8 v9=>(J3 (Nq (XY (K:=K) (EI qB (Yq (QK qB) (qp K) (qp K)))) (XY (K:=K) (P9 qB (Yq (QK qB) (qp K) (qp K))))) (Xu qM) (Yc K (r:=Xf) (EvB.sh (K3 (Bk (Vl qB) (GQ qB)) qB)) λgR gu=>(J3 (XY (K:=K) (Lz (Ev.toB (Hr (Ev.ls (JY (Yn (EvB.sh (FN (Vl qB))) (Yn (EvB.sh (FN (GQ qB))) qa)))))) (Ev.toB (Hr ql)))) (Xu qM) (Yc K (r:=Xf) (EvB.sh (K3 (Jl qB (U6 (JX (Vl qB) qB))) qB)) λkG kH=>(Yc K (r:=Xf) (EvB.sh (K3 (Jl qB (U6 (JX (Vl qB) qB))) qB)) λa68 v69=>(Yc K (r:=Xf) (EvB.sh (K3 (Jl qB (U6 (JX (Vl qB) qB))) qB)) λa79 v80=>(Xu (EvS.ev (EvB.sh (EZ (JX (Jl qB (QZ qB qB)) (Jl qB (QZ qB qB))) (JX (Jl qB (QZ qB qB)) (Jl qB (QZ qB qB)))))))))))))))⟩⟩
def JG:=V4.1
theorem ZV:FnScope ["_law_drawing","_law_signs","_law_pairs_here","_law_found","_law_top","_law_mid","_law_low"] ["_law_drawing"] (Xg JI):={}
abbrev G6 (m:QDr->Rs (List (List Mx))):Prop:=Fn P w K mg base 2 "_law_passes" ["_law_drawing"] (sp1 (rP2 (rV (rV Xf)) (rV (rP2 Xf Xf))) (oL (oF (rPL rMx))) m K)
def G9:{m // Pq λP w K mg base=>Def K mg "_law_passes" JI ["_law_drawing"]->BU P w K mg base FE->V7 P w K mg base JG->G6 P w K mg base m}:=⟨_, @λP w K mg base Z D cL bD=>go1 D ZV 6 1 rfl rfl λhr hu ao=>⟨_,(Xb (psn ZV 1 (Yg (Z7 K rfl rfl) rfl Z.b_dict PyProof.Rows.boot_dict (Xa (Xz K (pv 0) Xd) Xc)))
  (Xb (psn ZV 2 (pef cL hr (Xa (Xz K (pv 0) Xd) Xc)))
  (Xb (psn ZV 3 (Xs Xc))
  (Xb (psf (Xo (K:=K) rfl (Ya (sc:=(Xg JI)) (N0:=["_law_drawing","_law_signs","_law_pairs_here","_law_found","_law_top","_law_mid","_law_low"]) (tns:=["_law_one"]) (caps:=[]) rfl (Xo (K:=K) rfl (pv 2)) (X0 (by decide)) (λcl C s H ex E=>⟨XB (i:=0) (show List.Nodup (["_law_one"]:List Str) by decide+kernel) rfl (Or.inl rfl),(Qs (Xl Fb (XF (Do K rfl rfl) rfl Z.b_min PyProof.Rows.boot_min (Xa (XM (Y0 K rfl) (pv 0) (XO Xd) Yj) Xc)) Xd (Xr _))),(pv 0)⟩))) (pgn ZV 4)
   (Xb (psf (Xo (K:=K) rfl (Ya (sc:=(Xg JI)) (N0:=["_law_drawing","_law_signs","_law_pairs_here","_law_found","_law_top","_law_mid","_law_low"]) (tns:=["_law_one"]) (caps:=[]) rfl (Xo (K:=K) rfl (pv 2)) (X0 (by decide)) (λcl C s H ex E=>⟨XB (i:=0) (show List.Nodup (["_law_one"]:List Str) by decide+kernel) rfl (Or.inl rfl),(Qs (Ol UR UR (XF (Do K rfl rfl) rfl Z.b_min PyProof.Rows.boot_min (Xa (XM (Y0 K rfl) (pv 0) (XO Xd) Yj) Xc)) Xd (XF (VR K rfl rfl) rfl Z.b_max PyProof.Rows.boot_max (Xa (XM (Y0 K rfl) (pv 0) (XO Xd) Yj) Xc)))),(pv 0)⟩))) (pgn ZV 5)
    (Xb (psf (Xo (K:=K) rfl (Ya (sc:=(Xg JI)) (N0:=["_law_drawing","_law_signs","_law_pairs_here","_law_found","_law_top","_law_mid","_law_low"]) (tns:=["_law_one"]) (caps:=[]) rfl (Xo (K:=K) rfl (pv 2)) (X0 (by decide)) (λcl C s H ex E=>⟨XB (i:=0) (show List.Nodup (["_law_one"]:List Str) by decide+kernel) rfl (Or.inl rfl),(Qs (Xl UR (XF (VR K rfl rfl) rfl Z.b_max PyProof.Rows.boot_max (Xa (XM (Y0 K rfl) (pv 0) (XO Xd) Yj) Xc)) Xd (Xr _))),(pv 0)⟩))) (pgn ZV 6)
     (Xb (XV (Q9 (pef bD hr (Xa (pv 1) (Xa (pv 4) (Xa (pv 5) (Xa (pv 6) Xc))))))
      (Xb (Xy (YW PySem.F.plainAttrs_list PySem.F.slot_list_append PySem.F.type_list_append XC (pv 3) (Xa (Xi (U8 K rfl) (Xi (U8 K rfl) (Xi (U8 K rfl) (Yk (Xa Yz Xc)) (XM (Y0 K rfl) (pv 4) Yj (XO Xd))) (XM (Y0 K rfl) (pv 5) Yj (XO Xd))) (XM (Y0 K rfl) (pv 6) Yj (XO Xd))) Xc)))
      Xe)
      Xe)
     Xe))
    Xe))
   Xe))
  (Xb (Xq (pv 3))
  Xe))))),λab al=>(Yc K (r:=(rD Xf)) (Ev.sh (U1 ql)) λa1 v2=>(Yc K qS λa5 v6=>(Yl K (o:=(oL (oF (rPL rMx)))) 0 (Zt (o:=(oF (rPL rMx)))) λfb bA iC=>(Qh K (λO (bf:Option V×Option V×Option V×V×List XD)=>[bf.2.2.2.2]) (λs bf=>[some ab,some v2,some v6,some bf.2.2.2.1,bf.1,bf.2.1,bf.2.2.1]) (λS (fA:(List (List Mx))) bf=>(SC.addO S K (oL (oF (rPL rMx))) bf.2.2.2.1 fA bf.2.2.2.2)) (λ_=>tg1 4) ((none),(none),(none),bA,iC) (fb) (Zv (Ev.sh (ZF (λ_=>tg1 0) qw (λC13 cw eD=>(XY (K:=K) (PH (Df (Yq (QK qB) (qp K) (qp K))) qB))) (λC13 cw eD=>qM)))) rfl rfl (λ_ s=>(SC.i s s.r)) (λg26 cG gX fz=>(Qh K (λO (bS:Option V×Option V×V×List XD)=>[bS.2.2.2]) (λs bS=>[some ab,some v2,some v6,some bS.2.2.1,some fz,bS.1,bS.2.1]) (λS (g48:(List (List Mx))) bS=>(SC.addO S K (oL (oF (rPL rMx))) bS.2.2.1 g48 bS.2.2.2)) (λ_=>tg1 5) ((cG.2.1),(cG.2.2.1),cG.2.2.2.1,cG.2.2.2.2) (g26) (Zv (Ev.sh (ZF (λ_=>tg1 0) qw (λC30 dY v32=>(XY (K:=K) (Lc (Df (Yq (QK qB) (qp K) (qp K))) qB (UY (Yq (QK qB) (qp K) (qp K)))))) (λC30 dY v32=>qM)))) rfl rfl (λ_ s=>(SC.i s s.l.r)) (λg49 x50 a51 v52=>(Qh K (λO (bX:Option V×V×List XD)=>[bX.2.2]) (λs bX=>[some ab,some v2,some v6,some bX.2.1,some fz,some v52,bX.1]) (λS (g65:(List (List Mx))) bX=>(SC.addO S K (oL (oF (rPL rMx))) bX.2.1 g65 bX.2.2)) (λ_=>tg1 6) ((x50.2.1),x50.2.2.1,x50.2.2.2) (g49) (Zv (Ev.sh (ZF (λ_=>tg1 0) qw (λC53 gx v55=>(XY (K:=K) (MK (UY (Yq (QK qB) (qp K) (qp K))) qB))) (λC53 gx v55=>qM)))) rfl rfl (λ_ s=>(SC.i s s.l.r)) (λg66 gY a68 v69=>(Y4 (λO (b6:V×List XD)=>[b6.2]) (λs b6=>[some ab,some v2,some v6,some b6.1,some fz,some v52,some v69]) (λS (ko:(List (List Mx))) b6=>(SC.addO S K (oL (oF (rPL rMx))) b6.1 ko b6.2)) (X2 (qt K) (UU K (EvB.flat (Ka (Ka (Ka (Ev.toB (EvS.ev (Z9 (r:=rMx) qa))) (Fu (Yq (QK qB) (qp K) (qp K)))) (Fu (Yq (QK qB) (qp K) (qp K)))) (Fu (Yq (QK qB) (qp K) (qp K))))) λa108 C107=>(XJ (gY.2.1,C107) (a108) rfl rfl)) (XJ (gY.2.1,gY.2.2) (g66) rfl rfl)) λg110 kI=>(XJ ((some v69),kI.1,kI.2) (g110) rfl rfl))) λg111 hZ=>(XJ ((some v52),(hZ.1),hZ.2.1,hZ.2.2) (g111) rfl rfl))) λg114 fZ=>(XJ ((some fz),(fZ.1),(fZ.2.1),fZ.2.2.1,fZ.2.2.2) (g114) rfl rfl))) λkC b8=>(Xu Zb)))))⟩⟩
def U5:=G9.1
theorem IS:FnScope ["_law_walks","_law_at","_law_k","_law_one","_law_two"] ["_law_walks","_law_at","_law_k","_law_one","_law_two"] (Xg Fi):={}
abbrev Fw (m:QLs->Int->Int->Int->Int->Rs QLs):Prop:=Fn P w K mg base 1 "_law_lay_in" ["_law_walks","_law_at","_law_k","_law_one","_law_two"] (jh (oL (oL (oF Xf))) Xf Xf Xf Xf m K)
def GW:{m // Pq λP w K mg base=>Def K mg "_law_lay_in" Fi ["_law_walks","_law_at","_law_k","_law_one","_law_two"]->Fw P w K mg base m}:=⟨_, @λP w K mg base Z D=>by
 refine JW D IS (λvs H Q E h=>?_) (λf aj A outer s H vs Q E hr h=>?_)
 ·obtain⟨ab,ac,aJ,df,v_4,al,aw,bW,fw,a_4,b,rfl,_⟩:=h;rfl
 obtain⟨ab,ac,aJ,df,v_4,al,aw,bW,fw,a_4,b,rfl,iP,hw,ck,cF,fY,kJ,h_4,hm,q⟩:=h
 have hu:=hu8 hr
 have ao:=Jo hr
 refine⟨_,(Xb (Jb (Xi Z4 (Xi Z4 (XM (Zo K rfl) (Xm K (pv 0) (pv 1)) Yj (XO (pv 2))) (Xs (Xa (pv 3) (Xa (pv 4) Xc)))) (XM (Zo K rfl) (Xm K (pv 0) (pv 1)) (XO (pv 2)) Yj)) (Uw (pv 0) (pv 1) Qd))
  Xe),?_⟩
 refine ME (S:=(SC.add (SC.add (SC.add (SC.add (SC.addO SC.nil K (oL (oL (oF Xf))) ab al iP) K Xf ac aw) K Xf aJ bW) K Xf df fw) K Xf v_4 a_4)) (U:=[some ab,some ac,some aJ,some df,some v_4]) 1 0 (by decide) ?_ hw (SC.i (SC.i (SC.i (SC.i (SC.i SC.t ck) cF) fY) kJ) h_4) hm q (λ_ _=>rfl)
 exact(Gw K qN (λ_=>qB) λiJ C25=>(LY (K:=K) (q:=(oL (oL (oF Xf)))) 0 rfl (λ_ s=>s.r)))⟩
def UW:=GW.1
theorem HP:FnScope ["_law_walks","_law_at","_law_k"] ["_law_walks","_law_at","_law_k"] (Xg Kc):={}
abbrev K9 (m:QLs->Int->Int->Rs QLs):Prop:=Fn P w K mg base 1 "_law_cut_out" ["_law_walks","_law_at","_law_k"] (qF (oL (oL (oF Xf))) Xf Xf m K)
def Kp:{m // Pq λP w K mg base=>Def K mg "_law_cut_out" Kc ["_law_walks","_law_at","_law_k"]->K9 P w K mg base m}:=⟨_, @λP w K mg base Z D=>by
 refine JW D HP (λvs H Q E h=>?_) (λf aj A outer s H vs Q E hr h=>?_)
 ·obtain⟨ab,ac,aJ,al,aw,bW,b,rfl,_⟩:=h;rfl
 obtain⟨ab,ac,aJ,al,aw,bW,b,rfl,iP,hw,ck,cF,fY,hm,q⟩:=h
 have hu:=hu8 hr
 have ao:=Jo hr
 refine⟨_,(Xb (Jb (Xi Z4 (XM (Zo K rfl) (Xm K (pv 0) (pv 1)) Yj (XO (pv 2))) (XM (Zo K rfl) (Xm K (pv 0) (pv 1)) (XO (Xi XA (pv 2) Xd)) Yj)) (Uw (pv 0) (pv 1) Qd))
  Xe),?_⟩
 refine ME (S:=(SC.add (SC.add (SC.addO SC.nil K (oL (oL (oF Xf))) ab al iP) K Xf ac aw) K Xf aJ bW)) (U:=[some ab,some ac,some aJ]) 1 0 (by decide) ?_ hw (SC.i (SC.i (SC.i SC.t ck) cF) fY) hm q (λ_ _=>rfl)
 exact(Gw K qN (λ_=>qB) λgt j4=>(LY (K:=K) (q:=(oL (oL (oF Xf)))) 0 rfl (λ_ s=>s.r)))⟩
def V0:=Kp.1
theorem UQ:FnScope ["_law_drawing","_law_move","_law_walks","_law_signs","_law_cut","_law_one","_law_two","_law_sign","_law_at","_law_k"] ["_law_drawing","_law_move"] (Xg AD):={}
abbrev AQ (m:QDr->(List Mx)->Rs QDr):Prop:=Fn P w K mg base 2 "_law_do" ["_law_drawing","_law_move"] (sp2 (rP2 (rV (rV Xf)) (rV (rP2 Xf Xf))) (rPL rMx) (oT2 (oL (oL (oF Xf))) (oL (oF (rP2 Xf Xf)))) m K)
def TX:{m // Pq λP w K mg base=>Def K mg "_law_do" AD ["_law_drawing","_law_move"]->Fw P w K mg base UW->K9 P w K mg base V0->AQ P w K mg base m}:=⟨_, @λP w K mg base Z D bn bt=>go2 D UQ 8 2 rfl rfl λhr hu ao=>⟨_,(Xb (Vf 2 (Xg AD) ["_law_drawing","_law_move","_law_walks","_law_signs","_law_cut","_law_one","_law_two","_law_sign","_law_at","_law_k"] ["_law_walk"] [] rfl UQ.nd rfl rfl (Xo (K:=K) rfl (Xz K (pv 0) Xd)) (X0 (by decide)) (λcl C s H ex E=>⟨XB (i:=0) (show List.Nodup (["_law_walk"]:List Str) by decide+kernel) rfl (Or.inl rfl),YF,(Yg (ZC K rfl) rfl Z.b_list PyProof.Rows.boot_list (Xa (pv 0) Xc))⟩))
  (Xb (psn UQ 3 (Yg (Z7 K rfl rfl) rfl Z.b_dict PyProof.Rows.boot_dict (Xa (Xz K (pv 0) Xd) Xc)))
  (Xb (XV (PW.pt (Ls (Xl YL (Xz K (pv 1) Xd) Yz (Xr _)) (BL (Xl Fb (X8 K Z.b_len (Xa (Xm K (pv 2) (Xz K (pv 1) Xd)) Xc)) Xd (Xr _)))))
   (Xb (psn UQ 4 (Xi Yd (Xz K (pv 1) Xd) (X8 K Z.b_len (Xa (Xm K (pv 2) (Xz K (pv 1) Xd)) Xc))))
   (Xb (Jb (Xi Z4 (XM (Zo K rfl) (Xm K (pv 2) (Xz K (pv 1) Xd)) (XO (pv 4)) Yj) (XM (Zo K rfl) (Xm K (pv 2) (Xz K (pv 1) Xd)) Yj (XO (pv 4)))) (Uw (pv 2) (Xz K (pv 1) Xd) Qd))
   Xe))
   Xe)
  (Xb (XV (Xl YL (Xz K (pv 1) Xd) Yz (Xr _))
   (Xb (psn UQ 5 (Xi Yb (Xz K (pv 1) Xd) (Xm K (Xs (Xa (Zx Yx Xd) (Xa Xd Xc))) (Yg QF rfl Z.b_int PyProof.Rows.boot_int (Xa (Y2 YL (Xz K (pv 1) Xd) Yz (Xr _)) Xc)))))
   (Xb (Xy (pef bn hr (Xa (pv 2) (Xa (Xz K (pv 1) Xd) (Xa (Xz K (pv 1) Xd) (Xa (pv 5) (Xa (Zx Yx (pv 5)) Xc)))))))
   (Xb (Vb ao (pv 3) (Xz K (pv 1) Xd) (Xz K (pv 1) Xd) rfl)
   Xe)))
   Xe)
  (Xb (XV (Xl YL (Xz K (pv 1) Xd) Yz (Xr _))
   (Xb (Xy (GX (pv 3) (XF OM rfl Z.b_abs PyProof.Rows.boot_abs (Xa (Xm K (Xm K (pv 2) (Xz K (pv 1) Xd)) (Xz K (pv 1) Xd)) Xc)) ⟨rfl,rfl,rfl,rfl⟩))
   (Xb (Xy (pef bt hr (Xa (pv 2) (Xa (Xz K (pv 1) Xd) (Xa (Xz K (pv 1) Xd) Xc)))))
   Xe))
   Xe)
  (Xb (XV (Xl YL (Xz K (pv 1) Xd) Yz (Xr _))
   (Xb (Lj (i:=5) (j:=6) (k:=7) rfl UQ.nd rfl rfl rfl (by decide) (by decide) (by decide) rfl rfl rfl (Xa (Xz K (pv 1) Xd) (Xa (Xz K (pv 1) Xd) (Xa (Xz K (pv 1) Xd) Xc))) rfl)
   (Xb (Xy (pef bn hr (Xa (pv 2) (Xa (Xz K (pv 1) Xd) (Xa (Xz K (pv 1) Xd) (Xa (pv 5) (Xa (pv 6) Xc)))))))
   (Xb (Vb ao (pv 3) (pv 5) (pv 7) rfl)
   (Xb (Vb ao (pv 3) (pv 6) (Zx Yx (pv 7)) rfl)
   (Xb (XV (Q9 (Xz K (pv 1) Xd))
    (Xb (EY (i:=5) (j:=6) rfl UQ.nd rfl rfl (by decide) rfl rfl (Xa (pv 6) (Xa (pv 5) Xc)) rfl)
    Xe)
    Xe)
   (Xb (Xy (pef bn hr (Xa (pv 2) (Xa (Xz K (pv 1) Xd) (Xa (Xz K (pv 1) Xd) (Xa (Zx Yx (pv 5)) (Xa (Zx Yx (pv 6)) Xc)))))))
   Xe))))))
   Xe)
  (Xb (XV (Xl YL (Xz K (pv 1) Xd) Yz (Xr _))
   (Xb (Xy (GX (pv 3) (Xm K (Xm K (pv 2) (Xz K (pv 1) Xd)) (Xz K (pv 1) Xd)) ⟨rfl,rfl,rfl,rfl⟩))
   (Xb (Xy (GX (pv 3) (Xm K (Xm K (pv 2) (Xz K (pv 1) Xd)) (Xi XA (Xz K (pv 1) Xd) Xd)) ⟨rfl,rfl,rfl,rfl⟩))
   (Xb (psf (Xo (K:=K) rfl (Cm K rfl (XF (Cn K rfl (Ci (by decide) hu)) rfl Z.b_sorted PyProof.Rows.boot_sorted (Xa (Xs (Xa (XM (Y0 K rfl) (pv 1) (XO Xd) (XO Xd)) (Xa (XM (Y0 K rfl) (pv 1) (XO Xd) (XO Xd)) Xc))) Xc X3)) (Zx Yx Xd))) (ZM rfl (Xt (pgn UQ 8) (Xt (pgn UQ 9) YJ)))
    (Xb (Xy (pef bt hr (Xa (pv 2) (Xa (pv 8) (Xa (pv 9) Xc)))))
    Xe))
   Xe)))
   Xe)
  (Xb (XV (Xl YL (Xz K (pv 1) Xd) Yz (Xr _))
   (Xb (psf (Xo (K:=K) rfl (Xs (Xa (XM (Y0 K rfl) (pv 1) (XO Xd) (XO Xd)) (Xa (XM (Y0 K rfl) (pv 1) (XO Xd) (XO Xd)) (Xa (XM (Y0 K rfl) (pv 1) (XO Xd) (XO Xd)) Xc))))) (ZM rfl (Xt (pgn UQ 8) (Xt (pgn UQ 9) YJ)))
    (Xb (EY (i:=5) (j:=6) rfl UQ.nd rfl rfl (by decide) rfl rfl (Xa (Xm K (Xm K (pv 2) (pv 8)) (pv 9)) (Xa (Xm K (Xm K (pv 2) (pv 8)) (Xi XA (pv 9) Xd)) Xc)) rfl)
    (Xb (Jb (pv 6) (Uw (Xm K (pv 2) (pv 8)) (pv 9) Qd))
    (Xb (Jb (pv 5) (Uw (Xm K (pv 2) (pv 8)) (Xi XA (pv 9) Xd) Qd))
    Xe))))
   Xe)
   Xe)
  (Xb (Xq (Yk (Xa (pv 2) (Xa (Dy rfl rfl Z.b_sorted (pv 3) (Ci (by decide) hu)) Xc))))
  Xe))))))))),λab ac al aw=>(Yl K (o:=(oL (oL (oF Xf)))) 0 (YG (λ_=>tg1 0) qw (λC5 a6 v7=>qN)) λa1 v2 C3=>(Yl K (o:=(oD Xf)) 1 (U1 ql) λfb bA iC=>(Y4 (λO (cG:Option V×V×List XD)=>[cG.2.2,iC]) (λs cG=>[some ab,some ac,some cG.2.1,some bA,cG.1,none,none,none,none,none]) (λS (j8:QLs) cG=>(SC.addO S K (oL (oL (oF Xf))) cG.2.1 j8 cG.2.2)) (X2 (qt K) (Yc K qS λgR gu=>(Gw K qN (λ_=>qb) λa62 iO=>(XJ ((some gu),v2,iO) (a62) rfl rfl))) (XJ ((none),v2,C3) (a1) rfl rfl)) λg65 bX=>(Y4 (λO (cS:Option V×V×V×List XD×List XD)=>[cS.2.2.2.2,cS.2.2.2.1]) (λs cS=>[some ab,some ac,some cS.2.2.1,some cS.2.1,bX.1,cS.1,none,none,none,none]) (λS (ia:QPs×QLs) cS=>(SC.addO (SC.addO S K (oD Xf) cS.2.1 ia.1 cS.2.2.2.1) K (oL (oL (oF Xf))) cS.2.2.1 ia.2 cS.2.2.2.2)) (X2 (qt K) (Yc K qS λa73 v74=>(KD (K:=K) (q:=(oL (oL (oF Xf)))) 2 0 rfl rfl (λ_ s=>s.l.r) qs qs qS qS λb101 hX=>(Bw K qs qb λkK kz=>(XJ ((some v74),bA,bX.2.1,kz,hX) (kK,b101) rfl rfl)))) (XJ ((none),bA,bX.2.1,iC,bX.2.2) (fb,g65) rfl rfl)) λkL c7=>(Y4 (λO (b8:V×V×List XD×List XD)=>[b8.2.2.2,b8.2.2.1]) (λs b8=>[some ab,some ac,some b8.2.1,some b8.1,bX.1,c7.1,none,none,none,none]) (λS (kM:QPs×QLs) b8=>(SC.addO (SC.addO S K (oD Xf) b8.1 kM.1 b8.2.2.1) K (oL (oL (oF Xf))) b8.2.1 kM.2 b8.2.2.2)) (X2 (qt K) (Br (K:=K) (r:=Xf) 3 1 rfl rfl (λ_ s=>s.l.r) qB λa130 C131=>(CD (K:=K) (q:=(oL (oL (oF Xf)))) 2 0 rfl rfl (λ_ s=>s.l.r) qs qs λb138 C139=>(XJ (c7.2.1,c7.2.2.1,C131,C139) (a130,b138) rfl rfl))) (XJ (c7.2.1,c7.2.2.1,c7.2.2.2.1,c7.2.2.2.2) (kL.1,kL.2) rfl rfl)) λkN c8=>(Y4 (λO (bN:Option V×Option V×Option V×V×V×List XD×List XD)=>[bN.2.2.2.2.2.2,bN.2.2.2.2.2.1]) (λs bN=>[some ab,some ac,some bN.2.2.2.2.1,some bN.2.2.2.1,bX.1,bN.1,bN.2.1,bN.2.2.1,none,none]) (λS (kO:QPs×QLs) bN=>(SC.addO (SC.addO S K (oD Xf) bN.2.2.2.1 kO.1 bN.2.2.2.2.2.1) K (oL (oL (oF Xf))) bN.2.2.2.2.1 kO.2 bN.2.2.2.2.2.2)) (X2 (qt K) (Sz (K:=K) 5 6 7 qs qs qs λa155 a156 a157 kD v159 v160=>(KD (K:=K) (q:=(oL (oL (oF Xf)))) 2 0 rfl rfl (λ_ s=>s.l.l.l.r) qs qs qS qS λb169 C170=>(Bw K qS qB λa173 C174=>(Bw K qS qB λa178 kP=>(Y4 (λO (d6:V×V)=>[C170,kP]) (λs d6=>[some ab,some ac,some c8.2.1,some c8.1,bX.1,some d6.1,some d6.2,some v160,none,none]) (λS (kQ:Int×Int) d6=>(SC.add (SC.add S K Xf d6.1 kQ.1) K Xf d6.2 kQ.2)) (X2 (qt K) (ES (K:=K) 5 6 qS qS λa185 a186 v187 v188=>(XJ (v187,v188) (a185,a186) rfl rfl)) (XJ (kD,v159) (a155,a156) rfl rfl)) λg190 x189=>(KD (K:=K) (q:=(oL (oL (oF Xf)))) 2 0 rfl rfl (λ_ s=>s.l.l.l.l.r) qs qs qS qS λb201 C202=>(XJ ((some x189.1),(some x189.2),(some v160),c8.1,c8.2.1,kP,C202) (a178,b201) rfl rfl))))))) (XJ ((c7.1),(none),(none),c8.1,c8.2.1,c8.2.2.1,c8.2.2.2) (kN.1,kN.2) rfl rfl)) λib aU=>(Y4 (λO (bT:Option V×Option V×V×V×List XD×List XD)=>[bT.2.2.2.2.2,bT.2.2.2.2.1]) (λs bT=>[some ab,some ac,some bT.2.2.2.1,some bT.2.2.1,bX.1,aU.1,aU.2.1,aU.2.2.1,bT.1,bT.2.1]) (λS (kR:QPs×QLs) bT=>(SC.addO (SC.addO S K (oD Xf) bT.2.2.1 kR.1 bT.2.2.2.2.1) K (oL (oL (oF Xf))) bT.2.2.2.1 kR.2 bT.2.2.2.2.2)) (X2 (qt K) (Br (K:=K) (r:=Xf) 3 1 rfl rfl (λ_ s=>s.l.r) qB λa221 C222=>(Br (K:=K) (r:=Xf) 3 1 rfl rfl (λ_ s=>s.r) qB λa234 kS=>(Qh K (λO (c9:Option V×Option V×V×List XD)=>[c9.2.2.2,kS]) (λs c9=>[some ab,some ac,some c9.2.2.1,some aU.2.2.2.1,bX.1,aU.1,aU.2.1,aU.2.2.1,c9.1,c9.2.1]) (λS (g256:QLs) c9=>(SC.addO S K (oL (oL (oF Xf))) c9.2.2.1 g256 c9.2.2.2)) (λ_=>tg2 8 9) ((none),(none),aU.2.2.2.2.1,aU.2.2.2.2.2.2) (ib.2) (Zv (Ev.sh (DK (Ev.ls (NA (Ev.ls (JY (Yn (EvB.sh (Kj qB)) (Yn (EvB.sh (Kj qB)) qa)))))) qB))) rfl rfl (λ_ s=>(SC.i s s.l.l.r)) (λg257 x258 a259 v260=>(CD (K:=K) (q:=(oL (oL (oF Xf)))) 2 0 rfl rfl (λ_ s=>s.l.l.r) qS qS λb263 C264=>(XJ ((some v260.1),(some v260.2),x258.2.2.1,C264) (b263) rfl rfl))) λg265 f6=>(XJ ((f6.1),(f6.2.1),aU.2.2.2.1,f6.2.2.1,kS,f6.2.2.2) (a234,g265) rfl rfl)))) (XJ ((none),(none),aU.2.2.2.1,aU.2.2.2.2.1,aU.2.2.2.2.2.1,aU.2.2.2.2.2.2) (ib.1,ib.2) rfl rfl)) λkT bU=>(Y4 (λO (cp:Option V×Option V×Option V×Option V×V×List XD)=>[cp.2.2.2.2.2,bU.2.2.2.2.1]) (λs cp=>[some ab,some ac,some cp.2.2.2.2.1,some bU.2.2.1,bX.1,cp.2.2.1,cp.2.2.2.1,aU.2.2.1,cp.1,cp.2.1]) (λS (g276:QLs) cp=>(SC.addO S K (oL (oL (oF Xf))) cp.2.2.2.2.1 g276 cp.2.2.2.2.2)) (X2 (qt K) (Qh K (λO (cq:Option V×Option V×Option V×Option V×V×List XD)=>[cq.2.2.2.2.2,bU.2.2.2.2.1]) (λs cq=>[some ab,some ac,some cq.2.2.2.2.1,some bU.2.2.1,bX.1,cq.2.2.1,cq.2.2.2.1,aU.2.2.1,cq.1,cq.2.1]) (λS (g300:QLs) cq=>(SC.addO S K (oL (oL (oF Xf))) cq.2.2.2.2.1 g300 cq.2.2.2.2.2)) (λ_=>tg2 8 9) ((bU.1),(bU.2.1),(aU.1),(aU.2.1),bU.2.2.2.1,bU.2.2.2.2.2) (kT.2) (Zv (Ev.sh (JY (Yn (EvB.sh (Kj qB)) (Yn (EvB.sh (Kj qB)) (Yn (EvB.sh (Kj qB)) qa)))))) rfl rfl (λ_ s=>(SC.i s s.r)) (λg301 x302 a303 v304=>(ES (K:=K) 5 6 qS qS λa315 a316 v317 v318=>(DY (K:=K) (r:=Xf) 2 0 rfl rfl (λ_ s=>s.l.l.l.l.r) qS qB qB λa322 C323=>(DY (K:=K) (r:=Xf) 2 0 rfl rfl (λ_ s=>s.r) qS qB qB λa331 C332=>(XJ ((some v304.1),(some v304.2),(some v317),(some v318),x302.2.2.2.2.1,C332) (a331) rfl rfl))))) λg335 d7=>(XJ ((d7.1),(d7.2.1),(d7.2.2.1),(d7.2.2.2.1),d7.2.2.2.2.1,d7.2.2.2.2.2) (g335) rfl rfl)) (XJ ((bU.1),(bU.2.1),(aU.1),(aU.2.1),bU.2.2.2.1,bU.2.2.2.2.2) (kT.2) rfl rfl)) λg339 x338=>(Xu (JU Zb λ_=>(Nu qB)))))))))))⟩⟩
def HI:=TX.1
theorem Pt:FnScope ["_law_signs","_law_name"] ["_law_signs","_law_name"] (Xg Tz):={}
abbrev OH (m:QPs->Int->Rs Int):Prop:=Fn P w K mg base 1 "_law_new" ["_law_signs","_law_name"] (sp2 (rD Xf) Xf (oF Xf) m K)
def RD:{m // Pq λP w K mg base=>Def K mg "_law_new" Tz ["_law_signs","_law_name"]->OH P w K mg base m}:=⟨_, @λP w K mg base Z D=>go2 D Pt 0 0 rfl rfl λhr hu ao=>⟨_,(Xb (GY PassesOwn.never (Ww (LH ao (pv 1) (pv 0)))
   (Xb (psn Pt 1 (Xi XA (pv 1) Xd))
   Xe))
  (Xb (Xq (pv 1))
  Xe)),λab ac al aw=>(PL (λO (x1:V)=>[]) (λs x1=>[some ab,some x1]) (λS (g2:Int) x1=>(SC.add S K Xf x1 g2)) (al.length+2) (ac) (aw) rfl rfl (λ_ s=>(SC.i s s.r)) (λg3 x4=>(DB (K:=K) (Eb qB qB))) (λg3 x4=>(Yc K qS λa7 v8=>(XJ (v8) (a7) rfl rfl))) λg11 bV=>(Xu qM))⟩⟩
def IQ:=RD.1
theorem Vd:FnScope ["_law_drawing","_law_some","_law_walks","_law_signs","_law_at","_law_k","_law_far","_law_name"] ["_law_drawing","_law_some"] (Xg Li):={}
abbrev MS (m:QDr->(List Int)->Rs (List Mx)):Prop:=Fn P w K mg base 2 "_law_curl" ["_law_drawing","_law_some"] (sp2 (rP2 (rV (rV Xf)) (rV (rP2 Xf Xf))) (rV Xf) (oF (rPL rMx)) m K)
def IT:{m // Pq λP w K mg base=>Def K mg "_law_curl" Li ["_law_drawing","_law_some"]->OH P w K mg base IQ->MS P w K mg base m}:=⟨_, @λP w K mg base Z D b9=>go2 D Vd 6 0 rfl rfl λhr hu ao=>⟨_,(Xb (Jb (pv 0) (ZM rfl (Xt (pgn Vd 2) (Xt (pgn Vd 3) YJ))))
  (Xb (psn Vd 4 (Xi Yd (Xm K (pv 1) Xd) (X8 K Z.b_len (Xa (pv 2) Xc))))
  (Xb (psn Vd 5 (Xi Yd (Xm K (pv 1) Xd) (Xi XA (X8 K Z.b_len (Xa (Xm K (pv 2) (pv 4)) Xc)) Xd)))
  (Xb (psn Vd 6 (Xm K (Xs (Xa Xd (Xa Xd (Xa (Xi VM Xd Xd) (Xa (Xi VM Xd Xd) Xc))))) (Xi Yd (Xm K (pv 1) Xd) Xd)))
  (Xb (psn Vd 7 (pef b9 hr (Xa (Yg (Z7 K rfl rfl) rfl Z.b_dict PyProof.Rows.boot_dict (Xa (pv 3) Xc)) (Xa (Xi XA Xd (Xi Yb (Xm K (pv 1) Xd) (pv 6))) Xc))))
  (Xb (Xq (Yk (Xa Yz (Xa (pv 4) (Xa (pv 5) (Xa (pv 7) (Xa (Xm K (Xs (Xa Yz (Xa Yz Xc))) (Xm K (pv 1) Xd)) (Xa (Xi Qj (Xi Yb Xd (Xm K (pv 1) Xd)) Xd) Xc))))))))
  Xe)))))),λab ac al aw=>(LC (K:=K) 2 3 qS λa1 v2 v3=>(Yc K qS λa4 v5=>(Yc K qS λgp gU=>(Yc K qS λa22 hJ=>(Yc K (r:=Xf) (EvB.sh (Ev.toB (U3 (Ev.toB (U1 ql)) qB))) λa43 v44=>(Xu (EvB.flat (Ev.toB (EvS.ev (Z9 (r:=rMx) qa))))))))))⟩⟩
def Cj:=IT.1
theorem Qx:FnScope ["_law_drawing","_law_some","_law_walks","_law_signs","_law_names","_law_over","_law_k","_law_under","_law_free","_law_far","_law_one","_law_two","_law_to"] ["_law_drawing","_law_some"] (Xg Od):={}
abbrev RI (m:QDr->(List Int)->Rs (List Mx)):Prop:=Fn P w K mg base 2 "_law_lay" ["_law_drawing","_law_some"] (sp2 (rP2 (rV (rV Xf)) (rV (rP2 Xf Xf))) (rV Xf) (oF (rPL rMx)) m K)
def T7:{m // Pq λP w K mg base=>Def K mg "_law_lay" Od ["_law_drawing","_law_some"]->OH P w K mg base IQ->RI P w K mg base m}:=⟨_, @λP w K mg base Z D b9=>go2 D Qx 11 1 rfl rfl λhr hu ao=>⟨_,(Xb (Jb (pv 0) (ZM rfl (Xt (pgn Qx 2) (Xt (pgn Qx 3) YJ))))
  (Xb (psn Qx 4 (Yg (Z7 K rfl rfl) rfl Z.b_dict PyProof.Rows.boot_dict (Xa (pv 3) Xc)))
  (Xb (psn Qx 5 (Xi Yd (Xm K (pv 1) Xd) (X8 K Z.b_len (Xa (pv 2) Xc))))
  (Xb (UI (i:=6) Qx.nd rfl (Or.inr rfl) (Xi Yd (Xm K (pv 1) Xd) (Xi XA (X8 K Z.b_len (Xa (Xm K (pv 2) (pv 5)) Xc)) Xd)))
  (Xb (psn Qx 7 (Xi Yd (Xm K (pv 1) Xd) (X8 K Z.b_len (Xa (pv 2) Xc))))
  (Xb (psn Qx 8 (DC rfl rfl rfl Z.b_list Z.b_range (Xa (Xi XA (X8 K Z.b_len (Xa (Xm K (pv 2) (pv 7)) Xc)) Xd) Xc)))
  (Xb (XV (Xl YL (pv 7) (pv 5) (Xr _))
   (Xb (Vf 8 (Xg Od) ["_law_drawing","_law_some","_law_walks","_law_signs","_law_names","_law_over","_law_k","_law_under","_law_free","_law_far","_law_one","_law_two","_law_to"] ["_law_j"] [(6,"_law_k")] rfl Qx.nd rfl rfl (Xx rfl Z.b_range (Xa (Xi XA (X8 K Z.b_len (Xa (Xm K (pv 2) (pv 5)) Xc)) Xd) Xc)) (X0 (by decide)) (λcl C s H ex E=>⟨XB (i:=0) (show List.Nodup (["_law_j","_law_k"]:List Str) by decide+kernel) rfl (Or.inl rfl),(Qs (Xl HV (pv 0) (Xi XA (pv 1) Xd) (Xr _))),(pv 0)⟩))
   Xe)
   Xe)
  (Xb (psn Qx 9 (Xm K (Xs (Xa Xd (Xa Xd (Xa (Xi VM Xd Xd) (Xa (Xi VM Xd Xd) Xc))))) (Xi Yd (Xm K (pv 1) Xd) Xd)))
  (Xb (psn Qx 10 (pef b9 hr (Xa (pv 4) (Xa (Xi XA Xd (Xi Yb (Xm K (pv 1) Xd) (pv 9))) Xc))))
  (Xb (Vb ao (pv 4) (pv 10) Xd rfl)
  (Xb (psn Qx 11 (pef b9 hr (Xa (pv 4) (Xa (Xi XA Xd (Xm K (pv 1) Xd)) Xc))))
  (Xb (psn Qx 12 (Xm K (pv 8) (Xi Yd (Xm K (pv 1) Xd) (X8 K Z.b_len (Xa (pv 8) Xc)))))
  (Xb (Xq (Yk (Xa Yz (Xa (pv 5) (Xa (pv 6) (Xa (pv 7) (Xa (pv 12) (Xa (pv 10) (Xa (pv 11) (Xa (Y2 YL (Xm K (pv 1) Xd) Xd (Xr _)) (Xa (Xi Qj (Xi Yb Xd (Xm K (pv 1) Xd)) Xd) Xc)))))))))))
  Xe))))))))))))),λab ac al aw=>(LC (K:=K) 2 3 qS λa1 v2 v3=>(Yl K (o:=(oD Xf)) 0 (U1 ql) λa4 v5 C6=>(Yc K qS λa8 v9=>(Yc K qS λj2 v16=>(Yc K qS λa26 kd=>(Yc K (r:=(rV Xf)) (Ev.sh (DJ qB)) λkU v34=>(Y4 (λO (cR:V)=>[C6]) (λs cR=>[some ab,some ac,some v2,some v3,some v5,some v9,some v16,some kd,some cR,none,none,none,none]) (λS (fX:(List Int)) cR=>(SC.add S K (rV Xf) cR fX)) (X2 (qt K) (Yc K (r:=(rV Xf)) (Ev.sh (ZF (λ_=>tg1 0) qw (λC54 a55 v56=>(qt K)) (λC54 a55 v56=>qM))) λa46 v47=>(XJ (v47) (a46) rfl rfl)) (XJ (v34) (kU) rfl rfl)) λfC dh=>(Yc K qS λa64 v65=>(Yc K qS λa85 v86=>(Bw K qS qB λa98 C99=>(Yc K qS λa100 v101=>(Yc K qS λkK v110=>(Xu (EvB.flat (Ev.toB (EvS.ev (Z9 (r:=rMx) qa)))))))))))))))))⟩⟩
def WL:=T7.1
theorem J9:FnScope ["_law_script","_law_place","_law_drawing","_law_word","_law_some","_law_steps","_law_found","_law_move","_law_k"] ["_law_script","_law_place","_law_drawing","_law_word"] (Xg Lf):={}
abbrev IB (m:(List Int)->Int->QDr->Str->Rs (List (List Mx))):Prop:=Fn P w K mg base 3 "_law_next" ["_law_script","_law_place","_law_drawing","_law_word"] (sp4 (rL Xf) Xf (rP2 (rV (rV Xf)) (rV (rP2 Xf Xf))) Hm (oL (oF (rPL rMx))) m K)
def Me:{m // Pq λP w K mg base=>Def K mg "_law_next" Lf ["_law_script","_law_place","_law_drawing","_law_word"]->Ia P w K mg base Fz->MS P w K mg base Cj->G6 P w K mg base U5->RI P w K mg base WL->IB P w K mg base m}:=⟨_, @λP w K mg base Z D aT dz ca fh=>by
  refine JW D J9 (λvs H Q E h=>?_) (λf aj A outer s H vs Q E hr h=>?_)
  . obtain⟨ab,ac,aJ,df,al,aw,bW,fw,b,rfl,_⟩:=h;rfl
  obtain⟨ab,ac,aJ,df,al,aw,bW,fw,b,rfl,ck,cF,fY,kJ,hm,q⟩:=h
  have hu:=hu8 hr
  have ao:=Jo hr
  apply Exists.intro
  apply And.intro
  case left=>
   refine' Xb ?zq1 ?zq2
   case zq1=>
    refine' UI (i:=4) ?zq3 ?zq4 ?zq5 ?zq6
    case zq3=>
     exact J9.nd
    case zq4=>
     exact rfl
    case zq5=>
     exact(Or.inl rfl)
    case zq6=>
     refine' Ws aT hr ?zq7 ?zq8
     case zq7=>
      exact(by decide)
     case zq8=>
      refine' Xa ?zq9 ?zq10
      case zq9=>
       exact(pv 0)
      case zq10=>
       refine' Xa ?zq11 ?zq12
       case zq11=>
        exact(pv 1)
       case zq12=>
        exact(Xa (Xs (Xa Xd (Xa Xd (Xa Xd (Xa Xd (Xa Xd (Xa Xd (Xa Xd (Xa Xd (Xa Xd Xc)))))))))) Xc X3)
   case zq2=>
    refine' Xb ?zq13 ?zq14
    case zq13=>
     refine' XV ?zq15 ?zq16 ?zq17
     case zq15=>
      exact(Xl YL (pv 3) Yz (Xr _))
     case zq16=>
      refine' Xb ?zq18 ?zq19
      case zq18=>
       refine' UI (i:=5) ?zq20 ?zq21 ?zq22 ?zq23
       case zq20=>
        exact J9.nd
       case zq21=>
        exact rfl
       case zq22=>
        exact(Or.inl rfl)
       case zq23=>
        exact(Xi Yb (Xi Qj (Xm K (pv 4) Xd) Xd) (Xm K (Xs (Xa Xd (Xa Xd (Xa (Xi XA (Xi VM Xd Xd) Xd) Xc)))) (Xi Yd (Xm K (pv 4) Xd) Xd)))
      case zq19=>
       refine' Xb ?zq24 ?zq25
       case zq24=>
        refine' Xq ?zq26
        case zq26=>
         refine' Xs ?zq27
         case zq27=>
          refine' Xa ?zq28 ?zq29
          case zq28=>
           refine' Yk ?zq30
           case zq30=>
            refine' Xa ?zq31 ?zq32
            case zq31=>
             exact Yz
            case zq32=>
             refine' Xa ?zq33 ?zq34
             case zq33=>
              exact(Xi Yd (Xm K (pv 4) Xd) (X8 K Z.b_len (Xa (Xz K (pv 2) Xd) Xc)))
             case zq34=>
              exact(Xa (pv 5) Xc)
          case zq29=>
           exact Xc
       case zq25=>
        exact Xe
     case zq17=>
      exact Xe
    case zq14=>
     refine' Xb ?zq35 ?zq36
     case zq35=>
      refine' XV ?zq37 ?zq38 ?zq39
      case zq37=>
       exact(Xl YL (pv 3) Yz (Xr _))
      case zq38=>
       refine' Xb ?zq40 ?zq41
       case zq40=>
        exact(psn J9 6 (pef ca hr (Xa (pv 2) Xc)))
       case zq41=>
        refine' Xb ?zq42 ?zq43
        case zq42=>
         refine' XV ?zq44 ?zq45 ?zq46
         case zq44=>
          exact(Xl Fb (X8 K Z.b_len (Xa (pv 6) Xc)) Xd (Xr _))
         case zq45=>
          refine' Xb ?zq47 ?zq48
          case zq47=>
           refine' Xq ?zq49
           case zq49=>
            refine' Xs ?zq50
            case zq50=>
             refine' Xa ?zq51 ?zq52
             case zq51=>
              refine' RZ (EC K rfl) ?zq53 ?zq54 (λ_ _=>rfl)
              case zq53=>
               exact(pv 6)
              case zq54=>
               exact(Xi Yd (Xm K (pv 4) Xd) (X8 K Z.b_len (Xa (pv 6) Xc)))
             case zq52=>
              exact Xc
          case zq48=>
           exact Xe
         case zq46=>
          exact Xe
        case zq43=>
         exact Xe
      case zq39=>
       exact Xe
     case zq36=>
      refine' Xb ?zq55 ?zq56
      case zq55=>
       refine' XV ?zq57 ?zq58 ?zq59
       case zq57=>
        exact(PW.pt (L8 (Xl YL (pv 3) Yz (Xr _)) (Et (Xl YL (pv 3) Yz (Xr _)))))
       case zq58=>
        refine' Xb ?zq60 ?zq61
        case zq60=>
         exact(psn J9 7 (pef fh hr (Xa (pv 2) (Xa (pv 4) Xc))))
        case zq61=>
         refine' Xb ?zq62 ?zq63
         case zq62=>
          exact(XV (Xl YL (pv 3) Yz (Xr _))
        (Xb (Xq (Xs (Xa (pv 7) Xc)))
        Xe)
        Xe)
         case zq63=>
          refine' Xb ?zq64 ?zq65
          case zq64=>
           refine' UI (i:=8) ?zq66 ?zq67 ?zq68 ?zq69
           case zq66=>
            exact J9.nd
           case zq67=>
            exact rfl
           case zq68=>
            exact(Or.inl rfl)
           case zq69=>
            exact(Xi XA (Xz K (pv 7) Xd) (Xi Yb Xd (Yg QF rfl Z.b_int PyProof.Rows.boot_int (Xa (Le (Y2 YL (Xz K (pv 7) Xd) (Xz K (pv 7) Xd) (Xr _)) (IX (Y2 Wo (Xz K (pv 7) Xd) (Xz K (pv 7) Xd) (Xr _)))) Xc))))
          case zq65=>
           refine' Xb ?zq70 ?zq71
           case zq70=>
            refine' Xq ?zq72
            case zq72=>
             refine' Xs ?zq73
             case zq73=>
              refine' Xa ?zq74 ?zq75
              case zq74=>
               exact(pv 7)
              case zq75=>
               refine' Xa ?zq76 ?zq77
               case zq76=>
                refine' Yk ?zq78
                case zq78=>
                 refine' Xa ?zq79 ?zq80
                 case zq79=>
                  exact Yz
                 case zq80=>
                  refine' Xa ?zq81 ?zq82
                  case zq81=>
                   exact(Xz K (pv 7) Xd)
                  case zq82=>
                   exact(Xa (pv 8) (Xa (Xz K (pv 7) Xd) (Xa (Xz K (pv 7) Xd) Xc)))
               case zq77=>
                exact Xc
           case zq71=>
            exact Xe
       case zq59=>
        exact Xe
      case zq56=>
       refine' Xb ?zq83 ?zq84
       case zq83=>
        exact(psn J9 7 (pef dz hr (Xa (pv 2) (Xa (pv 4) Xc))))
       case zq84=>
        refine' Xb ?zq85 ?zq86
        case zq85=>
         refine' XV ?zq87 ?zq88 ?zq89
         case zq87=>
          exact(Xl YL (pv 3) Yz (Xr _))
         case zq88=>
          refine' Xb ?zq90 ?zq91
          case zq90=>
           refine' Xq ?zq92
           case zq92=>
            refine' Xs ?zq93
            case zq93=>
             exact(Xa (pv 7) (Xa (Yk (Xa Yz (Xa (Xz K (pv 7) Xd) (Xa (Xz K (pv 7) Xd) Xc)))) Xc))
          case zq91=>
           exact Xe
         case zq89=>
          exact Xe
        case zq86=>
         exact(Xb (Xq (Xs (Xa (pv 7) Xc)))
    Xe)
  refine Bj (S:=(SC.add (SC.add (SC.add (SC.add SC.nil K (rL Xf) ab al) K Xf ac aw) K (rP2 (rV (rV Xf)) (rV (rP2 Xf Xf))) aJ bW) K Hm df fw)) (U:=[some ab,some ac,some aJ,some df,none,none,none,none,none]) 0 ?_ (SC.i (SC.i (SC.i (SC.i SC.t ck) cF) fY) kJ) hm q rfl
  exact(Yc K qS λa1 v2=>(J3 (qt K) (Yc K qS λgR gu=>(Xu (JY (Yn (EvB.sh (Ev.toB (EvS.ev (Z9 (r:=rMx) qa)))) qa)))) (AO (λO (b6:Option V)=>[]) (λs b6=>[some ab,some ac,some aJ,some df,some v2,none,b6,none,none]) (λS (ko:Unit) b6=>S) (X2 (qt K) (Yc K qS λa78 v79=>(QN (qt K) (Xu qN) (Zs (XJ ((some v79)) () rfl rfl)))) (Zs (XJ ((none)) () rfl rfl))) λg100 x99=>(J3 (qt K) (Yc K qS λkA v107=>(J3 (qt K) (Xu qN) (Yc K qS λa117 v118=>(Xu (JY (Yn qS (Yn (EvB.sh (Ev.toB (EvS.ev (Z9 (r:=rMx) qa)))) qa))))))) (Yc K qS λic v166=>(J3 (qt K) (Xu (JY (Yn qS (Yn (EvB.sh (Ev.toB (EvS.ev (Z9 (r:=rMx) qa)))) qa)))) (Xu qN)))))))⟩
def Ck:=Me.1
theorem QX:FnScope ["_law_script","_law_place","_law_drawing","_law_words","_law_some","_law_found","_law_k","_law_word","_law_move"] ["_law_script","_law_place","_law_drawing","_law_words"] (Xg BC):={}
abbrev B1 (m:(List Int)->Int->QDr->(List Str)->Rs (QDr×(List (List Mx)))):Prop:=Fn P w K mg base 4 "_law_chain" ["_law_script","_law_place","_law_drawing","_law_words"] (qH (rL Xf) Xf (rP2 (rV (rV Xf)) (rV (rP2 Xf Xf))) (rV Hm) (oT2 (oF (rP2 (rV (rV Xf)) (rV (rP2 Xf Xf)))) (oL (oF (rPL rMx)))) m K)
def B4:{m // Pq λP w K mg base=>Def K mg "_law_chain" BC ["_law_script","_law_place","_law_drawing","_law_words"]->Ia P w K mg base Fz->IB P w K mg base Ck->AQ P w K mg base HI->B1 P w K mg base m}:=⟨_, @λP w K mg base Z D aT dA ie=>by
 refine JW D QX (λvs H Q E h=>?_) (λf aj A outer s H vs Q E hr h=>?_)
 ·obtain⟨ab,ac,aJ,df,al,aw,bW,fw,b,rfl,_⟩:=h;rfl
 obtain⟨ab,ac,aJ,df,al,aw,bW,fw,b,rfl,Cf,hw,ck,cF,fY,kJ,hm,q⟩:=h
 have hu:=hu8 hr
 have ao:=Jo hr
 refine⟨_,(Xb (psn QX 4 (pef aT hr (Xa (pv 0) (Xa (pv 1) (Xa (Xi Z4 (Xs (Xa Xd Xc)) (Xi DH (Xs (Xa Xd Xc)) Xd)) Xc)))))
  (Xb (psn QX 5 (Xs Xc))
  (Xb (psf (Xx rfl Z.b_range (Xa (Xm K (pv 4) Xd) Xc)) (pgn QX 6)
   (Xb (psn QX 7 (Xm K (pv 3) (Xi Yd (Xm K (pv 4) (Xi XA Xd (pv 6))) (X8 K Z.b_len (Xa (pv 3) Xc)))))
   (Xb (psf (Xo (K:=K) rfl (pef dA hr (Xa (pv 0) (Xa (Xi XA (Xi XA (pv 1) Xd) (pv 6)) (Xa (pv 2) (Xa (pv 7) Xc)))))) (pgn QX 8)
    (Xb (Xy (YW PySem.F.plainAttrs_list PySem.F.slot_list_append PySem.F.type_list_append XC (pv 5) (Xa (pv 8) Xc)))
    (Xb (psn QX 2 (pef ie hr (Xa (pv 2) (Xa (pv 8) Xc))))
    Xe)))
   Xe)))
  (Xb (Xq (Yk (Xa (pv 2) (Xa (pv 5) Xc))))
  Xe)))),?_⟩
 refine Ng (S:=(SC.add (SC.add (SC.add (SC.add SC.nil K (rL Xf) ab al) K Xf ac aw) K (rP2 (rV (rV Xf)) (rV (rP2 Xf Xf))) aJ bW) K (rV Hm) df fw)) (U:=[some ab,some ac,some aJ,some df,none,none,none,none,none]) 1 ?_ hw (SC.i (SC.i (SC.i (SC.i SC.t ck) cF) fY) kJ) hm q rfl
 exact(Yc K qS λa1 v2=>(Yl K (o:=(oL (oF (rPL rMx)))) 0 (Zt (o:=(oF (rPL rMx)))) λhW cJ C19=>(Qh K (λO (bL:Option V×Option V×Option V×V×V×List XD)=>[bL.2.2.2.2.2,Cf]) (λs bL=>[some ab,some ac,some bL.2.2.2.1,some df,some v2,some bL.2.2.2.2.1,bL.1,bL.2.1,bL.2.2.1]) (λS (hU:QDr×(List (List Mx))) bL=>(SC.addO (SC.add S K (rP2 (rV (rV Xf)) (rV (rP2 Xf Xf))) bL.2.2.2.1 hU.1) K (oL (oF (rPL rMx))) bL.2.2.2.2.1 hU.2 bL.2.2.2.2.2)) (λ_=>tg1 6) ((none),(none),(none),aJ,cJ,C19) (bW,hW) qw rfl rfl (λ_ s=>(SC.i (SC.i s s.l.l.l.r) s.r)) (λfA fe a27 v28=>(Yc K qS λgR gu=>(Qh K (λO (dB:Option V×V×V×List XD)=>[dB.2.2.2,Cf]) (λs dB=>[some ab,some ac,some dB.2.1,some df,some v2,some dB.2.2.1,some v28,some gu,dB.1]) (λS (g50:QDr×(List (List Mx))) dB=>(SC.addO (SC.add S K (rP2 (rV (rV Xf)) (rV (rP2 Xf Xf))) dB.2.1 g50.1) K (oL (oF (rPL rMx))) dB.2.2.1 g50.2 dB.2.2.2)) (λ_=>tg1 8) ((fe.2.2.1),fe.2.2.2.1,fe.2.2.2.2.1,fe.2.2.2.2.2) (fA.1,fA.2) qw rfl rfl (λ_ s=>(SC.i (SC.i s s.l.l.l.r) s.l.l.r)) (λiF dW a53 v54=>(UU K qM λa57 C56=>(Yc K qS λkG kH=>(XJ ((some v54),kH,dW.2.2.1,C56) (kG,a57) rfl rfl)))) λfC bX=>(XJ ((some v28),(some gu),(bX.1),bX.2.1,bX.2.2.1,bX.2.2.2) (fC.1,fC.2) rfl rfl)))) λg66 gY=>(FU (K:=K) 1 (by rfl) (JU qM λ_=>(Zb (k:=1)))))))⟩
def G0:=B4.1
theorem RY:FnScope ["_law_drawing"] ["_law_drawing"] (Xg EA):={}
abbrev Nh (m:QDr->Rs QDr):Prop:=Fn P w K mg base 1 "_law_copy" ["_law_drawing"] (sp1 (rP2 (rV (rV Xf)) (rV (rP2 Xf Xf))) (oT2 (oL (oL (oF Xf))) (oL (oF (rP2 Xf Xf)))) m K)
def MY:{m // Pq λP w K mg base=>Def K mg "_law_copy" EA ["_law_drawing"]->Nh P w K mg base m}:=⟨_, @λP w K mg base Z D=>go1 D RY 0 0 rfl rfl λhr hu ao=>⟨_,(Xb (Xq (Yk (Xa (Ya (sc:=(Xg EA)) (N0:=["_law_drawing"]) (tns:=["_law_walk"]) (caps:=[]) rfl (Xo (K:=K) rfl (Xz K (pv 0) Xd)) (X0 (by decide)) (λcl C s H ex E=>⟨XB (i:=0) (show List.Nodup (["_law_walk"]:List Str) by decide+kernel) rfl (Or.inl rfl),YF,(Yg (ZC K rfl) rfl Z.b_list PyProof.Rows.boot_list (Xa (pv 0) Xc))⟩)) (Xa (Yg (ZC K rfl) rfl Z.b_list PyProof.Rows.boot_list (Xa (Xz K (pv 0) Xd) Xc)) Xc))))
  Xe),λab al=>(Xu (JU (YG (λ_=>tg1 0) qw (λC2 a3 v4=>qN)) λ_=>qN))⟩⟩
def Ez:=MY.1
theorem UH:FnScope ["_law_found","_law_one"] ["_law_found"] (Xg Vo):={}
abbrev Vu (m:(List Int)->Rs Bool):Prop:=Fn P w K mg base 1 "_law_is_wholes" ["_law_found"] (sp1 (rV Xf) (oF XI) m K)
def Vs:{m // Pq λP w K mg base=>Def K mg "_law_is_wholes" Vo ["_law_found"]->Vu P w K mg base m}:=⟨_, @λP w K mg base Z D=>go1 D UH 1 0 rfl rfl λhr hu ao=>⟨_,(Xb (XV (DV (Q9 (XF Vw rfl Z.b_isinstance PyProof.Rows.boot_isinstance (Xa (pv 0) (Xa (BV (v:=V.ty "list") rfl Z.b_list PyProof.Rows.boot_list rfl) Xc)))))
   (Xb (Xq UN)
   Xe)
   Xe)
  (Xb (psf (Xo (K:=K) rfl (pv 0)) (pgn UH 1)
   (Xb (XV (PW.pt (L8 (DV (Q9 (XF Vw rfl Z.b_isinstance PyProof.Rows.boot_isinstance (Xa (pv 1) (Xa (BV (v:=V.ty "int") rfl Z.b_int PyProof.Rows.boot_int rfl) Xc))))) (Et (Q9 (XF Vw rfl Z.b_isinstance PyProof.Rows.boot_isinstance (Xa (pv 1) (Xa (BV (v:=V.ty "bool") rfl Z.b_bool PyProof.Rows.boot_bool rfl) Xc)))))))
    (Xb (Xq UN)
    Xe)
    Xe)
   Xe))
  (Xb (Xq UN)
  Xe))),λab al=>(J3 (BW (DB (K:=K) (Ua "list" true (He K "list") qB))) (Xu qM) (Dl K (λO (x4:Option V)=>[]) (λs x4=>[some ab,x4]) (λS (g5:Unit) x4=>S) (λ_=>tg1 1) ((none)) () qw rfl rfl (λ_ s=>s) (λg6 x7 a8 v9=>(QN (Nq (BW (DB (K:=K) (Ua "int" true (He K "int") qB))) (DB (K:=K) (Ua "bool" false (DP K) qB))) (Xu qM) (Zs (XJ ((some v9)) () rfl rfl)))) λj3 eG=>(Xu qM)))⟩⟩
def QW:=Vs.1
theorem Yh:FnScope ["_law_walks","_law_found","_law_count_here","_law_walk","_law_first","_law_number","_law_last","_law_k","_law_row_here"] ["_law_walks"] (Xg Fq):={}
abbrev U7 (m:QLs->Rs QLs):Prop:=Fn P w K mg base 1 "_law_arcs" ["_law_walks"] (sp1 (rV (rV Xf)) (oL (oL (oF Xf))) m K)
def G2:{m // Pq λP w K mg base=>Def K mg "_law_arcs" Fq ["_law_walks"]->U7 P w K mg base m}:=⟨_, @λP w K mg base Z D=>go1 D Yh 8 2 rfl rfl λhr hu ao=>⟨_,(Xb (psn Yh 1 (Xs Xc))
  (Xb (psn Yh 2 Xd)
  (Xb (psf (Xo (K:=K) rfl (pv 0)) (pgn Yh 3)
   (Xb (psn Yh 4 (pv 2))
   (Xb (psn Yh 5 (pv 2))
   (Xb (psn Yh 6 (Zx Yx Xd))
   (Xb (psf (Xx rfl Z.b_range (Xa (X8 K Z.b_len (Xa (pv 3) Xc)) Xc)) (pgn Yh 7)
    (Xb (XV (Xl UR (Xm K (pv 3) (pv 7)) Xd (Xr _))
     (Xb (psn Yh 6 (pv 7))
     Xe)
     Xe)
    Xe))
   (Xb (psn Yh 8 (Xi DH (Xs (Xa (pv 4) Xc)) (XF (VU rfl) rfl Z.b_max PyProof.Rows.boot_max (Xa (X8 K Z.b_len (Xa (pv 3) Xc)) (Xa Xd Xc)))))
   (Xb (psf (Xx rfl Z.b_range (Xa (Xi XA (pv 6) Xd) Xc)) (pgn Yh 7)
    (Xb (Jb (pv 5) (Uw (pv 8) (pv 7) Qd))
    (Xb (XV (PW.pt (Ls (Xl UR (Xm K (pv 3) (pv 7)) Xd (Xr _)) (BL (Xl UR (pv 7) (pv 6) (Xr _)))))
     (Xb (psn Yh 2 (Xi XA (pv 2) Xd))
     (Xb (psn Yh 5 (pv 2))
     Xe))
     Xe)
    Xe)))
   (Xb (psn Yh 2 (Xi XA (pv 2) Xd))
   (Xb (Xy (YW PySem.F.plainAttrs_list PySem.F.slot_list_append PySem.F.type_list_append XC (pv 1) (Xa (pv 8) Xc)))
   Xe)))))))))
  (Xb (Xq (pv 1))
  Xe)))),λab al=>(Yl K (o:=(oL (oL (oF Xf)))) 0 (Zt (o:=(oL (oF Xf)))) λa1 v2 C3=>(Yc K qS λa4 v5=>(Qh K (λO (x6:Option V×Option V×Option V×Option V×Option V×Option V×V×V×List XD)=>[x6.2.2.2.2.2.2.2.2,[]]) (λs x6=>[some ab,some x6.2.2.2.2.2.2.2.1,some x6.2.2.2.2.2.2.1,x6.1,x6.2.1,x6.2.2.1,x6.2.2.2.1,x6.2.2.2.2.1,x6.2.2.2.2.2.1]) (λS (g7:Int×QLs) x6=>(SC.addO (SC.add S K Xf x6.2.2.2.2.2.2.1 g7.1) K (oL (oL (oF Xf))) x6.2.2.2.2.2.2.2.1 g7.2 x6.2.2.2.2.2.2.2.2)) (λ_=>tg1 3) ((none),(none),(none),(none),(none),(none),v5,v2,C3) (a4,a1) qw rfl rfl (λ_ s=>(SC.i (SC.i s s.r) s.l.r)) (λg8 x9 fb bA=>(Yc K qS λgS dJ=>(Yc K qS λcw eD=>(Yc K qS λgW iH=>(Qh K (λO (bh:Option V×V)=>[x9.2.2.2.2.2.2.2.2,[]]) (λs bh=>[some ab,some x9.2.2.2.2.2.2.2.1,some x9.2.2.2.2.2.2.1,some bA,some dJ,some eD,some bh.2,bh.1,x9.2.2.2.2.2.1]) (λS (gq:Int) bh=>(SC.add S K Xf bh.2 gq)) (λ_=>tg1 7) ((x9.2.2.2.2.1),iH) (gW) qw rfl rfl (λ_ s=>(SC.i s s.r)) (λkh bf a25 gv=>(Y4 (λO (fB:V)=>[x9.2.2.2.2.2.2.2.2,[]]) (λs fB=>[some ab,some x9.2.2.2.2.2.2.2.1,some x9.2.2.2.2.2.2.1,some bA,some dJ,some eD,some fB,some gv,x9.2.2.2.2.2.1]) (λS (iI:Int) fB=>(SC.add S K Xf fB iI)) (X2 (qt K) (Yc K qS λa34 ke=>(XJ (ke) (a34) rfl rfl)) (XJ (bf.2) (kh) rfl rfl)) λfU bR=>(XJ ((some gv),bR) (fU) rfl rfl))) λg38 bJ=>(Yl K 1 qN λiK kW C42=>(Qh K (λO (cx:Option V×V×V×V×List XD)=>[x9.2.2.2.2.2.2.2.2,cx.2.2.2.2]) (λs cx=>[some ab,some x9.2.2.2.2.2.2.2.1,some cx.2.2.1,some bA,some dJ,some cx.2.2.2.1,some bJ.2,cx.1,some cx.2.1]) (λS (gn:(List Int)×Int×Int) cx=>(SC.add (SC.add (SC.addO S K (oL (oF Xf)) cx.2.1 gn.1 cx.2.2.2.2) K Xf cx.2.2.1 gn.2.1) K Xf cx.2.2.2.1 gn.2.2)) (λ_=>tg1 7) ((bJ.1),kW,x9.2.2.2.2.2.2.1,eD,C42) (iK,g8.1,cw) qw rfl rfl (λ_ s=>(SC.i (SC.i (SC.i s s.r) s.l.l.l.l.l.l.l.r) s.l.l.l.r)) (λg56 x57 kG kH=>(Gw K qM (λ_=>qB) λa62 iO=>(Y4 (λO (cS:V×V)=>[x9.2.2.2.2.2.2.2.2,iO]) (λs cS=>[some ab,some x9.2.2.2.2.2.2.2.1,some cS.1,some bA,some dJ,some cS.2,some bJ.2,some kH,some x57.2.1]) (λS (ia:Int×Int) cS=>(SC.add (SC.add S K Xf cS.1 ia.1) K Xf cS.2 ia.2)) (X2 (qt K) (Yc K qS λa73 v74=>(Yc K qS λku kw=>(XJ (v74,kw) (a73,ku) rfl rfl))) (XJ (x57.2.2.1,x57.2.2.2.1) (g56.2.1,g56.2.2) rfl rfl)) λg80 x79=>(XJ ((some kH),x57.2.1,x79.1,x79.2,iO) (a62,g80.1,g80.2) rfl rfl)))) λg81 x82=>(Yc K qS λa83 v84=>(UU K Zb λa89 C88=>(XJ ((some bA),(some dJ),(some x82.2.2.2.1),(some bJ.2),(x82.1),(some x82.2.1),v84,x9.2.2.2.2.2.2.2.1,C88) (a83,a89) rfl rfl)))))))))) λg92 x93=>(Xu Zb))))⟩⟩
def VD:=G2.1
theorem OU:FnScope ["_law_drawing"] ["_law_drawing"] (Xg FI):={}
abbrev G3 (m:QDr->Rs Int):Prop:=Fn P w K mg base 2 "_law_count" ["_law_drawing"] (sp1 (rP2 (rV (rV Xf)) (rV (rP2 Xf Xf))) (oF Xf) m K)
def BQ:{m // Pq λP w K mg base=>Def K mg "_law_count" FI ["_law_drawing"]->U7 P w K mg base VD->G3 P w K mg base m}:=⟨_, @λP w K mg base Z D aV=>go1 D OU 0 0 rfl rfl λhr hu ao=>⟨_,(Xb (Xq (Xi XA Xd (XF (Kh K rfl rfl) rfl Z.b_max PyProof.Rows.boot_max (Xa (Xi Z4 (Xs (Xa (Zx Yx Xd) Xc)) (Ya (sc:=(Xg FI)) (N0:=["_law_drawing"]) (tns:=["_law_row_here"]) (caps:=[]) rfl (Xo (K:=K) rfl (pef aV hr (Xa (Xz K (pv 0) Xd) Xc))) (X0 (by decide)) (λcl C s H ex E=>⟨XB (i:=0) (show List.Nodup (["_law_row_here"]:List Str) by decide+kernel) rfl (Or.inl rfl),YF,(XF (Kh K rfl rfl) rfl Z.b_max PyProof.Rows.boot_max (Xa (pv 0) Xc))⟩))) Xc))))
  Xe),λab al=>(Xu (EvS.ev (EvB.sh (Bk qB (GS (Ev.toB (PD ql (Ev.ls (YG (λ_=>tg1 0) qw (λiG gp gU=>(EvS.ev (EvB.sh (GS qB)))))))))))))⟩⟩
def V9:=BQ.1
theorem ZH:FnScope ["_law_drawing","_law_to","_law_behind","_law_walk","_law_row_here","_law_k"] ["_law_drawing"] (Xg VI):={}
abbrev Kq (m:QDr->Rs (List (Int×Int×Int×Int×Int))):Prop:=Fn P w K mg base 2 "_law_meets" ["_law_drawing"] (sp1 (rP2 (rV (rV Xf)) (rV (rP2 Xf Xf))) (oL (oF (rP5 Xf Xf Xf Xf Xf))) m K)
def Km:{m // Pq λP w K mg base=>Def K mg "_law_meets" VI ["_law_drawing"]->U7 P w K mg base VD->Kq P w K mg base m}:=⟨_, @λP w K mg base Z D aV=>go1 D ZH 5 2 rfl rfl λhr hu ao=>⟨_,(Xb (UI (i:=1) ZH.nd rfl (Or.inr rfl) F7)
  (Xb (UI (i:=2) ZH.nd rfl (Or.inr rfl) F7)
  (Xb (psf (T4 K rfl rfl Z.b_zip (Xa (Xz K (pv 0) Xd) (Xa (pef aV hr (Xa (Xz K (pv 0) Xd) Xc)) Xc))) (ZM rfl (Xt (pgn ZH 3) (Xt (pgn ZH 4) YJ)))
   (Xb (psf (Xx rfl Z.b_range (Xa (X8 K Z.b_len (Xa (pv 3) Xc)) Xc)) (pgn ZH 5)
    (Xb (Vb ao (pv 1) (Xm K (pv 3) (pv 5)) (Xm K (pv 4) (pv 5)) rfl)
    (Xb (Vb ao (pv 2) (Xm K (pv 3) (pv 5)) (Xm K (pv 4) (Xi Yd (Xi XA (pv 5) Xd) (X8 K Z.b_len (Xa (pv 3) Xc)))) rfl)
    Xe)))
   Xe))
  (Xb (Xq (Ya (sc:=(Xg VI)) (N0:=["_law_drawing","_law_to","_law_behind","_law_walk","_law_row_here","_law_k"]) (tns:=["_law_one","_law_sign"]) (caps:=[(1,"_law_to"),(2,"_law_behind")]) rfl (Xo (K:=K) rfl (Xz K (pv 0) Xd)) (MD (by decide) (by decide)) (λcl C s H ex E=>⟨Bg K rfl rfl (Xt (XB (i:=0) (show List.Nodup (["_law_one","_law_sign","_law_to","_law_behind"]:List Str) by decide+kernel) rfl (Or.inl rfl)) (Xt (XB (i:=1) (show List.Nodup (["_law_one","_law_sign","_law_to","_law_behind"]:List Str) by decide+kernel) rfl (Or.inl rfl)) YJ)),YF,(Yk (Xa (pv 0) (Xa (pv 1) (Xa (Vg ao (pv 2) (pv 0) (λ_ _=>rfl)) (Xa (Vg ao (pv 2) (Zx Yx (pv 0)) (λ_ _=>rfl)) (Xa (Vg ao (pv 3) (Zx Yx (pv 0)) (λ_ _=>rfl)) Xc))))))⟩)))
  Xe)))),λab al=>(Yl K (o:=(oD Xf)) 0 (BM (r:=Xf)) λa1 v2 C3=>(Yl K (o:=(oD Xf)) 1 (BM (r:=Xf)) λa4 v5 C6=>(Qh K (λO (aM:Option V×Option V×Option V×V×V×List XD×List XD)=>[aM.2.2.2.2.2.1,aM.2.2.2.2.2.2]) (λs aM=>[some ab,some aM.2.2.2.1,some aM.2.2.2.2.1,aM.1,aM.2.1,aM.2.2.1]) (λS (dX:QPs×QPs) aM=>(SC.addO (SC.addO S K (oD Xf) aM.2.2.2.1 dX.1 aM.2.2.2.2.2.1) K (oD Xf) aM.2.2.2.2.1 dX.2 aM.2.2.2.2.2.2)) (λ_=>tg2 3 4) ((none),(none),(none),v2,v5,C3,C6) (a1,a4) (NT qS qS) rfl rfl (λ_ s=>(SC.i (SC.i s s.l.r) s.r)) (λdM aA hW cJ=>(Qh K (λO (bh:Option V×V×V×List XD×List XD)=>[bh.2.2.2.1,bh.2.2.2.2]) (λs bh=>[some ab,some bh.2.1,some bh.2.2.1,some cJ.1,some cJ.2,bh.1]) (λS (gq:QPs×QPs) bh=>(SC.addO (SC.addO S K (oD Xf) bh.2.1 gq.1 bh.2.2.2.1) K (oD Xf) bh.2.2.1 gq.2 bh.2.2.2.2)) (λ_=>tg1 5) ((aA.2.2.1),aA.2.2.2.1,aA.2.2.2.2.1,aA.2.2.2.2.2.1,aA.2.2.2.2.2.2) (dM.1,dM.2) qw rfl rfl (λ_ s=>(SC.i (SC.i s s.l.l.l.r) s.l.l.r)) (λkh bf a25 gv=>(Bw K qS qB λkU kg=>(Bw K qS qB λa46 C47=>(XJ ((some gv),bf.2.1,bf.2.2.1,kg,C47) (kU,a46) rfl rfl)))) λg48 dB=>(XJ ((some cJ.1),(some cJ.2),(dB.1),dB.2.1,dB.2.2.1,dB.2.2.2.1,dB.2.2.2.2) (g48.1,g48.2) rfl rfl))) λiF dW=>(Xu (YG (λ_=>tg2 0 1) qw (λC54 a55 v56=>(EvS.ev (ET qS qS (EvB.sh (QZ qB qB)) (EvB.sh (QZ qB qB)) (EvB.sh (QZ qB qB))))))))))⟩⟩
def QB:=Km.1
theorem Ql:FnScope ["_law_meetings","_law_table","_law_colours","_law_crossing","_law_sign","_law_over","_law_inward","_law_outward","_law_one","_law_other"] ["_law_meetings","_law_table","_law_colours"] (Xg Ba):={}
abbrev BH (m:(List (Int×Int×Int×Int×Int))->QLs->(List Int)->Rs Bool):Prop:=Fn P w K mg base 1 "_law_keeps" ["_law_meetings","_law_table","_law_colours"] (sp3 (rV (rP5 Xf Xf Xf Xf Xf)) (rV (rV Xf)) (rV Xf) (oF XI) m K)
def Bl:{m // Pq λP w K mg base=>Def K mg "_law_keeps" Ba ["_law_meetings","_law_table","_law_colours"]->BH P w K mg base m}:=⟨_, @λP w K mg base Z D=>go3 D Ql 7 0 rfl rfl λhr hu ao=>⟨_,(Xb (psf (Xo (K:=K) rfl (pv 0)) (ZM rfl (Xt (pgn Ql 3) (Xt (pgn Ql 4) (Xt (pgn Ql 5) (Xt (pgn Ql 6) (Xt (pgn Ql 7) YJ))))))
   (Xb (EY (i:=8) (j:=9) rfl Ql.nd rfl rfl (by decide) rfl rfl (Xa (Xm K (pv 2) (pv 6)) (Xa (Xm K (pv 2) (pv 7)) Xc)) rfl)
   (Xb (XV (Xl UR (pv 4) Xd (Xr _))
    (Xb (EY (i:=8) (j:=9) rfl Ql.nd rfl rfl (by decide) rfl rfl (Xa (pv 9) (Xa (pv 8) Xc)) rfl)
    Xe)
    Xe)
   (Xb (XV (Xl HV (Xm K (Xm K (pv 1) (pv 8)) (Xm K (pv 2) (pv 5))) (pv 9) (Xr _))
    (Xb (Xq UN)
    Xe)
    Xe)
   Xe))))
  (Xb (Xq UN)
  Xe)),λab ac aJ al aw bW=>(Dl K (λO (x1:Option V×Option V×Option V×Option V×Option V×Option V×Option V)=>[]) (λs x1=>[some ab,some ac,some aJ,x1.1,x1.2.1,x1.2.2.1,x1.2.2.2.1,x1.2.2.2.2.1,x1.2.2.2.2.2.1,x1.2.2.2.2.2.2]) (λS (g2:Unit) x1=>S) (λ_=>tg5 3 4 5 6 7) ((none),(none),(none),(none),(none),(none),(none)) () qw rfl rfl (λ_ s=>s) (λg3 x4 a5 v6=>(ES (K:=K) 8 9 qS qS λgp gS dJ eE=>(Y4 (λO (bH:V×V)=>[]) (λs bH=>[some ab,some ac,some aJ,some v6.1,some v6.2.1,some v6.2.2.1,some v6.2.2.2.1,some v6.2.2.2.2,some bH.1,some bH.2]) (λS (gm:Int×Int) bH=>(SC.add (SC.add S K Xf bH.1 gm.1) K Xf bH.2 gm.2)) (X2 (qt K) (ES (K:=K) 8 9 qS qS λiM iE gT hJ=>(XJ (gT,hJ) (iM,iE) rfl rfl)) (XJ (dJ,eE) (gp,gS) rfl rfl)) λfA bf=>(QN (qt K) (Xu qM) (Zs (XJ ((some v6.1),(some v6.2.1),(some v6.2.2.1),(some v6.2.2.2.1),(some v6.2.2.2.2),(some bf.1),(some bf.2)) () rfl rfl)))))) λfU x38=>(Xu qM))⟩⟩
def Fj:=Bl.1
theorem VS:FnScope ["_law_drawing","_law_table","_law_meetings","_law_found","_law_k","_law_ready","_law_longer","_law_colours","_law_colour"] ["_law_drawing","_law_table"] (Xg NY):={}
abbrev Tr (m:QDr->QLs->Rs QLs):Prop:=Fn P w K mg base 3 "_law_all" ["_law_drawing","_law_table"] (sp2 (rP2 (rV (rV Xf)) (rV (rP2 Xf Xf))) (rV (rV Xf)) (oL (oL (oF Xf))) m K)
def Rj:{m // Pq λP w K mg base=>Def K mg "_law_all" NY ["_law_drawing","_law_table"]->Kq P w K mg base QB->G3 P w K mg base V9->BH P w K mg base Fj->Tr P w K mg base m}:=⟨_, @λP w K mg base Z D bO bu cM=>go2 D VS 7 2 rfl rfl λhr hu ao=>⟨_,(Xb (psn VS 2 (pef bO hr (Xa (pv 0) Xc)))
  (Xb (psn VS 3 (Xs (Xa (Xs Xc) Xc X3)))
  (Xb (psf (Xx rfl Z.b_range (Xa (pef bu hr (Xa (pv 0) Xc)) Xc)) (XB (i:=4) VS.nd rfl (Or.inr rfl))
   (Xb (Vf 5 (Xg NY) ["_law_drawing","_law_table","_law_meetings","_law_found","_law_k","_law_ready","_law_longer","_law_colours","_law_colour"] ["_law_one"] [(4,"_law_k")] rfl VS.nd rfl rfl (Xo (K:=K) rfl (pv 2)) (X0 (by decide)) (λcl C s H ex E=>⟨XB (i:=0) (show List.Nodup (["_law_one","_law_k"]:List Str) by decide+kernel) rfl (Or.inl rfl),(Qs (Xl YL (XF (VR K rfl rfl) rfl Z.b_max PyProof.Rows.boot_max (Xa (XM (Y0 K rfl) (pv 0) (XO Xd) Yj) Xc)) (pv 1) (Xr _))),(pv 0)⟩))
   (Xb (psn VS 6 (Xs Xc))
   (Xb (psf (Xo (K:=K) rfl (pv 3)) (pgn VS 7)
    (Xb (psf (Xx rfl Z.b_range (Xa (X8 K Z.b_len (Xa (pv 1) Xc)) Xc)) (pgn VS 8)
     (Xb (XV (Q9 (pef cM hr (Xa (pv 5) (Xa (pv 1) (Xa (Xi Z4 (pv 7) (Xs (Xa (pv 8) Xc))) Xc)))))
      (Xb (Xy (YW PySem.F.plainAttrs_list PySem.F.slot_list_append PySem.F.type_list_append XC (pv 6) (Xa (Xi Z4 (pv 7) (Xs (Xa (pv 8) Xc))) Xc)))
      Xe)
      Xe)
     Xe))
    Xe))
   (Xb (psn VS 3 (pv 6))
   Xe)))))
  (Xb (Xq (pv 3))
  Xe)))),λab ac al aw=>(Yc K qS λa1 v2=>(Yl K (o:=(oL (oL (oF Xf)))) 0 (Ud (ZU (Zt (o:=(oF Xf))) λ_=>JH)) λa5 v6 C7=>(Qh K (λO (db:Option V×Option V×Option V×Option V×V×Option V×List XD)=>[db.2.2.2.2.2.2,[]]) (λs db=>[some ab,some ac,some v2,some db.2.2.2.2.1,db.1,db.2.1,db.2.2.1,db.2.2.2.1,db.2.2.2.2.2.1]) (λS (dM:QLs) db=>(SC.addO S K (oL (oL (oF Xf))) db.2.2.2.2.1 dM db.2.2.2.2.2.2)) (λ_=>tg1 4) ((none),(none),(none),(none),v6,(none),C7) (a5) qw rfl rfl (λ_ s=>(SC.i s s.r)) (λj3 eG j6 fS=>(Yc K (r:=(rV (rP5 Xf Xf Xf Xf Xf))) (Ev.sh (ZF (λ_=>tg1 0) qw (λj5 gr v24=>(XY (K:=K) (JX (UY (Yq (S2 qB) (qp K) (qp K))) qB))) (λj5 gr v24=>qM))) λiM v21=>(Yl K (o:=(oL (oL (oF Xf)))) 1 (Zt (o:=(oL (oF Xf)))) λkU v34 C35=>(Lp (K:=K) (o:=(oL (oL (oF Xf)))) 0 rfl (λ_ s=>s.l.l.l.r) (Qh K (λO (bR:Option V×Option V×V×List XD)=>[[],bR.2.2.2]) (λs bR=>[some ab,some ac,some v2,some eG.2.2.2.2.1,some fS,some v21,some bR.2.2.1,bR.1,bR.2.1]) (λS (fU:QLs) bR=>(SC.addO S K (oL (oL (oF Xf))) bR.2.2.1 fU bR.2.2.2)) (λ_=>tg1 7) ((eG.2.2.2.1),(eG.2.2.2.2.2.1),v34,C35) (kU) qw rfl rfl (λ_ s=>(SC.i s s.l.r)) (λg38 bJ iK kW=>(Qh K (λO (cR:Option V×V×List XD)=>[[],cR.2.2]) (λs cR=>[some ab,some ac,some v2,some eG.2.2.2.2.1,some fS,some v21,some cR.2.1,some kW,cR.1]) (λS (fX:QLs) cR=>(SC.addO S K (oL (oL (oF Xf))) cR.2.1 fX cR.2.2)) (λ_=>tg1 8) ((bJ.2.1),bJ.2.2.1,bJ.2.2.2) (g38) qw rfl rfl (λ_ s=>(SC.i s s.l.r)) (λg46 bS ki fV=>(Y4 (λO (iQ:V×List XD)=>[[],iQ.2]) (λs iQ=>[some ab,some ac,some v2,some eG.2.2.2.2.1,some fS,some v21,some iQ.1,some kW,some fV]) (λS (g61:QLs) iQ=>(SC.addO S K (oL (oL (oF Xf))) iQ.1 g61 iQ.2)) (X2 (qt K) (UU K qN λa69 C68=>(XJ (bS.2.1,C68) (a69) rfl rfl)) (XJ (bS.2.1,bS.2.2) (g46) rfl rfl)) λg71 gZ=>(XJ ((some fV),gZ.1,gZ.2) (g71) rfl rfl))) λia x73=>(XJ ((some kW),(x73.1),x73.2.1,x73.2.2) (ia) rfl rfl))) λg75 b6=>(IU (K:=K) (o:=(oL (oL (oF Xf)))) 3 0 Zb (Nat.le_of_ble_eq_true rfl) λku kw C79=>(XJ ((some fS),(some v21),(some b6.2.2.1),(b6.1),kw,(b6.2.1),C79) (ku) rfl rfl))))))) λg81 x82=>(Xu Zb))))⟩⟩
def DO:=Rj.1
theorem YY:FnScope ["_law_drawings","_law_most","_law_greatest_here","_law_size","_law_tries","_law_k"] ["_law_drawings","_law_most"] (Xg JS):={}
abbrev V3 (m:(List QDr)->Int->Rs Int):Prop:=Fn P w K mg base 3 "_law_greatest" ["_law_drawings","_law_most"] (sp2 (rV (rP2 (rV (rV Xf)) (rV (rP2 Xf Xf)))) Xf (oF Xf) m K)
def Ui:{m // Pq λP w K mg base=>Def K mg "_law_greatest" JS ["_law_drawings","_law_most"]->G3 P w K mg base V9->V3 P w K mg base m}:=⟨_, @λP w K mg base Z D bu=>go2 D YY 4 0 rfl rfl λhr hu ao=>⟨_,(Xb (psn YY 2 Xd)
  (Xb (psf (Ke rfl Z.b_range (Xa Xd (Xa Xd Xc))) (pgn YY 3)
   (Xb (psn YY 4 Xd)
   (Xb (psf (Xx rfl Z.b_range (Xa (XF (Kh K rfl rfl) rfl Z.b_max PyProof.Rows.boot_max (Xa (Ya (sc:=(Xg JS)) (N0:=["_law_drawings","_law_most","_law_greatest_here","_law_size","_law_tries","_law_k"]) (tns:=["_law_one"]) (caps:=[]) rfl (Xo (K:=K) rfl (pv 0)) (X0 (by decide)) (λcl C s H ex E=>⟨XB (i:=0) (show List.Nodup (["_law_one"]:List Str) by decide+kernel) rfl (Or.inl rfl),YF,(pef bu hr (Xa (pv 0) Xc))⟩)) Xc)) Xc)) (pgn YY 5)
    (Xb (psn YY 4 (XF (K8 rfl) rfl Z.b_min PyProof.Rows.boot_min (Xa (Xi Yb (pv 4) (pv 3)) (Xa (Xi VM Xd Xd) Xc))))
    Xe))
   (Xb (XV (Xl Wo (pv 4) (pv 1) (Xr _))
    (Xb (psn YY 2 (pv 3))
    Xe)
    Xe)
   Xe))))
  (Xb (Xq (pv 2))
  Xe))),λab ac al aw=>(Yc K qS λa1 v2=>(Qh K (λO (x5:Option V×Option V×Option V×V)=>[]) (λs x5=>[some ab,some ac,some x5.2.2.2,x5.1,x5.2.1,x5.2.2.1]) (λS (g6:Int) x5=>(SC.add S K Xf x5.2.2.2 g6)) (λ_=>tg1 3) ((none),(none),(none),v2) (a1) qw rfl rfl (λ_ s=>(SC.i s s.r)) (λg7 x8 a9 fR=>(Yc K qS λgp gU=>(Qh K (λO (dn:Option V×V)=>[]) (λs dn=>[some ab,some ac,some x8.2.2.2,some fR,some dn.2,dn.1]) (λS (g21:Int) dn=>(SC.add S K Xf dn.2 g21)) (λ_=>tg1 5) ((x8.2.2.1),gU) (gp) (K6 (GS (Ev.toB (YG (λ_=>tg1 0) qw (λC13 cw eD=>qN))))) rfl rfl (λ_ s=>(SC.i s s.r)) (λgq bL iJ v25=>(Yc K qS λa26 kd=>(XJ ((some v25),kd) (a26) rfl rfl))) λg34 x35=>(Y4 (λO (bJ:V)=>[]) (λs bJ=>[some ab,some ac,some bJ,some fR,some x35.2,x35.1]) (λS (iN:Int) bJ=>(SC.add S K Xf bJ iN)) (X2 (qt K) (Yc K qS λa41 v42=>(XJ (v42) (a41) rfl rfl)) (XJ (x8.2.2.2) (g7) rfl rfl)) λkj ff=>(XJ ((some fR),(some x35.2),(x35.1),ff) (kj) rfl rfl))))) λg46 bS=>(Xu qM)))⟩⟩
def QA:=Ui.1
theorem Hj:FnScope ["_law_drawing","_law_size","_law_found","_law_one","_law_table"] ["_law_drawing","_law_size"] (Xg Rx):={}
abbrev Sf (m:QDr->Int->Rs (List Int)):Prop:=Fn P w K mg base 6 "_law_due" ["_law_drawing","_law_size"] (sp2 (rP2 (rV (rV Xf)) (rV (rP2 Xf Xf))) Xf (oL (oF Xf)) m K)
def R0:{m // Pq λP w K mg base=>Def K mg "_law_due" Rx ["_law_drawing","_law_size"]->Dc P w K mg base Zz->Tr P w K mg base DO->Sf P w K mg base m}:=⟨_, @λP w K mg base Z D br fi=>go2 D Hj 3 1 rfl rfl λhr hu ao=>⟨_,(Xb (psn Hj 2 (Xs Xc))
  (Xb (psf (Ke rfl Z.b_range (Xa Xd (Xa (Xi XA (pv 1) Xd) Xc))) (pgn Hj 3)
   (Xb (psf (Xo (K:=K) rfl (pef br hr (Xa (pv 3) Xc))) (pgn Hj 4)
    (Xb (Xy (YW PySem.F.plainAttrs_list PySem.F.slot_list_append PySem.F.type_list_append XC (pv 2) (Xa (X8 K Z.b_len (Xa (pef fi hr (Xa (pv 0) (Xa (pv 4) Xc))) Xc)) Xc)))
    Xe))
   Xe))
  (Xb (Xq (pv 2))
  Xe))),λab ac al aw=>(Yl K (o:=(oL (oF Xf))) 0 (Zt (o:=(oF Xf))) λa1 v2 C3=>(Qh K (λO (x8:Option V×Option V×V×List XD)=>[x8.2.2.2]) (λs x8=>[some ab,some ac,some x8.2.2.1,x8.1,x8.2.1]) (λS (g9:(List Int)) x8=>(SC.addO S K (oL (oF Xf)) x8.2.2.1 g9 x8.2.2.2)) (λ_=>tg1 3) ((none),(none),v2,C3) (a1) qw rfl rfl (λ_ s=>(SC.i s s.r)) (λe7 c6 gS dJ=>(Qh K (λO (aA:Option V×V×List XD)=>[aA.2.2]) (λs aA=>[some ab,some ac,some aA.2.1,some dJ,aA.1]) (λS (fT:(List Int)) aA=>(SC.addO S K (oL (oF Xf)) aA.2.1 fT aA.2.2)) (λ_=>tg1 4) ((c6.2.1),c6.2.2.1,c6.2.2.2) (e7) qw rfl rfl (λ_ s=>(SC.i s s.l.r)) (λfQ bx iM v21=>(UU K qM λgR C28=>(XJ ((some v21),bx.2.1,C28) (gR) rfl rfl))) λiD eF=>(XJ ((some dJ),(eF.1),eF.2.1,eF.2.2) (iD) rfl rfl))) λiI x34=>(Xu Zb)))⟩⟩
def O0:=R0.1
end
theorem JZ:FnScope ["_law_script","_law_drawing","_law_some","_law_moves","_law_other","_law_size","_law_handed","_law_due_here","_law_found"] ["_law_script"] (Xg GR):={}
def RS:{m:(List Int)->Rs Bool // ∀{P:Program}{w:World}{K:W.Frag}{mg:Str->Option Value}{base:Heap}{f:Addr}{fd:FuncData} (D:Fun K "law" "law" GR f fd) (bI:Eg P w K mg base Fe) (aT:Ia P w K mg base Fz) (cb:Nh P w K mg base Ez) (da:Sf P w K mg base O0) (bP:MU P w K mg base EJ) (bY:B1 P w K mg base G0) (ba:V3 P w K mg base QA) (aP:Vu P w K mg base QW) (Z:Blt mg),FnOk P w K mg base CX0 9 f fd ["_law_script"] (sp1 (rL Xf) (oF XI) m K)}:=⟨_, @λP w K mg base f fd D bI aT cb da bP bY ba aP Z=>goL D JZ 8 1 rfl rfl λhr hu ao=>⟨_,(Xb (psn JZ 1 (pef bI hr (Xa (pv 0) (Xa Xd Xc))))
  (Xb (psn JZ 2 (pef aT hr (Xa (pv 0) (Xa Xd (Xa (Xs (Xa Xd (Xa Xd Xc))) Xc X3)))))
  (Xb (XV (Xl YL (Xm K (pv 2) Xd) Xd (Xr _))
   (Xb (Jb (pef bY hr (Xa (pv 0) (Xa Xd (Xa (pv 1) (Xa (Xs (Xa Yz (Xa Yz (Xa Yz (Xa Yz Xc))))) Xc X3))))) (ZM rfl (Xt (pgn JZ 1) (Xt (pgn JZ 3) YJ))))
   Xe)
   Xe)
  (Xb (psn JZ 4 (pef bI hr (Xa (pv 0) (Xa Xd Xc))))
  (Xb (psn JZ 5 (XF (K8 rfl) rfl Z.b_min PyProof.Rows.boot_min (Xa (pef ba hr (Xa (Xs (Xa (pv 1) (Xa (pv 4) Xc))) (Xa Xd Xc) X3)) (Xa (Xi XA Xd (Yg QF rfl Z.b_int PyProof.Rows.boot_int (Xa (Y2 YL (Xm K (pv 2) Xd) Xd (Xr _)) Xc))) Xc))))
  (Xb (psn JZ 6 (pef cb hr (Xa (pv 1) Xc)))
  (Xb (psn JZ 7 (pef da hr (Xa (pv 1) (Xa (pv 5) Xc))))
  (Xb (psn JZ 8 (pef bP hr (Xa (pv 6) (Xa (pv 5) Xc))))
  (Xb (XV (PW.pt (L8 (DV (Q9 (pef aP hr (Xa (pv 8) Xc)))) (L8 (Xl (FR K rfl (Pw eq_int) (Ci (by decide) hu)) (pv 8) (pv 7) (Xr _)) (Et (Xl (FR K rfl (R5 (Pw (Pw eq_int)) (Pw (R5 eq_int eq_int))) (Ci (by decide) hu)) (pv 6) (pv 1) (Xr _))))))
   (Xb (Xq UN)
   Xe)
   Xe)
  (Xb (Xy (YW PySem.F.plainAttrs_list PySem.F.slot_list_append PySem.F.type_list_append XC (pv 8) (Xa Xd Xc)))
  (Xb (XV (Xl (FR K rfl (Pw eq_int) (Ci (by decide) hu)) (pef bP hr (Xa (pef cb hr (Xa (pv 4) Xc)) (Xa (pv 5) Xc))) (pef da hr (Xa (pv 4) (Xa (pv 5) Xc))) (Xr _))
   (Xb (Xq UN)
   Xe)
   Xe)
  (Xb (Xq (Y2 (Rf K rfl (Pw eq_int) (Ci (by decide) hu)) (pef bP hr (Xa (pv 6) (Xa (pv 5) Xc))) (pv 7) (Xr _)))
  Xe)))))))))))),λab al=>(Yc K qS λa1 v2=>(Yc K qS λa6 v7=>(Y4 (λO (hV:V×Option V)=>[[]]) (λs hV=>[some ab,some hV.1,some v7,hV.2,none,none,none,none,none]) (λS (kh:QDr) hV=>(SC.add S K (rP2 (rV (rV Xf)) (rV (rP2 Xf Xf))) hV.1 kh)) (X2 (qt K) (LC (K:=K) 1 3 (Ev.sh (LN qS qS qS qS)) λa38 v39 v40=>(XJ (v39,(some v40)) (a38.1) rfl rfl)) (XJ (v2,(none)) (a1) rfl rfl)) λg42 x41=>(Yc K qS λa43 v44=>(Yc K (r:=Xf) (EvB.sh (BJ (Ev.toB (U3 (Ev.toB (Ud (ZU qM λ_=>(ZU qM λ_=>JH)))) qB)) qB)) λki fV=>(Yc K qS λa67 v68=>(Yc K qS λa71 v72=>(Yl K 0 qN λa76 v77 C78=>(J3 (qt K) (Xu qM) (UU K qM λa92 C91=>(J3 (qt K) (Xu qM) (Xu qM))))))))))))⟩⟩
def LR:=RS.1
end My
namespace L2
open PySem
section
variable {M L B ρ:Type}
def Rs.okb (a:M)(f:M->Rs L):(Rs.ok a).bind f=f a:=(Eq.refl (f a)).symm.symm
def Bn {f:M->Rs L}{h:M->L}:∀{as:List M},(∀a∈as,f a= .ok (h a))->EG as f= .ok (as.map h)
 | [],_=>rfl
 |a::as,hf=>by
  show(f a).bind _=_
  rw[hf a (by simp),Rs.ok_bind,Bn λb hb=>hf b (by simp[hb])];rfl
def Q0 {f:M->Rs L}{h:M->L}{as:List M}(hl:as.length<=sizeLine)(hf:∀a∈as,f a= .ok (h a)):Nw as f= .ok (as.map h):=by
 unfold Nw;rw[Xj hl];exact Bn hf
def M2 {c:M->Rs Bool}{f:M->Rs L}{p:M->Bool}{h:M->L}:∀{as:List M},(∀a∈as,c a= .ok (p a))->(∀a∈as,p a=true->f a= .ok (h a))->Gc as c f= .ok ((as.filter p).map h)
 | [],_,_=>rfl
 |a::as,hc,hf=>by
  show(c a).bind _=_
  rw[hc a (by simp),Rs.ok_bind]
  have ih:=M2 (as:=as) (λb hb=>hc b (by simp[hb])) λb hb=>hf b (by simp[hb])
  cases hp:p a with
  |false=>rw[if_neg (by simp),ih,List.filter_cons,hp];rfl
  |true=>rw[if_pos rfl,hf a (by simp) hp,Rs.ok_bind,ih,List.filter_cons,hp];rfl
def FV {c:M->Rs Bool}{f:M->Rs L}{p:M->Bool}{h:M->L}{as:List M}(hl:as.length<=sizeLine)(hc:∀a∈as,c a= .ok (p a))(hf:∀a∈as,p a=true->f a= .ok (h a)):T3 as c f= .ok ((as.filter p).map h):=by
 unfold T3;rw[Xj hl];exact M2 hc hf
def Dt {f:B->M->Rs B}(P:Nat->B->Prop):∀(as:List M) (k:Nat) (g:B),P k g->(∀i a g,as[i]?=some a->P (k+i) g->∃g',f g a= .ok g'/\P (k+i+1) g')->∃g',forN as g f= .ok g'/\P (k+as.length) g'
 | [],k,g,h0,_=>⟨g,rfl,h0⟩
 |a::as,k,g,h0,hs=>by
  obtain⟨g1,e1,p1⟩:=hs 0 a g rfl h0
  obtain⟨g2,e2,p2⟩:=Dt P as (k+1) g1 p1 λi b g hb hp=>by
   obtain⟨g',e',p'⟩:=hs (i+1) b g (by simpa using hb) (by rw[show k+(i+1)=k+1+i by omega];exact hp)
   exact⟨g',e',by rw[show k+1+i+1=k+(i+1)+1 by omega];exact p'⟩
  refine⟨g2,?_,by rw[List.length_cons,show k+(as.length+1)=k+1+as.length by omega];exact p2⟩
  show(f g a).bind _=_
  rw[e1,Rs.ok_bind];exact e2
def G8 {f:B->M->Rs B}(P:Nat->B->Prop){as:List M}{g:B}(h0:P 0 g)(hs:∀i a g,as[i]?=some a->P i g->∃g',f g a= .ok g'/\P (i+1) g'):∃g',forN as g f= .ok g'/\P as.length g':=by
 have:=Dt P as 0 g h0 (by simpa using hs)
 simpa using this
def VH {f:List L->M->Rs (List L)}{h:M->L}:∀{as:List M}{g:List L},g.length+as.length<=sizeLine->(∀g:List L,g.length<sizeLine->∀a∈as,f g a= .ok (g++[h a]))->forN as g f= .ok (g++as.map h)
 | [],g,_,_=>by simp[forN]
 |a::as,g,hl,hf=>by
  show(f g a).bind _=_
  rw[List.length_cons] at hl
  rw[hf g (by omega) a (by simp),Rs.ok_bind,VH (by simp;omega) λg hg b hb=>hf g hg b (by simp[hb])]
  simp
def Hi {f:B->M->Rs (Ctl ρ B)}:∀{as:List M}{g:B},(∀a∈as,f g a= .ok (.nx g))->C0 as g f= .ok (.nx g)
 | [],_,_=>rfl
 |a::as,g,hf=>by
  show(f g a).bind _=_
  rw[hf a (by simp),Rs.ok_bind]
  exact Hi λb hb=>hf b (by simp[hb])
def Yy {a b:Int}(h:0<b):Ag a b= .ok (a % b):=Xj h
def ZB {a b:Int}(h1: -(2^64)<a)(h2:a<2^64):Nv a b= .ok (a*b):=Xj (.inl ⟨h1,h2⟩)
def QU {a b:Int}(h1: -(2^64)<b)(h2:b<2^64):Nv a b= .ok (a*b):=Xj (.inr ⟨h1,h2⟩)
def MF {a b:Int}(h:0<b)(h2:b<2^250):qg a b= .ok (a/b):=Xj ⟨h,by
 have h3:b.natAbs<2^250:=by omega
 rcases Nat.eq_zero_or_pos b.natAbs with h0 |h0
 ·omega
 ·have:=(Nat.log2_lt (by omega)).mpr h3
  omega⟩
def Gx {a b:Int}(h0:0<=b)(h1:b<=1000000)(h2: -(2^64)<a)(h3:a<2^64):Az a b= .ok (a^b.toNat):=Xj ⟨h0,h1,by omega⟩
def YH {as:List M}{i:Nat}{a:M}(h:as[i]?=some a):atR as (i:Int)= .ok a:=by
 have ah:=(List.getElem?_eq_some_iff.mp h).1
 unfold atR atI ixN
 rw[if_pos (by omega),if_pos (by omega)]
 simp[h]
def Jq {as:List M}{i:Int}{a:M}(h0:0<=i)(h:as[i.toNat]?=some a):atR as i= .ok a:=by
 have:i=(i.toNat:Int):=by omega
 rw[this];exact YH h
def Y3 {n:Nat}(h:n<2^62):Ny 0 (n:Int)= .ok ((List.range n).map λ(i:Nat)=>(i:Int)):=by
 unfold Ny
 rw[Xj (by omega)]
 unfold VL
 congr 1
 rw[Int.sub_zero,Int.toNat_natCast]
 exact List.map_congr_left λi _=>by omega
def X9 {n i:Nat}{a:Int}(h:((List.range n).map λ(i:Nat)=>(i:Int))[i]?=some a):a=(i:Int)/\i<n:=by
 have ah:=(List.getElem?_eq_some_iff.mp h).1
 simp only[List.length_map,List.length_range] at ah
 rw[List.getElem?_map,List.getElem?_range ah] at h
 exact⟨(Option.some.inj h).symm,ah⟩
def KN {n:Nat}{a:Int}(h:a∈(List.range n).map λ(i:Nat)=>(i:Int)):∃i:Nat,i<n/\a=(i:Int):=by
 obtain⟨i,hi,rfl⟩:=List.mem_map.mp h
 exact⟨i,List.mem_range.mp hi,rfl⟩
def X1 {n:Nat}:((List.range n).map λ(i:Nat)=>(i:Int)).length=n:=by simp
def L6 {a:Bool}{b:Rs Bool}{c:Bool}(h:a=true->b= .ok c):Pj (.ok a) b= .ok (a&&c):=by
 cases a with
 |false=>rfl
 |true=>
  show(if true=true then b else Rs.ok false)=_
  rw[if_pos rfl,h rfl];rfl
def sz {n:Nat}(h:n<=100000):n<=sizeLine:=Nat.le_trans h (by decide)
def FG {n:Nat}(h:n<=100000):n<sizeLine:=Nat.lt_of_le_of_lt h (by decide)
def Ok (m:Rs L)(R:L->Prop):Prop:=∃ r,m= .ok r/\R r
def Ok.bind {m:Rs M}{f:M->Rs L}{R:M->Prop}{T:L->Prop}(h:Ok m R)(hf:∀a,R a->Ok (f a) T):Ok (m.bind f) T:=by
 obtain⟨a,e,ha⟩:=h
 rw[e];exact hf a ha
def Ok.imp {m:Rs M}{R T:M->Prop}(h:Ok m R)(hf:∀a,R a->T a):Ok m T:=by
 obtain⟨a,e,ha⟩:=h
 exact⟨a,e,hf a ha⟩
def Ok.noE {m:Rs M}{R:M->Prop}(h:Ok m R):Ok (noE m) R:=by
 obtain⟨a,e,ha⟩:=h
 rw[e];exact⟨a,rfl,ha⟩
def Ok.ite {b:Bool}{m n:Rs M}{R:M->Prop}(h1:b=true->Ok m R)(h2:b=false->Ok n R):Ok (if b=true then m else n) R:=by
 cases b with
 |true=>rw[if_pos rfl];exact h1 rfl
 |false=>rw[if_neg Bool.false_ne_true];exact h2 rfl
def Ok.forN {f:B->M->Rs B}(P:Nat->B->Prop){as:List M}{g:B}(h0:P 0 g)(hs:∀i a g,as[i]?=some a->P i g->Ok (f g a) (P (i+1))):Ok (forN as g f) (P as.length):=G8 P h0 hs
def UZ {f:B->Rs ρ}(g:B):Vm f (.nx g)=f g:=(Eq.refl (f g)).symm.symm
def Ga {f:B->Rs ρ}(r:ρ):Vm f (.ret r)= .ok r:=(Eq.refl (Rs.ok r)).symm.symm
def Xn (a:M):noE (Rs.ok a)= .ok a:=(Eq.refl (Rs.ok a)).symm.symm
def Ok.eq {m:Rs M}{a:M}(h:Ok m (λb=>b=a)):m= .ok a:=by
 obtain⟨b,e,rfl⟩:=h
 exact e
end
end L2
namespace My
open PySem L2
theorem Lb (ns:List Int){p:Int}(hp:0<=p):∃c,En ns p= .ok c:=by
 unfold En IW;dsimp only
 simp only[Rs.okb]
 by_cases h:p<(ns.length:Int)
 ·rw[decide_eq_true h,if_pos rfl]
  have hl:p.toNat<ns.length:=by omega
  exact⟨ns[p.toNat],Jq hp (by simp[hl])⟩
 ·rw[decide_eq_false h,if_neg Bool.false_ne_true]
  obtain⟨g,e,_⟩:=G8 (as:=Gb ns none (some 63)) (g:=(5:Int)) (f:=λdM hW=>(Rs.bind (Rs.bind (Rs.bind (Rs.bind (Nv dM 48271) λx25=>(Rs.bind (Ag hW 1000003) λfe=>(Rs.ok (x25+fe)))) λcG=>Rs.ok (cG+1)) λj7=>Ag j7 2147483647) λgt=>(Rs.ok (gt)))) (λ_ _=>True) True.intro λi a g _ _=>by
   rw[QU (by decide) (by decide),Rs.ok_bind,Yy (by decide),Rs.ok_bind,Rs.ok_bind,Rs.ok_bind,Yy (by decide),Rs.ok_bind]
   exact⟨_,rfl,True.intro⟩
  rw[e,Rs.ok_bind,ZB (by decide) (by decide),Rs.ok_bind,Rs.ok_bind,Yy (by decide)]
  exact⟨_,rfl⟩
theorem PY (c:Int){k:Int}(h0:0<=k)(h1:k<=100000):∃y,OP c k= .ok y/\0<=y:=by
 unfold OP Th;dsimp only
 simp only[Rs.okb]
 have hm:0<=c % 2147483629/\c % 2147483629<2147483629:=⟨Int.emod_nonneg _ (by decide),Int.emod_lt_of_pos _ (by decide)⟩
 rw[Yy (by decide),Rs.ok_bind,ZB (by decide) (by decide),Rs.ok_bind,Rs.ok_bind,Rs.ok_bind,Gx (by decide) (by decide) (by omega) (by omega),Rs.ok_bind,Yy (by decide),Rs.ok_bind]
 rw[QU (by decide) (by decide),Rs.ok_bind,ZB (by decide) (by decide),Rs.ok_bind,QU (by omega) (by omega),Rs.ok_bind,Rs.ok_bind,Rs.ok_bind,Yy (by decide),Rs.ok_bind,MF (by decide) (by decide)]
 exact⟨_,rfl,Int.ediv_nonneg (Int.emod_nonneg _ (by decide)) (by decide)⟩
theorem Hh (ns:List Int){p:Int}(hp:0<=p)(aQ:List Int)(hl:aQ.length<=100000)(hs:∀x∈aQ,0<x/\x<2^250):
  Ok (Fz ns p aQ) λr=>r.length=aQ.length/\∀(i:Nat) x s,r[i]?=some x->aQ[i]?=some s->0<=x/\x<s:=by
 obtain⟨c,ec⟩:=Lb ns hp
 unfold Fz RX;dsimp only
 simp only[Rs.okb]
 rw[ec,show noE (Rs.ok c)= .ok c from rfl,Rs.ok_bind,Y3 (by omega),Rs.ok_bind,Gx (by decide) (by decide) (by decide) (by decide)]
 simp only[Rs.okb]
 have bw:∀(i:Nat) (a:Int) (g:List Int×Int),((List.range aQ.length).map λ(i:Nat)=>(i:Int))[i]?=some a->(g.1.length=i/\∀(j:Nat) x s,g.1[j]?=some x->aQ[j]?=some s->0<=x/\x<s)->∀y z:Int,∀s,aQ[i]?=some s->0<=y/\y<s->((g.1++[y],z).1.length=i+1/\∀(j:Nat) x s,(g.1++[y],z).1[j]?=some x->aQ[j]?=some s->0<=x/\x<s):=by
  intro i a g ha ⟨hg,hq⟩ y z s hs1 hy
  refine⟨by simp[hg],λj x s' hx dO=>?_⟩
  have hx:(g.1++[y])[j]?=some x:=hx
  rcases Nat.lt_trichotomy j i with hj |hj |hj
  ·rw[List.getElem?_append_left (by omega)] at hx;exact hq j x s' hx dO
  ·subst hj
   rw[List.getElem?_append_right (by omega),hg,Nat.sub_self] at hx
   have:y=x:=by simpa using hx
   rw[hs1] at dO
   cases dO
   rw[←this];exact hy
  ·rw[List.getElem?_eq_none (by simp;omega)] at hx;cases hx
 refine Ok.bind (Ok.forN (λi (g:List Int×Int)=>g.1.length=i/\∀(j:Nat) x s,g.1[j]?=some x->aQ[j]?=some s->0<=x/\x<s) ⟨rfl,λj x s h _=>by simp at h⟩ λi a g ha hg=>?_) (T:=λ(r:List Int)=>r.length=aQ.length/\∀(i:Nat) x s,r[i]?=some x->aQ[i]?=some s->0<=x/\x<s) λg ⟨hg,hq⟩=>?_
 ·obtain⟨rfl,hi⟩:=X9 ha
  have hsz:aQ[i]?=some aQ[i]:=by simp[hi]
  have cV:=hs _ (List.getElem_mem hi)
  have hgl:g.1.length<sizeLine:=FG (by have:=hg.1;omega)
  by_cases hc:c<10^(18:Int).toNat
  ·rw[decide_eq_true hc,if_pos rfl]
   obtain⟨y,ey,hy⟩:=PY c (k:=(i:Int)) (by omega) (by omega)
   rw[ey,show noE (Rs.ok y)= .ok y from rfl,Rs.ok_bind,YH hsz,Rs.ok_bind,Yy cV.1,Rs.ok_bind,Xj hgl]
   exact⟨_,rfl,bw i _ g ha hg _ _ _ hsz ⟨Int.emod_nonneg _ (by omega),Int.emod_lt_of_pos _ cV.1⟩⟩
  ·rw[decide_eq_false hc,if_neg Bool.false_ne_true]
   by_cases hq:0<g.2
   ·rw[decide_eq_true hq,if_pos rfl,YH hsz,Rs.ok_bind,Yy cV.1,Rs.ok_bind,Xj hgl]
    simp only[Rs.okb]
    rw[MF cV.1 cV.2]
    exact⟨_,rfl,bw i _ g ha hg _ _ _ hsz ⟨Int.emod_nonneg _ (by omega),Int.emod_lt_of_pos _ cV.1⟩⟩
   ·rw[decide_eq_false hq,if_neg Bool.false_ne_true,Yy (by decide),Rs.ok_bind]
    obtain⟨c2,ec2⟩:=Lb ns (p:=(p+1+(i:Int)) % 63) (Int.emod_nonneg _ (by decide))
    obtain⟨y,ey,hy⟩:=PY c2 (k:=(i:Int)) (by omega) (by omega)
    rw[ec2,show noE (Rs.ok c2)= .ok c2 from rfl,Rs.ok_bind,ey,show noE (Rs.ok y)= .ok y from rfl,Rs.ok_bind,YH hsz,Rs.ok_bind,Yy cV.1,Rs.ok_bind,Xj hgl]
    exact⟨_,rfl,bw i _ g ha hg _ _ _ hsz ⟨Int.emod_nonneg _ (by omega),Int.emod_lt_of_pos _ cV.1⟩⟩
 ·rw[X1] at hg
  exact⟨g.1,rfl,hg,hq⟩
end My
namespace My
def DS (n:Nat)(f:Nat->Nat->Nat)(a:Nat):List Int:=(List.range n).map λb=>(f a b:Int)
def JV (n:Nat)(f:Nat->Nat->Nat):QLs:=(List.range n).map (DS n f)
theorem Cz (n:Nat)(f:Nat->Nat->Nat)(a:Nat):(DS n f a).length=n:=by simp[DS]
theorem Qb (n:Nat)(f:Nat->Nat->Nat):(JV n f).length=n:=by simp[JV]
theorem Dp {n:Nat}{f:Nat->Nat->Nat}{a b:Nat}(h:b<n):(DS n f a)[b]?=some (f a b:Int):=by
 unfold DS;rw[List.getElem?_map,List.getElem?_range h];rfl
theorem Dz {n:Nat}{f:Nat->Nat->Nat}{a:Nat}(h:a<n):(JV n f)[a]?=some (DS n f a):=by
 unfold JV;rw[List.getElem?_map,List.getElem?_range h];rfl
structure Col (n:Nat)(f:Nat->Nat->Nat):Prop where
 lt:∀a b,a<n->b<n->f a b<n
 r2:∀x y b,x<n->y<n->b<n->f x b=f y b->x=y
structure GoodF (n:Nat)(f:Nat->Nat->Nat):Prop extends Col n f where
 r1:∀a,a<n->f a a=a
 r3:∀a b c,a<n->b<n->c<n->f (f a b) c=f (f a c) (f b c)
theorem GoodF.congr {n:Nat}{f g:Nat->Nat->Nat}(h:GoodF n f)(e:∀a b,a<n->b<n->g a b=f a b):GoodF n g where
 lt a b ha hb:=by rw[e a b ha hb];exact h.lt a b ha hb
 r2 x y b hx hy hb q:=by rw[e x b hx hb,e y b hy hb] at q;exact h.r2 x y b hx hy hb q
 r1 a ha:=by rw[e a a ha ha];exact h.r1 a ha
 r3 a b c ha hb hc:=by
  rw[e a b ha hb,e a c ha hc,e b c hb hc,e _ c (h.lt a b ha hb) hc,e _ _ (h.lt a c ha hc) (h.lt b c hb hc)]
  exact h.r3 a b c ha hb hc
end My
namespace My
open PySem L2
theorem Mq {n:Nat}{f:Nat->Nat->Nat}{a:Nat}(h:a<n):atR (JV n f) (a:Int)= .ok (DS n f a):=YH (Dz h)
theorem MQ {n:Nat}{f:Nat->Nat->Nat}{a b:Nat}(h:b<n):atR (DS n f a) (b:Int)= .ok (f a b:Int):=YH (Dp h)
theorem ZK {M:Type}{as:List M}{i:Nat}{a:M}(h:i<as.length):US as (i:Int) a= .ok (as.set i a):=by
 unfold US ixN
 rw[if_pos (by omega),if_pos (by omega)]
 simp
theorem W8 {as:List Int}{i:Nat}(h:i<as.length)(hl:as.length<=100000):Ov as (i:Int)= .ok (as[i],as.eraseIdx i):=by
 unfold Ov
 rw[Xj (by omega)]
 have e:seqIndex? (i:Int) as.length=some i:=by
  unfold seqIndex?
  have h0:¬((i:Int)<0):=by omega
  simp[h0,h]
 rw[e]
 simp[h]
end My
namespace My
theorem Jy (names:List Int):(names.flatMap λx=>[x,-x]).length=2*names.length:=by
 induction names with
 |nil=>rfl
 |cons x r ih=>rw[List.flatMap_cons,List.length_append,ih];simp;omega
theorem Uc {M:Type}:∀{l:List M}{k:Nat}{y:M},l[k]?=some y->(y::l.eraseIdx k).Perm l
 | [],_,_,e=>by simp at e
 |a::r,0,y,e=>by
  have e':a=y:=by simpa using e
  subst e';exact List.Perm.refl _
 |a::r,k+1,y,e=>by
  have e':r[k]?=some y:=by simpa using e
  show(y::a::r.eraseIdx k).Perm (a::r)
  exact(List.Perm.swap a y _).trans (List.Perm.cons a (Uc e'))
theorem DA {M:Type}{l:List M}{k:Nat}{y:M}(e:l[k]?=some y):(l.eraseIdx k).length+1=l.length:=by
 have:=(Uc e).length_eq
 simpa using this
theorem Ha {M:Type}:∀{ws:List (List M)}{j:Nat}{w:List M}{y:M},ws[j]?=some w->((ws.set j (w++[y])).flatten).Perm (y::ws.flatten)
 | [],_,_,_,e=>by simp at e
 |a::r,0,w,y,e=>by
  have e':a=w:=by simpa using e
  subst e'
  show((a++[y])++r.flatten).Perm (y::(a++r.flatten))
  rw[List.append_assoc]
  exact List.perm_middle
 |a::r,j+1,w,y,e=>by
  have e':r[j]?=some w:=by simpa using e
  show(a++(r.set j (w++[y])).flatten).Perm (y::(a++r.flatten))
  exact(List.Perm.append_left a (Ha e')).trans List.perm_middle
theorem L4 {M:Type}{ws:List (List M)}{j k:Nat}{w l:List M}{y:M}(e:ws[j]?=some w)(e3:l[k]?=some y):((ws.set j (w++[y])).flatten++l.eraseIdx k).Perm (ws.flatten++l):=by
 refine((Ha (y:=y) e).append_right _).trans ?_
 rw[List.cons_append]
 refine List.perm_middle.symm.trans ?_
 exact List.Perm.append_left _ (Uc e3)
theorem mem_set {M:Type}:∀{l:List M}{j:Nat}{v x:M},x∈l.set j v->x∈l∨x=v
 | [],_,_,_,h=>by simp at h
 |a::r,0,v,x,h=>by
  rw[List.set_cons_zero] at h
  rcases List.mem_cons.mp h with h |h
  ·exact .inr h
  ·exact .inl (List.mem_cons_of_mem _ h)
 |a::r,j+1,v,x,h=>by
  rw[List.set_cons_succ] at h
  rcases List.mem_cons.mp h with h |h
  ·exact .inl (by rw[h];exact List.mem_cons_self)
  ·rcases mem_set h with h |h
   ·exact .inl (List.mem_cons_of_mem _ h)
   ·exact .inr h
theorem DM:∀{l:List Bool}{j:Nat},l[j]?=some false->(l.set j true).count false+1=l.count false
 | [],_,e=>by simp at e
 |a::r,0,e=>by
  have e':a=false:=by simpa using e
  subst e';simp
 |a::r,j+1,e=>by
  have e':r[j]?=some false:=by simpa using e
  have ih:=DM e'
  rw[List.set_cons_succ,List.count_cons,List.count_cons]
  omega
end My
namespace My
def Bs (r:Int×Int)(at':Int):List Int:=if at'=r.1 then[r.2] else if at'=r.1+1 then[-r.2] else[]
def Gk (r:Int×Int)(at':Int):Int:=if at'=r.1 then r.1+1 else if at'=r.1+1 then r.1 else at'
def Oh:QPs->Int->Int
 | [],a=>a
 |r::rs,a=>Oh rs (Gk r a)
def BA:QPs->Int->List Int
 | [],_=>[]
 |r::rs,a=>Bs r a++BA rs (Gk r a)
theorem Ln (rs:QPs)(r:Int×Int):∀a,Oh (rs++[r]) a=Gk r (Oh rs a):=by
 induction rs with
 |nil=>intro a;rfl
 |cons q rs ih=>intro a;exact ih _
theorem Ll (rs:QPs)(r:Int×Int):∀a,BA (rs++[r]) a=BA rs a++Bs r (Oh rs a):=by
 induction rs with
 |nil=>intro a;simp[BA,Oh]
 |cons q rs ih=>intro a;simp[BA,Oh,ih]
theorem BG {S:Int}{r:Int×Int}{a:Int}(h0:0<=r.1)(h1:r.1+1<S)(a0:0<=a)(a1:a<S):0<=Gk r a/\Gk r a<S:=by
 unfold Gk
 split
 ·omega
 ·split<;> omega
def HK (S:Nat):List Int:=(List.range S).map λ(k:Nat)=>(k:Int)
theorem JJ {S:Nat}{x:Int}:x∈HK S↔0<=x/\x<(S:Int):=by
 unfold HK
 rw[List.mem_map]
 constructor
 ·rintro⟨k,hk,rfl⟩
  have:=List.mem_range.mp hk
  omega
 ·rintro⟨h0,h1⟩
  exact⟨x.toNat,List.mem_range.mpr (by omega),by omega⟩
theorem QS {M L:Type}{f:M->L}:∀{l:List M},(∀a b,a∈l->b∈l->f a=f b->a=b)->l.Nodup->(l.map f).Nodup
 | [],_,_=>List.nodup_nil
 |a::r,h,nd=>by
  rw[List.map_cons,List.nodup_cons]
  refine⟨λm=>?_,QS (λx y hx hy=>h x y (List.mem_cons_of_mem _ hx) (List.mem_cons_of_mem _ hy)) (List.nodup_cons.mp nd).2⟩
  obtain⟨b,hb,e⟩:=List.mem_map.mp m
  have:=h b a (List.mem_cons_of_mem _ hb) List.mem_cons_self e
  exact(List.nodup_cons.mp nd).1 (by rw[←this];exact hb)
theorem JM (S:Nat):(HK S).Nodup:=QS (λa b _ _ e=>by omega) List.nodup_range
theorem V2 {M:Type}[DecidableEq M]:∀{l m:List M},l.Nodup->m.Nodup->(∀x,x∈l↔x∈m)->l.Perm m
 | [],m,_,_,h=>by
  cases m with
  |nil=>exact List.Perm.refl _
  |cons a r=>exact absurd ((h a).mpr List.mem_cons_self) (by simp)
 |a::r,m,nl,nm,h=>by
  have ha:a∈m:=(h a).mp List.mem_cons_self
  have hp:m.Perm (a::m.erase a):=List.perm_cons_erase ha
  refine List.Perm.trans (List.Perm.cons a ?_) hp.symm
  have ft:(a::m.erase a).Nodup:=hp.nodup_iff.mp nm
  refine V2 (List.nodup_cons.mp nl).2 (List.nodup_cons.mp ft).2 λx=>?_
  constructor
  ·intro hx
   have kX:x≠a:=λe=>(List.nodup_cons.mp nl).1 (by rw[←e];exact hx)
   have:x∈a::m.erase a:=hp.mem_iff.mp ((h x).mp (List.mem_cons_of_mem _ hx))
   exact(List.mem_cons.mp this).resolve_left kX
  ·intro hx
   have kX:x≠a:=λe=>(List.nodup_cons.mp ft).1 (e▸hx)
   have:x∈a::r:=(h x).mpr (hp.mem_iff.mpr (List.mem_cons_of_mem _ hx))
   exact(List.mem_cons.mp this).resolve_left kX
theorem LS {S:Nat}{r:Int×Int}(h0:0<=r.1)(h1:r.1+1<(S:Int)):((HK S).map (Gk r)).Perm (HK S):=by
 refine V2 (QS (λa b _ _ e=>?_) (JM S)) (JM S) λx=>?_
 ·unfold Gk at e
  split at e<;> split at e<;> (try split at e)<;> (try split at e)<;> omega
 ·rw[List.mem_map,JJ]
  constructor
  ·rintro⟨a,ha,rfl⟩
   have:=JJ.mp ha
   exact BG h0 h1 this.1 this.2
  ·rintro⟨x0,x1⟩
   refine⟨Gk r x,JJ.mpr (BG h0 h1 x0 x1),?_⟩
   unfold Gk
   split<;> (try split)<;> (try split)<;> omega
theorem JE {M L:Type}(f:M->List L){l m:List M}(h:l.Perm m):(l.flatMap f).Perm (m.flatMap f):=by
 induction h with
 |nil=>exact List.Perm.refl _
 |cons x _ ih=>rw[List.flatMap_cons,List.flatMap_cons];exact List.Perm.append_left _ ih
 |swap x y l=>
  rw[List.flatMap_cons,List.flatMap_cons,List.flatMap_cons,List.flatMap_cons, ←List.append_assoc, ←List.append_assoc]
  exact List.Perm.append_right _ List.perm_append_comm
 |trans _ _ ih1 ih2=>exact ih1.trans ih2
theorem K1 {M L:Type}(f g:M->List L):∀l:List M,(l.flatMap λx=>f x++g x).Perm (l.flatMap f++l.flatMap g)
 | []=>List.Perm.refl _
 |a::r=>by
  rw[List.flatMap_cons,List.flatMap_cons,List.flatMap_cons]
  refine(List.Perm.append_left _ (K1 f g r)).trans ?_
  rw[List.append_assoc,List.append_assoc]
  refine List.Perm.append_left _ ?_
  rw[←List.append_assoc, ←List.append_assoc]
  exact List.Perm.append_right _ List.perm_append_comm
theorem Vc {M L:Type}(f:M->List L):∀{l:List M},(∀x∈l,f x=[])->l.flatMap f=[]
 | [],_=>rfl
 |a::r,h=>by rw[List.flatMap_cons,h a List.mem_cons_self,Vc f λx hx=>h x (List.mem_cons_of_mem _ hx)];rfl
theorem N8 {S:Nat}{r:Int×Int}(h0:0<=r.1)(h1:r.1+1<(S:Int)):((HK S).flatMap (Bs r)).Perm [r.2,-r.2]:=by
 have ha:r.1∈HK S:=JJ.mpr ⟨h0,by omega⟩
 have hp:=List.perm_cons_erase ha
 have nd:=hp.nodup_iff.mp (JM S)
 have hb:r.1+1∈(HK S).erase r.1:=by
  have:r.1+1∈r.1::(HK S).erase r.1:=hp.mem_iff.mp (JJ.mpr ⟨by omega,h1⟩)
  exact(List.mem_cons.mp this).resolve_left (by omega)
 have hq:=List.perm_cons_erase hb
 have ft:=hq.nodup_iff.mp (List.nodup_cons.mp nd).2
 refine(JE _ (hp.trans (List.Perm.cons _ hq))).trans ?_
 rw[List.flatMap_cons,List.flatMap_cons,Vc]
 ·unfold Bs
  rw[if_pos rfl,if_neg (by omega),if_pos rfl]
  exact List.Perm.refl _
 ·intro x hx
  have x2:x≠r.1+1:=λe=>(List.nodup_cons.mp ft).1 (e▸hx)
  have x1:x≠r.1:=λe=>(List.nodup_cons.mp nd).1 (e▸hq.mem_iff.mpr (List.mem_cons_of_mem _ hx))
  unfold Bs
  rw[if_neg x1,if_neg x2]
theorem flatMap_map {M L B:Type}(f:M->L)(g:L->List B)(l:List M):(l.map f).flatMap g=l.flatMap λx=>g (f x):=by
 induction l with
 |nil=>rfl
 |cons a r ih=>rw[List.map_cons,List.flatMap_cons,List.flatMap_cons,ih]
theorem EO {S:Nat}:∀{rs:QPs},(∀r∈rs,0<=r.1/\r.1+1<(S:Int))->((HK S).flatMap (BA rs)).Perm (rs.flatMap λr=>[r.2,-r.2])
 | [],_=>by rw[Vc (BA []) (λx _=>rfl)];exact List.Perm.refl _
 |r::rs,h=>by
  obtain⟨h0,h1⟩:=h r List.mem_cons_self
  rw[List.flatMap_cons]
  refine(K1 (Bs r) (λa=>BA rs (Gk r a)) (HK S)).trans ?_
  refine List.Perm.append (N8 h0 h1) ?_
  rw[←flatMap_map (Gk r) (BA rs)]
  exact(JE _ (LS h0 h1)).trans (EO λq hq=>h q (List.mem_cons_of_mem _ hq))
theorem R3 {x s:Int}(h:s=1∨s= -1): [x*s,-(x*s)].Perm [x,-x]:=by
 rcases h with h |h
 ·subst h;simp
 ·subst h
  have e1:x* -1= -x:=by omega
  have e2: -(-x)=x:=by omega
  rw[e1,e2]
  exact List.Perm.swap _ _ _
theorem VB {M L:Type}{f g:M->List L}:∀{l:List M},(∀x∈l,(f x).Perm (g x))->(l.flatMap f).Perm (l.flatMap g)
 | [],_=>List.Perm.refl _
 |a::r,h=>by
  rw[List.flatMap_cons,List.flatMap_cons]
  exact List.Perm.append (h a List.mem_cons_self) (VB λx hx=>h x (List.mem_cons_of_mem _ hx))
end My
namespace My
theorem RK {r:Int×Int}{a:Int}(h:a=r.1):Bs r a=[r.2]:=by unfold Bs;rw[if_pos h]
theorem RW {r:Int×Int}{a:Int}(h:a=r.1+1):Bs r a=[-r.2]:=by unfold Bs;rw[if_neg (by omega),if_pos h]
theorem SF {r:Int×Int}{a:Int}(h:¬a=r.1)(h2:¬a=r.1+1):Bs r a=[]:=by unfold Bs;rw[if_neg h,if_neg h2]
theorem RO {r:Int×Int}{a:Int}(h:a=r.1):Gk r a=r.1+1:=by unfold Gk;rw[if_pos h]
theorem Rq {r:Int×Int}{a:Int}(h:a=r.1+1):Gk r a=r.1:=by unfold Gk;rw[if_neg (by omega),if_pos h]
theorem RN {r:Int×Int}{a:Int}(h:¬a=r.1)(h2:¬a=r.1+1):Gk r a=a:=by unfold Gk;rw[if_neg h,if_neg h2]
structure Done (S:Int)(seen:List Bool)(ps:List Int):Prop where
 nd:ps.Nodup
 at':∀p∈ps,0<=p/\p<S/\seen[p.toNat]?=some true
 of:∀q:Nat,seen[q]?=some true->(q:Int)∈ps
theorem Done.none (S:Int)(n:Nat):Done S (List.replicate n false) []:=
 ⟨List.nodup_nil,λp h=>by simp at h,λq h=>by
  rw[List.getElem?_replicate] at h
  split at h<;> cases h⟩
theorem Fs {l:List Bool}{j q:Nat}(h:l[q]?=some true):(l.set j true)[q]?=some true:=by
 by_cases e:j=q
 ·subst e
  rw[List.getElem?_set_self (List.getElem?_eq_some_iff.mp h).1]
 ·rw[List.getElem?_set_ne e];exact h
theorem Done.snoc {S:Int}{seen:List Bool}{ps:List Int}{a:Int}(h:Done S seen ps)(a0:0<=a)(a1:a<S)(e:seen[a.toNat]?=some false):Done S (seen.set a.toNat true) (ps++[a]):=by
 have hl:a.toNat<seen.length:=(List.getElem?_eq_some_iff.mp e).1
 have hn:a∉ps:=λm=>by
  have:=(h.at' a m).2.2
  rw[e] at this;cases this
 refine⟨?_,λp hp=>?_,λq hq=>?_⟩
 ·rw[List.nodup_append]
  refine⟨h.nd,by simp,λx hx y hy=>?_⟩
  rw[List.mem_singleton.mp hy]
  exact λe=>hn (e▸hx)
 ·rcases List.mem_append.mp hp with hp |hp
  ·obtain⟨h1,h2,h3⟩:=h.at' p hp
   exact⟨h1,h2,Fs h3⟩
  ·rw[List.mem_singleton.mp hp]
   exact⟨a0,a1,by rw[List.getElem?_set_self hl]⟩
 ·by_cases hqa:a.toNat=q
  ·exact List.mem_append_right _ (List.mem_singleton.mpr (by omega))
  ·rw[List.getElem?_set_ne hqa] at hq
   exact List.mem_append_left _ (h.of q hq)
theorem Done.all {S:Int}{seen:List Bool}{ps:List Int}(h:Done S seen ps)(hl:seen.length=S.toNat)(h0:0<=S)(ha:∀q:Nat,q<S.toNat->seen[q]?=some true):ps.Perm (HK S.toNat):=by
 refine V2 h.nd (JM _) λx=>?_
 rw[JJ]
 constructor
 ·intro hx
  obtain⟨h1,h2,_⟩:=h.at' x hx
  omega
 ·rintro⟨x0,x1⟩
  have:=h.of x.toNat (ha x.toNat (by omega))
  rw[show((x.toNat:Nat):Int)=x by omega] at this
  exact this
theorem Hx {seen:List Bool}{i:Nat}(h:∀q:Nat,q<i->seen[q]?=some true)(hi:seen[i]?=some true):∀q:Nat,q<i+1->seen[q]?=some true:=λq hq=>by
 by_cases e:q=i
 ·subst e;exact hi
 ·exact h q (by omega)
end My
namespace My
open PySem L2
theorem Ys {M:Type}{r:List M}{k:Int}{n:Nat}(e:k=(n:Int))(h:n<r.length):atR r k= .ok r[n]:=by
 subst e;exact YH (by simp[h])
theorem FZ {B:Type}{c:B->Rs Bool}{f:B->Rs B}(P:B->Prop)(μ:B->Nat)(hs:∀g,P g->∃b,c g= .ok b/\(b=true->Ok (f g) λg'=>P g'/\μ g'<μ g)):∀(n:Nat) (g:B),P g->μ g<n->Ok (Kd n g c f) λg'=>P g'/\c g'= .ok false
 |0,_,_,h=>by omega
 |n+1,g,hp,hm=>by
  obtain⟨b,hb,h⟩:=hs g hp
  show Ok ((c g).bind _) _
  rw[hb,Rs.okb]
  cases b with
  |false=>rw[if_neg Bool.false_ne_true];exact⟨g,rfl,hp,hb⟩
  |true=>
   rw[if_pos rfl]
   exact Ok.bind (h rfl) λg' h'=>FZ P μ hs n g' h'.1 (by omega)
def Sg (l:QPs):Prop:=l.Pairwise (λx y=>x.1<y.1)/\∀e∈l,1<=e.1
def kys (l:QPs):List Int:=l.map (·.1)
theorem Sg.kn {l:QPs}(h:Sg l):(kys l).Nodup:=by
 unfold kys
 exact List.Pairwise.map _ (λa b z e=>by omega) h.1
theorem B5 {l:QPs}(h:(kys l).Nodup):l.Nodup:=List.Pairwise.of_map _ (λa b z e=>z (congrArg _ e)) h
theorem Sg.rise {l:QPs}(h:Sg l):l.Pairwise λx y=>ltP x y=true:=
 h.1.imp fun {a b} z=>by unfold ltP;rw[if_neg (by omega)];simpa using z
theorem Sg.sort {l:QPs}(h:Sg l):Zw ltP l=l:=(GO Dd (B5 h.kn) (List.Perm.refl _) h.rise).symm
theorem AK {l:QPs}(h:(kys l).Nodup)(h1:∀e∈l,1<=e.1):Sg (Zw ltP l):=by
 have hp:=YE ltP l
 have hk:(kys (Zw ltP l)).Nodup:=((List.Perm.map (λe:Int×Int=>e.1) hp).nodup_iff).mpr h
 refine⟨?_,λe he=>h1 e (hp.mem_iff.mp he)⟩
 have r:=V1 Dd (B5 h)
 have dI:(Zw ltP l).Pairwise λx y=>x.1≠y.1:=List.Pairwise.of_map (·.1) (λa b z=>z) hk
 refine(r.and dI).imp fun {a b} z=>?_
 have z1:=z.1
 unfold ltP at z1
 rw[if_neg z.2] at z1
 simpa using z1
theorem Sg.sub {l m:QPs}(h:Sg l)(s:m.Sublist l):Sg m:=⟨h.1.sublist s,λe he=>h.2 e (s.mem he)⟩
theorem Sg.del {l:QPs}(h:Sg l)(k:Int):Sg (Ff l k):=h.sub List.filter_sublist
theorem Db {l:QPs}{k v:Int}(h:k∉kys l):KZ l k v=l++[(k,v)]:=by
 unfold KZ
 rw[if_neg λz=>h ?_]
 obtain⟨e,he,z⟩:=List.any_eq_true.mp z
 exact List.mem_map.mpr ⟨e,he,by simpa using z⟩
theorem CF:∀{ps acc:QPs},(kys (acc++ps)).Nodup->HY acc ps=acc++ps
 | [],acc,_=>by simp[HY]
 |p::ps,acc,h=>by
  have hn:p.1∉kys acc:=λz=>by
   unfold kys at h z
   rw[List.map_append,List.nodup_append] at h
   exact h.2.2 _ z p.1 (by simp) rfl
  have e:acc++p::ps=(acc++[p])++ps:=by simp
  show HY (KZ acc p.1 p.2) ps=_
  rw[Db hn,e]
  exact CF (by rw[←e];exact h)
theorem Sg.dict {l:QPs}(h:Sg l):HY [] l=l:=CF (acc:=[]) (by simpa using h.kn)
theorem VE {l:QPs}{k:Int}:(Jc l k).isSome=true↔k∈kys l:=by
 unfold Jc kys
 rw[Option.isSome_map,List.find?_isSome]
 simp only[List.mem_map,decide_eq_true_eq]
theorem Ly {l:QPs}{k:Int}(h:(Jc l k).isSome=false):k∉kys l:=λz=>by rw[VE.mpr z] at h;cases h
theorem Iv {l:QPs}{e:Int×Int}(h:(kys l).Nodup)(he:e∈l):Jc l e.1=some e.2:=by
 induction l with
 |nil=>cases he
 |cons a l ih=>
  unfold Jc
  unfold kys at h
  rw[List.map_cons,List.nodup_cons] at h
  rcases List.mem_cons.mp he with rfl |he
  ·simp
  ·have aN:a.1≠e.1:=λz=>h.1 (z▸List.mem_map.mpr ⟨e,he,rfl⟩)
   rw[List.find?_cons_of_neg (by simpa using aN)]
   exact ih h.2 he
theorem LM {l:QPs}{k v:Int}(h:Sg l)(hk:k∉kys l)(h1:1<=k):(kys (l++[(k,v)])).Nodup/\(∀e∈l++[(k,v)],1<=e.1)/\Sg (Zw ltP (l++[(k,v)])):=by
 have a:(kys (l++[(k,v)])).Nodup:=by
  unfold kys at hk⊢
  rw[List.map_append,List.nodup_append]
  refine⟨h.kn,by simp,λx hx y hy e=>hk ?_⟩
  have z:y=k:=by simpa using hy
  rw[←z, ←e]
  exact hx
 have b:∀e∈l++[(k,v)],1<=e.1:=λe he=>by
  rcases List.mem_append.mp he with he |he
  ·exact h.2 e he
  ·rw[List.mem_singleton.mp he];exact h1
 exact⟨a,b,AK a b⟩
theorem Hu {l:QPs}{e:Int×Int}:e∈Zw ltP l↔e∈l:=(YE ltP l).mem_iff
theorem OJ {l:QPs}:(Zw ltP l).length=l.length:=(YE ltP l).length_eq
theorem WA {d:QPs}{n:Int}:Ok (IQ d n) λk=>n<=k/\k∉kys d:=by
 unfold IQ RD;dsimp only
 simp only[Rs.okb]
 refine Ok.bind (FZ (λg=>n<=g) (λg=>(d.filter λe=>decide (g<=e.1)).length) (λg hg=>⟨_,rfl,λhb=>⟨_,rfl,by omega,?_⟩⟩) (d.length+2) n (Int.le_refl _) ?_) λg hg=>⟨_,rfl,hg.1,?_⟩
 ·obtain⟨e,he,ek⟩:=List.mem_map.mp (VE.mp hb)
  have s:(d.filter λe=>decide (g+1<=e.1)).Sublist ((d.filter λe=>decide (g<=e.1)).filter λe=>decide (g+1<=e.1)):=by
   rw[List.filter_filter]
   have:(λa:Int×Int=>decide (g+1<=a.1)&&decide (g<=a.1))=λe=>decide (g+1<=e.1):=by
    funext a;rw[Bool.eq_iff_iff];simp;omega
   rw[this];exact List.Sublist.refl _
  refine Nat.lt_of_le_of_lt s.length_le ?_
  refine Nat.lt_of_le_of_ne List.filter_sublist.length_le λz=>?_
  have:=List.length_filter_eq_length_iff.mp z e (List.mem_filter.mpr ⟨he,by simp;omega⟩)
  simp at this;omega
 ·exact Nat.lt_of_le_of_lt List.filter_sublist.length_le (by omega)
 ·have:=hg.2
  exact Ly (Rs.ok.inj this)
theorem ar0 {M:Type}{x0:M}{l:List M}:atR (x0::l) 0= .ok x0:=Jq (by decide) rfl
theorem ar1 {M:Type}{x0 x1:M}{l:List M}:atR (x0::x1::l) 1= .ok x1:=Jq (by decide) rfl
theorem ar2 {M:Type}{x0 x1 x2:M}{l:List M}:atR (x0::x1::x2::l) 2= .ok x2:=Jq (by decide) rfl
theorem ar3 {M:Type}{x0 x1 x2 x3:M}{l:List M}:atR (x0::x1::x2::x3::l) 3= .ok x3:=Jq (by decide) rfl
theorem ar4 {M:Type}{x0 x1 x2 x3 x4:M}{l:List M}:atR (x0::x1::x2::x3::x4::l) 4= .ok x4:=Jq (by decide) rfl
theorem ar5 {M:Type}{x0 x1 x2 x3 x4 x5:M}{l:List M}:atR (x0::x1::x2::x3::x4::x5::l) 5= .ok x5:=Jq (by decide) rfl
theorem ar6 {M:Type}{x0 x1 x2 x3 x4 x5 x6:M}{l:List M}:atR (x0::x1::x2::x3::x4::x5::x6::l) 6= .ok x6:=Jq (by decide) rfl
theorem ar7 {M:Type}{x0 x1 x2 x3 x4 x5 x6 x7:M}{l:List M}:atR (x0::x1::x2::x3::x4::x5::x6::x7::l) 7= .ok x7:=Jq (by decide) rfl
theorem ar8 {M:Type}{x0 x1 x2 x3 x4 x5 x6 x7 x8:M}{l:List M}:atR (x0::x1::x2::x3::x4::x5::x6::x7::x8::l) 8= .ok x8:=Jq (by decide) rfl
theorem BF:decide (("turn":Str)= "curl")=false:=rfl
theorem G1:decide (("turn":Str)= "uncurl")=false:=rfl
theorem Ie:decide (("turn":Str)= "lay")=false:=rfl
theorem Cg:decide (("turn":Str)= "unlay")=false:=rfl
theorem Bz:decide (("turn":Str)= "pass")=false:=rfl
theorem Pg:decide (("turn":Str)= "turn")=true:=rfl
theorem K4:decide (("curl":Str)= "turn")=false:=rfl
theorem VC:decide (("curl":Str)= "uncurl")=false:=rfl
theorem Gm:decide (("curl":Str)= "lay")=false:=rfl
theorem Uy:decide (("curl":Str)= "unlay")=false:=rfl
theorem KJ:decide (("curl":Str)= "pass")=false:=rfl
theorem WB:decide (("curl":Str)= "curl")=true:=rfl
theorem VV:decide (("uncurl":Str)= "turn")=false:=rfl
theorem FH:decide (("uncurl":Str)= "curl")=false:=rfl
theorem UA:decide (("uncurl":Str)= "lay")=false:=rfl
theorem J8:decide (("uncurl":Str)= "unlay")=false:=rfl
theorem VO:decide (("uncurl":Str)= "pass")=false:=rfl
theorem EE:decide (("uncurl":Str)= "uncurl")=true:=rfl
theorem K5:decide (("pass":Str)= "turn")=false:=rfl
theorem BD:decide (("pass":Str)= "curl")=false:=rfl
theorem VG:decide (("pass":Str)= "uncurl")=false:=rfl
theorem Gi:decide (("pass":Str)= "lay")=false:=rfl
theorem Uv:decide (("pass":Str)= "unlay")=false:=rfl
theorem WV:decide (("pass":Str)= "pass")=true:=rfl
theorem okf {M:Type}{m n:Rs M}:(if false=true then m else n)=n:=if_neg Bool.false_ne_true
theorem okt {M:Type}{m n:Rs M}:(if true=true then m else n)=m:=if_pos rfl
theorem AI {m:Rs Bool}:Pj (.ok false) m= .ok false:=rfl
theorem At {m:Rs Bool}:Pj (.ok true) m=m:=rfl
theorem orF {m:Rs Bool}:orR (.ok false) m=m:=rfl
theorem orT {m:Rs Bool}:orR (.ok true) m= .ok true:=rfl
def ins (w:List Int)(k:Nat)(p:List Int):List Int:=w.take k++p++w.drop k
def AZ (w:List Int)(k:Nat):List Int:=w.take k++w.drop (k+2)
def gw (ws:QLs)(i:Nat):List Int:=ws.getD i []
def Nx (ws:QLs)(i k:Nat)(p:List Int):QLs:=ws.set i (ins (gw ws i) k p)
def Ay (ws:QLs)(i k:Nat):QLs:=ws.set i (AZ (gw ws i) k)
theorem Mu {ws:QLs}{i:Nat}(h:i<ws.length):ws[i]?=some (gw ws i):=by simp[gw,h]
theorem DE {ws:QLs}{i:Nat}(h:i<ws.length):atR ws (i:Int)= .ok (gw ws i):=YH (Mu h)
theorem Hf {ws:QLs}{i:Nat}(h:i<ws.length):gw ws i∈ws:=List.mem_of_getElem? (Mu h)
theorem IG {M:Type}(as:List M){k:Nat}(h:k<=as.length):Gb as none (some (k:Int))=as.take k:=by
 unfold Gb
 rw[HT.sIx_nat,HT.sIx_none,Nat.min_eq_left h,List.drop_zero,Nat.sub_zero]
theorem KR {M:Type}(as:List M){k:Nat}:Gb as (some (k:Int)) none=as.drop k:=by
 unfold Gb
 rw[HT.sIx_nat,HT.sIx_none]
 by_cases h:k<=as.length
 ·rw[Nat.min_eq_left h];exact List.take_of_length_le (by simp)
 ·rw[Nat.min_eq_right (by omega),Nat.sub_self,List.take_zero,List.drop_of_length_le (by omega)]
theorem Kk {M:Type}{l:List M}(h:l.length<=100):Nw l (λa=>Rs.ok a)= .ok l:=by
 rw[Q0 (h:=λa=>a) (sz (by omega)) λ_ _=>rfl,List.map_id']
section
variable {ws:QLs}{i k:Nat}{p:List Int}
theorem LB {a b:Int}(hi:i<ws.length)(hk:k<=(gw ws i).length)(hl:(gw ws i).length<=100):UW ws (i:Int) (k:Int) a b= .ok (Nx ws i k [a,b]):=by
 unfold UW GW;dsimp only
 simp only[Rs.okb,DE hi,IG _ hk,KR]
 rw[Xj (show[a,b].length<=sizeLine from sz (by simp))]
 simp only[Rs.okb]
 rw[show NW ((gw ws i).take k) [a,b]= .ok ((gw ws i).take k++[a,b]) from Xj (sz (by simp;omega))]
 simp only[Rs.okb]
 rw[show NW ((gw ws i).take k++[a,b]) ((gw ws i).drop k)= .ok ((gw ws i).take k++[a,b]++(gw ws i).drop k) from Xj (sz (by simp;omega))]
 simp only[Rs.okb]
 rw[ZK hi]
 rfl
theorem HZ (hi:i<ws.length)(hk:k<=(gw ws i).length)(hl:(gw ws i).length<=100):V0 ws (i:Int) (k:Int)= .ok (Ay ws i k):=by
 unfold V0 Kp;dsimp only
 simp only[Rs.okb,DE hi,IG _ hk]
 rw[show(k:Int)+2=((k+2:Nat):Int) by omega,KR,show NW ((gw ws i).take k) ((gw ws i).drop (k+2))= .ok ((gw ws i).take k++(gw ws i).drop (k+2)) from Xj (sz (by simp;omega))]
 simp only[Rs.okb]
 rw[ZK hi]
 rfl
theorem FK:(Nx ws i k p).length=ws.length:=by simp[Nx]
theorem IF (hi:i<ws.length):gw (Nx ws i k p) i=ins (gw ws i) k p:=by simp[Nx,gw,hi]
theorem W2 {w:List Int}{a b:Int}(h:k<=w.length):(ins w k [a,b])[k]?=some a/\(ins w k [a,b])[k+1]?=some b:=by
 unfold ins
 rw[List.append_assoc]
 constructor
 ·rw[List.getElem?_append_right (by simp;omega),List.length_take,Nat.min_eq_left h,Nat.sub_self];rfl
 ·rw[List.getElem?_append_right (by simp;omega),List.length_take,Nat.min_eq_left h,show k+1-k=1 by omega];rfl
theorem Rl {w:List Int}{a b:Int}(h:k<=w.length):AZ (ins w k [a,b]) k=w:=by
 unfold AZ ins
 rw[List.append_assoc,List.take_append_of_le_length (by simp;omega),List.take_take,Nat.min_self,List.drop_append,List.drop_of_length_le (by simp;omega),List.length_take,Nat.min_eq_left h,show k+2-k=2 by omega]
 simp
end
def pm (xs:List Int):List Int:=xs.flatMap λx=>[x,-x]
structure Dr (n:Nat)(ws:QLs)(sg:QPs):Prop where
 n4:n<=5
 ne:1<=ws.length
 lw:ws.length<=4
 gs:Sg sg
 ls:sg.length<=6+n
 pe:ws.flatten.Perm (pm (kys sg))
 sn:∀e∈sg,e.2=1∨e.2= -1
theorem PM {xs:List Int}{x:Int}(h:x∈pm xs)(h1:∀y∈xs,1<=y):(x.natAbs:Int)∈xs:=by
 obtain⟨y,hy,hx⟩:=List.mem_flatMap.mp h
 have:=h1 y hy
 have e:x=y∨x= -y:=by simpa using hx
 rw[show(x.natAbs:Int)=y by omega]
 exact hy
section
variable {n:Nat}{ws:QLs}{sg:QPs}
theorem Dr.k1 (d:Dr n ws sg):∀y∈kys sg,1<=y:=λy hy=>by
 obtain⟨e,he,rfl⟩:=List.mem_map.mp hy
 exact d.gs.2 e he
theorem Dr.ky (d:Dr n ws sg):∀w∈ws,∀p∈w,(p.natAbs:Int)∈kys sg:=λw hw p hp=>
 PM (d.pe.mem_iff.mp (List.mem_flatten.mpr ⟨w,hw,hp⟩)) d.k1
theorem Dr.ll (d:Dr n ws sg):∀w∈ws,w.length<=2*sg.length:=λw hw=>by
 have h1:=d.pe.length_eq
 unfold pm kys at h1
 rw[Jy,List.length_map] at h1
 have h2:=(List.sublist_flatten_of_mem hw).length_le
 omega
theorem Dr.l {i:Nat}(d:Dr n ws sg)(h:i<ws.length):(gw ws i).length<=42:=by
 have:=d.ll _ (Hf h);have:=d.n4;have:=d.ls;omega
theorem Dr.lw' (d:Dr n ws sg):ws.length<=20:=by have:=d.lw;omega
theorem Dr.fin (d:Dr n ws sg):chk (sg.length<64/\sg.Nodup) (Rs.ok (Zw ltP sg))= .ok sg:=by
 rw[Xj ⟨by have:=d.ls;have:=d.n4;omega,B5 d.gs.kn⟩,d.gs.sort]
def rot (w:List Int)(s:Int):List Int:=if w.length=0 then w else w.drop (s % (w.length:Int)).toNat++w.take (s % (w.length:Int)).toNat
theorem A7 {w:List Int}{s:Int}(h:w.length≠0):∃c:Nat,s % (w.length:Int)=(c:Int)/\c<w.length/\rot w s=w.drop c++w.take c:=by
 have h1:=Int.emod_nonneg s (show(w.length:Int)≠0 by omega)
 have h2:=Int.emod_lt_of_pos s (show(0:Int)<(w.length:Int) by omega)
 refine⟨(s % (w.length:Int)).toNat,by omega,by omega,?_⟩
 unfold rot
 rw[if_neg h]
def S0 (ws:QLs)(i:Nat)(s:Int):QLs:=ws.set i (rot (gw ws i) s)
theorem Pf {i:Nat}(h:i<ws.length):ws.set i (gw ws i)=ws:=by
 apply List.ext_getElem?
 intro j
 by_cases e:i=j
 ·subst e;rw[List.getElem?_set_self h,Mu h]
 ·rw[List.getElem?_set_ne e]
theorem JR {p v:List Int}:∀{ws:QLs}{i:Nat},i<ws.length->v.Perm (p++gw ws i)->((ws.set i v).flatten).Perm (p++ws.flatten)
 |w::ws,0,_,h=>by
  show(v++ws.flatten).Perm (p++(w++ws.flatten))
  rw[←List.append_assoc]
  exact h.append_right _
 |w::ws,i+1,hi,h=>by
  show(w++(ws.set i v).flatten).Perm (p++(w++ws.flatten))
  refine((JR (Nat.lt_of_succ_lt_succ hi) h).append_left w).trans ?_
  rw[←List.append_assoc, ←List.append_assoc]
  exact List.perm_append_comm.append_right _
theorem R4 (d:Dr n ws sg){i:Nat}(hi:i<ws.length){s:Int}:HI (ws,sg) [.s "turn", .i i, .i s]= .ok (S0 ws i s,sg):=by
 have hl:=d.l hi
 unfold HI TX;dsimp only
 simp only[Rs.okb,decide_true,if_true,Bool.not_true,ar0,ar1,ar2,ar3,ar4,ar5,ar6,ar7,ar8,mxS,mxI,mxB,okf,okt,AI,At,orF,orT,Xn,BF,G1,Ie,Cg,Bz,Pg]
 rw[Kk (by have:=d.lw';omega)]
 simp only[Rs.okb,DE hi,d.gs.dict]
 by_cases h:(gw ws i).length=0
 ·rw[show decide ((0:Int)<((gw ws i).length:Int))=false by rw[h];rfl]
  simp only[okf,Rs.okb]
  rw[d.fin]
  simp only[Rs.okb]
  unfold S0 rot
  rw[if_pos h,Pf hi]
 ·obtain⟨c,ec,hc,er⟩:=A7 (s:=s) h
  rw[show decide ((0:Int)<((gw ws i).length:Int))=true by simpa using Nat.pos_of_ne_zero h]
  simp only[okt,Rs.okb]
  rw[Yy (by omega)]
  simp only[Rs.okb]
  rw[ec,KR,IG _ (Nat.le_of_lt hc),show NW ((gw ws i).drop c) ((gw ws i).take c)= .ok (rot (gw ws i) s) from(Xj (sz (by simp;omega))).trans (by rw[er])]
  simp only[Rs.okb]
  rw[ZK hi]
  simp only[Rs.okb]
  rw[d.fin]
  rfl
end
section
variable {n:Nat}{ws:QLs}{sg:QPs}
def ovw (o:Bool):Str:=if o=true then "over" else "under"
def prc (c:Int)(o:Bool):List Int:=if o=true then[c,-c] else[-c,c]
def Iw (i k:Nat)(c:Int)(o:Bool)(s:Int):List Mx:=[.s "curl", .i i, .i k, .i c, .s (ovw o), .i s]
def sgC (sg:QPs)(c s:Int):QPs:=Zw ltP (sg++[(c,s)])
theorem Dr.fin' (d:Dr n ws sg){l:QPs}(h:(kys l).Nodup)(hl:l.length<=40):chk (l.length<64/\l.Nodup) (Rs.ok (Zw ltP l))= .ok (Zw ltP l):=Xj ⟨by omega,B5 h⟩
theorem Mw (d:Dr n ws sg){i k:Nat}{c s:Int}{o:Bool}(hi:i<ws.length)(hk:k<=(gw ws i).length)(hc:c∉kys sg)(h1:1<=c):HI (ws,sg) (Iw i k c o s)= .ok (Nx ws i k (prc c o),sgC sg c s):=by
 have hl:=d.l hi
 have h3:=d.n4
 have h4:=d.ls
 have hp:prc c o=[c*(if o=true then 1 else-1),-(c*(if o=true then 1 else-1))]:=by cases o<;> simp[prc]
 unfold Iw
 unfold HI TX;dsimp only
 simp only[Rs.okb,decide_true,if_true,Bool.not_true,ar0,ar1,ar2,ar3,ar4,ar5,ar6,ar7,ar8,mxS,mxI,mxB,okf,okt,AI,At,orF,orT,Xn,K4,VC,Gm,Uy,KJ,WB]
 rw[Kk (by have:=d.lw';omega),Xj (show[(-1:Int),1].length<=sizeLine from sz (by simp))]
 simp only[Rs.okb,d.gs.dict,Db hc]
 rw[show atR [(-1:Int),1] (if decide (ovw o=("over":Str))=true then 1 else 0)= .ok (if o=true then 1 else-1) by cases o<;> exact Jq (by decide) rfl]
 simp only[Rs.okb]
 rw[QU (by split<;> decide) (by split<;> decide)]
 simp only[Rs.okb]
 rw[LB hi hk (by omega)]
 simp only[Rs.okb,Xn]
 rw[Xj (FG (by omega))]
 simp only[Rs.okb]
 rw[d.fin' (LM d.gs hc h1).1 (by simp;omega),hp]
 rfl
theorem Oc {w p:List Int}{k:Nat}:(ins w k p).Perm (p++w):=by
 unfold ins
 refine(List.perm_append_comm.append_right _).trans ?_
 rw[List.append_assoc,List.take_append_drop]
theorem pmp {a b:List Int}(h:a.Perm b):(pm a).Perm (pm b):=h.flatMap_right _
theorem Ox {c:Int}{o:Bool}:(prc c o).Perm [c,-c]:=by
 cases o with
 |true=>exact List.Perm.refl _
 |false=>exact List.Perm.swap ..
theorem NK (sg:QPs)(c s:Int):(kys (sgC sg c s)).Perm (c::kys sg):=by
 refine((YE ltP _).map (·.1)).trans ?_
 rw[List.map_append]
 exact List.perm_append_comm
theorem Dr.curl (d:Dr n ws sg)(hn:n<=4){i k:Nat}{c s:Int}{o:Bool}(hi:i<ws.length)(hk:k<=(gw ws i).length)(hc:c∉kys sg)(h1:1<=c)(hs:s=1∨s= -1):Dr (n+1) (Nx ws i k (prc c o)) (sgC sg c s) where
 n4:=by omega
 ne:=by rw[FK];exact d.ne
 lw:=by rw[FK];exact d.lw
 gs:=(LM d.gs hc h1).2.2
 ls:=by unfold sgC;rw[OJ];have:=d.ls;simp;omega
 pe:=(JR hi Oc).trans ((Ox.append d.pe).trans (pmp (NK sg c s)).symm)
 sn:=λe he=>by
  rcases List.mem_append.mp (Hu.mp he) with z |z
  ·exact d.sn e z
  ·rw[List.mem_singleton.mp z];exact hs
theorem LP (d:Dr n ws sg){i k:Nat}{x:Int}(hi:i<ws.length)(hx:(gw ws i)[k]?=some x)(hy:(gw ws i)[k+1]?=some (-x)):HI (ws,sg) [.s "uncurl", .i i, .i k]= .ok (Ay ws i k,Ff sg (x.natAbs:Int)):=by
 have hl:=d.l hi
 have h3:=d.n4
 have h4:=d.ls
 have hk:=(List.getElem?_eq_some_iff.mp hy).1
 have hm:(x.natAbs:Int)∈kys sg:=d.ky _ (Hf hi) x (List.mem_of_getElem? hx)
 unfold HI TX;dsimp only
 simp only[Rs.okb,decide_true,if_true,Bool.not_true,ar0,ar1,ar2,ar3,ar4,ar5,ar6,ar7,ar8,mxS,mxI,mxB,okf,okt,AI,At,orF,orT,Xn,VV,FH,UA,J8,VO,EE]
 rw[Kk (by have:=d.lw';omega)]
 simp only[Rs.okb,d.gs.dict,DE hi]
 rw[YH hx]
 simp only[Rs.okb]
 rw[Xj (VE.mpr hm),HZ hi (by omega) (by omega)]
 simp only[Rs.okb,Xn]
 have hs:=d.gs.del (x.natAbs:Int)
 have hle:(Ff sg (x.natAbs:Int)).length<=sg.length:=List.filter_sublist.length_le
 rw[d.fin' hs.kn (by omega),hs.sort]
 rfl
end
section
variable {n:Nat}{ws:QLs}{sg:QPs}
def swp (w:List Int)(k:Nat):List Int:=(w.set k (w.getD (k+1) 0)).set (k+1) (w.getD k 0)
def swW (ws:QLs)(i k:Nat):QLs:=ws.set i (swp (gw ws i) k)
def At2 (ws:QLs)(i k:Nat):Prop:=i<ws.length/\k+1<(gw ws i).length
theorem Rg {i k:Nat}:(swW ws i k).length=ws.length:=by simp[swW]
theorem TC {w:List Int}{k:Nat}:(swp w k).length=w.length:=by simp[swp]
theorem WI {i k j:Nat}:(gw (swW ws i k) j).length=(gw ws j).length:=by
 unfold swW gw
 simp only[List.getD_eq_getElem?_getD]
 by_cases e:i=j
 ·subst e
  by_cases h:i<ws.length
  ·rw[List.getElem?_set_self h];simp[TC,h]
  ·rw[List.getElem?_eq_none (by simp;omega),List.getElem?_eq_none (by omega)]
 ·rw[List.getElem?_set_ne e]
theorem At2.sw {i k j l:Nat}(h:At2 ws j l):At2 (swW ws i k) j l:=⟨by rw[Rg];exact h.1,by rw[WI];exact h.2⟩
theorem W6 {i k:Nat}(h:At2 ws i k):((atR ws (i:Int)).bind λx=>atR x (k:Int))= .ok ((gw ws i).getD k 0)/\((atR ws (i:Int)).bind λx=>atR x ((k:Int)+1))= .ok ((gw ws i).getD (k+1) 0):=by
 obtain⟨hi,hk⟩:=h
 rw[DE hi,Rs.okb,Rs.okb,show(k:Int)+1=((k+1:Nat):Int) by omega]
 exact⟨YH (by simp[Nat.lt_of_succ_lt hk]),YH (by simp[hk])⟩
theorem Wt {i k:Nat}{x y:Int}(h:At2 ws i k):((atR ws (i:Int)).bind λr=>(US r (k:Int) x).bind λr'=>(US ws (i:Int) r').bind λw=>(atR w (i:Int)).bind λr2=>(US r2 ((k:Int)+1) y).bind λr3=>(US w (i:Int) r3).bind λz=>Rs.ok z)= .ok (ws.set i (((gw ws i).set k x).set (k+1) y)):=by
 obtain⟨hi,hk⟩:=h
 rw[DE hi]
 simp only[Rs.okb]
 rw[ZK (by omega)]
 simp only[Rs.okb]
 rw[ZK hi]
 simp only[Rs.okb]
 rw[YH (as:=ws.set i ((gw ws i).set k x)) (List.getElem?_set_self hi)]
 simp only[Rs.okb]
 rw[show(k:Int)+1=((k+1:Nat):Int) by omega,ZK (by simp;omega)]
 simp only[Rs.okb]
 rw[ZK (by simp;exact hi)]
 simp only[Rs.okb,List.set_set]
def Wv (i k j l u v:Nat):List Mx:=[.s "pass", .i i, .i k, .i j, .i l, .i u, .i v]
def SM (ws:QLs)(i k j l u v:Nat):QLs:=swW (swW (swW ws i k) j l) u v
variable {i k j l u v:Nat}
theorem qA {f:QLs->Int×Int->Rs QLs}(hf:∀{ws:QLs}{i k:Nat},At2 ws i k->f ws ((i:Int),(k:Int))= .ok (swW ws i k))(h1:At2 ws i k)(h2:At2 ws j l)(h3:At2 ws u v):
  forN [((i:Int),(k:Int)),((j:Int),(l:Int)),((u:Int),(v:Int))] ws f= .ok (SM ws i k j l u v):=by
 unfold forN
 rw[hf h1,Rs.okb]
 unfold forN
 rw[hf h2.sw,Rs.okb]
 unfold forN
 rw[hf h3.sw.sw,Rs.okb]
 rfl
theorem qo {l:List Mx}{lo hi a b:Int}(h:¬(HT.sIx l.length 0 (some lo)=0/\HT.sIx l.length l.length (some hi)=l.length))(e:Gb l (some lo) (some hi)=[.i a, .i b]):(chk (¬(HT.sIx l.length 0 (some lo)=0/\HT.sIx l.length l.length (some hi)=l.length)) (Rs.ok (Gb l (some lo) (some hi)))).bind mx2= .ok (a,b):=by
 rw[Xj h,e];rfl
theorem SJ (d:Dr n ws sg)(h1:At2 ws i k)(h2:At2 ws j l)(h3:At2 ws u v):HI (ws,sg) (Wv i k j l u v)= .ok (SM ws i k j l u v,sg):=by
 unfold Wv
 unfold HI TX;dsimp only
 simp only[Rs.okb,decide_true,if_true,Bool.not_true,ar0,ar1,ar2,ar3,ar4,ar5,ar6,ar7,ar8,mxS,mxI,mxB,okf,okt,AI,At,orF,orT,Xn,K5,BD,VG,Gi,Uv,WV]
 rw[Kk (by have:=d.lw';omega)]
 simp only[Rs.okb,d.gs.dict]
 rw[qo (l:=[Mx.s "pass", .i i, .i k, .i j, .i l, .i u, .i v]) (lo:=1) (hi:=3) (a:=i) (b:=k) (show ¬(HT.sIx 7 0 (some 1)=0/\HT.sIx 7 7 (some 3)=7) by decide) rfl,qo (l:=[Mx.s "pass", .i i, .i k, .i j, .i l, .i u, .i v]) (lo:=3) (hi:=5) (a:=j) (b:=l) (show ¬(HT.sIx 7 0 (some 3)=0/\HT.sIx 7 7 (some 5)=7) by decide) rfl,qo (l:=[Mx.s "pass", .i i, .i k, .i j, .i l, .i u, .i v]) (lo:=5) (hi:=7) (a:=u) (b:=v) (show ¬(HT.sIx 7 0 (some 5)=0/\HT.sIx 7 7 (some 7)=7) by decide) rfl]
 simp only[Rs.okb]
 rw[Xj (show[((i:Int),(k:Int)),((j:Int),(l:Int)),((u:Int),(v:Int))].length<=sizeLine from sz (by simp))]
 simp only[Rs.okb]
 rw[qA (fun {ws i k} h=>?_) h1 h2 h3]
 ·simp only[Rs.okb]
  rw[d.fin]
  rfl
 ·obtain⟨e1,e2⟩:=W6 h
  simp only
  rw[e1,e2]
  simp only[Rs.okb]
  exact Wt h
theorem E9:∀{w:List Int}{k:Nat},k+1<w.length->(swp w k).Perm w
 |x::y::r,0,_=>List.Perm.swap ..
 |x::w,k+1,h=>(E9 (w:=w) (k:=k) (Nat.lt_of_succ_lt_succ h)).cons x
theorem Dr.put (d:Dr n ws sg){i:Nat}{w:List Int}(hi:i<ws.length)(h:w.Perm (gw ws i)):Dr n (ws.set i w) sg:=
 ⟨d.n4,by rw[List.length_set];exact d.ne,by rw[List.length_set];exact d.lw,d.gs,d.ls,(JR (p:=[]) hi h).trans d.pe,d.sn⟩
theorem Dr.sw (d:Dr n ws sg)(h:At2 ws i k):Dr n (swW ws i k) sg:=d.put h.1 (E9 h.2)
theorem Dr.pass (d:Dr n ws sg)(h1:At2 ws i k)(h2:At2 ws j l)(h3:At2 ws u v):Dr n (SM ws i k j l u v) sg:=((d.sw h1).sw h2.sw).sw h3.sw.sw
theorem Dr.turn (d:Dr n ws sg)(hi:i<ws.length){s:Int}:Dr n (S0 ws i s) sg:=d.put hi (by
 unfold rot
 split
 ·exact List.Perm.refl _
 ·exact List.perm_append_comm.trans (by rw[List.take_append_drop]))
theorem Dr.up (d:Dr n ws sg)(h:n<=4):Dr (n+1) ws sg:=⟨by omega,d.ne,d.lw,d.gs,by have:=d.ls;omega,d.pe,d.sn⟩
end
abbrev Q4:=Int×Int×Int×Int
section
variable {n:Nat}{ws:QLs}{sg:QPs}
structure PQ (ws:QLs)(q:Q4):Prop where
 ex:∃i k:Nat,q.1=(i:Int)/\q.2.1=(k:Int)/\i<ws.length/\(gw ws i)[k]?=some q.2.2.1/\(gw ws i)[k+1]?=some q.2.2.2
theorem c4 {x y z w:Int}:chk (¬(HT.sIx [x,y,z,w].length 0 (some 2)=0/\HT.sIx [x,y,z,w].length [x,y,z,w].length none=[x,y,z,w].length)) (Rs.ok (Gb [x,y,z,w] (some 2) none))= .ok [z,w]:=Xj (show ¬(HT.sIx 4 0 (some 2)=0/\HT.sIx 4 4 none=4) by decide)
theorem d4 {x y z w:Int}:chk (¬(HT.sIx [x,y,z,w].length 0 none=0/\HT.sIx [x,y,z,w].length [x,y,z,w].length (some 2)=[x,y,z,w].length)) (Rs.ok (Gb [x,y,z,w] none (some 2)))= .ok [x,y]:=Xj (show ¬(HT.sIx 4 0 none=0/\HT.sIx 4 4 (some 2)=4) by decide)
theorem jD {x y:Int}:qR [x,y]= .ok (min x y):=Xj (by simp)
theorem jG {x y:Int}:Ou [x,y]= .ok (max x y):=Xj (by simp)
theorem NE (w:List Int):Ny 0 ((w.length:Int)-1)= .ok ((List.range (w.length-1)).map λ(i:Nat)=>(i:Int))∨1000<w.length:=by
 by_cases h:1000<w.length
 ·exact .inr h
 ·left
  by_cases h0:w.length=0
  ·rw[h0];rfl
  ·rw[show(w.length:Int)-1=((w.length-1:Nat):Int) by omega]
   exact Y3 (by omega)
theorem NX (d:Dr n ws sg):Ok (FE ws) λl=>l.length<=168/\∀q∈l,PQ ws q:=by
 unfold FE El;dsimp only
 simp only[Rs.okb]
 rw[Y3 (by have:=d.lw;omega)]
 simp only[Rs.okb]
 refine Ok.bind (Ok.forN (λi (g:List Q4)=>g.length<=42*i/\∀q∈g,PQ ws q) ⟨Nat.le_refl _,λq hq=>by cases hq⟩ λi a g ha hg=>?_) λg hg=>?_
 ·obtain⟨rfl,hi⟩:=X9 ha
  have hl:=d.l hi
  have h4:=d.lw
  simp only[DE hi,Rs.okb]
  rcases NE (gw ws i) with e |e
  ·rw[e]
   simp only[Rs.okb]
   refine Ok.bind (Ok.forN (λk (q:List Q4)=>q.length<=42*i+k/\∀x∈q,PQ ws x) ⟨by have:=hg.1;omega,hg.2⟩ λk b q hb hq=>?_) λq hq=>?_
   ·obtain⟨rfl,hk⟩:=X9 hb
    have z1:(gw ws i)[k]?=some ((gw ws i).getD k 0):=by simp[show k<(gw ws i).length by omega]
    have z2:(gw ws i)[k+1]?=some ((gw ws i).getD (k+1) 0):=by simp[show k+1<(gw ws i).length by omega]
    rw[YH z1,show(k:Int)+1=((k+1:Nat):Int) by omega,YH z2]
    simp only[Rs.okb]
    rw[Xj (FG (by have:=hq.1;omega))]
    refine⟨_,rfl,by have:=hq.1;simp;omega,λx hx=>?_⟩
    rcases List.mem_append.mp hx with hx |hx
    ·exact hq.2 x hx
    ·rw[List.mem_singleton.mp hx]
     exact⟨i,k,rfl,rfl,hi,z1,z2⟩
   ·rw[X1] at hq
    exact⟨_,rfl,by have:=hq.1;omega,hq.2⟩
  ·omega
 ·rw[X1] at hg
  have:=d.lw
  exact⟨_,rfl,by have:=hg.1;omega,hg.2⟩
def sv (sg:QPs)(k:Int):Int:=(Jc sg k).getD 0
theorem Mo {k:Int}(h:k∈kys sg):GU sg k= .ok (sv sg k):=by
 have:=VE.mpr h
 unfold GU sv
 cases e:Jc sg k with
 |none=>rw[e] at this;cases this
 |some v=>rfl
def pa (q:Q4):Int:=-(min q.2.2.1 q.2.2.2)
def pc (q:Q4):Int:=max q.2.2.1 q.2.2.2
def pb (p q:Q4):Int:=p.2.2.1+p.2.2.2-pa q
def ord (x y:Int):Int:=if x=y then 1 else-1
theorem M3 {x y:Int}:((Nv 2 (if decide (x=y)=true then 1 else 0)).bind λz=>Rs.ok (z-1))= .ok (ord x y):=by
 unfold ord
 by_cases h:x=y
 ·rw[if_pos h,show decide (x=y)=true by simpa using h];rfl
 ·rw[if_neg h,show decide (x=y)=false by simpa using h];rfl
structure StC (sg:QPs)(p q r:Q4):Prop where
 a1:pa q∈[p.2.2.1,p.2.2.2]
 c1:pc q∉ [p.2.2.1,p.2.2.2]
 so:Ve [-r.2.2.1,-r.2.2.2]=Ve [pb p q,pc q]
 e1:ord p.2.2.1 (pa q)*sv sg (pb p q)=ord q.2.2.1 (-(pa q))*sv sg (pc q)
 e2:ord q.2.2.1 (-(pa q))*sv sg (pa q)=ord r.2.2.1 (-(pb p q))*sv sg (pb p q)
theorem Rp {x y z:Int}:Nv (ord x y) z= .ok (ord x y*z):=ZB (by unfold ord;split<;> decide) (by unfold ord;split<;> decide)
theorem Ec {p q r:Q4}(ka:pa q∈kys sg)(kc:pc q∈kys sg)(kb:pa q∈[p.2.2.1,p.2.2.2]->pb p q∈kys sg):Ok (JG sg p q r) λb=>b=true->StC sg p q r:=by
 unfold JG V4;dsimp only
 simp only[Rs.okb,c4]
 rw[show-(min q.2.2.1 q.2.2.2)=pa q from rfl,show max q.2.2.1 q.2.2.2=pc q from rfl,show p.2.2.1+p.2.2.2-pa q=pb p q from rfl]
 by_cases h1:pa q∈[p.2.2.1,p.2.2.2]
 ·rw[show decide (pa q∈[p.2.2.1,p.2.2.2])=true by simpa using h1]
  simp only[Bool.not_true,orF,Rs.okb]
  by_cases h2:pc q∈[p.2.2.1,p.2.2.2]
  ·rw[show decide (pc q∈[p.2.2.1,p.2.2.2])=true by simpa using h2]
   exact⟨false,rfl,λz=>by cases z⟩
  ·rw[show decide (pc q∈[p.2.2.1,p.2.2.2])=false by simpa using h2,okf,Xj (show[-r.2.2.1,-r.2.2.2].length<=sizeLine from sz (by simp)),Xj (show[pb p q,pc q].length<=sizeLine from sz (by simp))]
   simp only[Rs.okb]
   rw[Xj (show[-r.2.2.1,-r.2.2.2].length<64 by simp),Xj (show[pb p q,pc q].length<64 by simp)]
   simp only[Rs.okb]
   by_cases h3:Ve [-r.2.2.1,-r.2.2.2]=Ve [pb p q,pc q]
   ·rw[show decide (Ve [-r.2.2.1,-r.2.2.2]=Ve [pb p q,pc q])=true by simpa using h3]
    simp only[Bool.not_true,okf]
    rw[M3,Rs.okb,M3,Rs.okb,M3,Rs.okb,Mo ka,Mo kc,Mo (kb h1)]
    simp only[Rs.okb,Rp]
    rw[L6 (c:=decide (ord q.2.2.1 (-(pa q))*sv sg (pa q)=ord r.2.2.1 (-(pb p q))*sv sg (pb p q))) λ_=>rfl]
    refine⟨_,rfl,λz=>?_⟩
    simp only[Bool.and_eq_true,decide_eq_true_eq] at z
    exact⟨h1,h2,h3,z.1,z.2⟩
   ·rw[show decide (Ve [-r.2.2.1,-r.2.2.2]=Ve [pb p q,pc q])=false by simpa using h3]
    exact⟨false,rfl,λz=>by cases z⟩
 ·rw[show decide (pa q∈[p.2.2.1,p.2.2.2])=false by simpa using h1]
  exact⟨false,rfl,λz=>by cases z⟩
structure PassC (ws:QLs)(sg:QPs)(p q r:Q4):Prop where
 hp:PQ ws p
 hq:PQ ws q
 hr:PQ ws r
 p0:0<min p.2.2.1 p.2.2.2
 q0:min q.2.2.1 q.2.2.2<0/\0<max q.2.2.1 q.2.2.2
 st:StC sg p q r
def Pu (p q r:Q4):List Mx:=[.s "pass", .i p.1, .i p.2.1, .i q.1, .i q.2.1, .i r.1, .i r.2.1]
theorem PX (d:Dr n ws sg){q:Q4}(h:PQ ws q):(q.2.2.1.natAbs:Int)∈kys sg/\(q.2.2.2.natAbs:Int)∈kys sg:=by
 obtain⟨i,k,_,_,hi,z1,z2⟩:=h.ex
 exact⟨d.ky _ (Hf hi) _ (List.mem_of_getElem? z1),d.ky _ (Hf hi) _ (List.mem_of_getElem? z2)⟩
theorem Md (d:Dr n ws sg){p q:Q4}(hp:PQ ws p)(hq:PQ ws q)(p0:0<min p.2.2.1 p.2.2.2)(q0:min q.2.2.1 q.2.2.2<0/\0<max q.2.2.1 q.2.2.2):pa q∈kys sg/\pc q∈kys sg/\(pa q∈[p.2.2.1,p.2.2.2]->pb p q∈kys sg):=by
 obtain⟨k1,k2⟩:=PX d hp
 obtain⟨k3,k4⟩:=PX d hq
 have a:∀{x y:Int},(x.natAbs:Int)∈kys sg->y=(x.natAbs:Int)->y∈kys sg:=λh e=>e▸h
 unfold pa pc pb pa
 refine⟨?_,?_,λh=>?_⟩
 ·rcases Int.le_total q.2.2.1 q.2.2.2 with z |z
  ·exact a k3 (by omega)
  ·exact a k4 (by omega)
 ·rcases Int.le_total q.2.2.1 q.2.2.2 with z |z
  ·exact a k4 (by omega)
  ·exact a k3 (by omega)
 ·have: -(min q.2.2.1 q.2.2.2)=p.2.2.1∨ -(min q.2.2.1 q.2.2.2)=p.2.2.2:=by simpa using h
  rcases this with z |z
  ·exact a k2 (by omega)
  ·exact a k1 (by omega)
def PG (ws:QLs)(sg:QPs)(n:Nat)(l:List (List Mx)):Prop:=l.length<=n/\∀m∈l,∃p q r,m=Pu p q r/\PassC ws sg p q r
theorem PG.mono {n m:Nat}{l:List (List Mx)}(h:PG ws sg n l)(z:n<=m):PG ws sg m l:=⟨Nat.le_trans h.1 z,h.2⟩
theorem MJ {l:List Q4}{c:Q4->Rs Bool}{f:Q4->Rs Q4}(p:Q4->Bool)(hl:l.length<=168)(hc:∀a,c a= .ok (p a))(hf:∀a,f a= .ok a):∃m:List Q4,T3 l c f= .ok m/\m.length<=168/\∀a∈m,a∈l/\p a=true:=
 ⟨l.filter p,by rw[FV (p:=p) (h:=λe=>e) (sz (by omega)) (λa _=>hc a) λa _ _=>hf a,List.map_id'],Nat.le_trans (List.length_filter_le ..) hl,λ_ ha=>List.mem_filter.mp ha⟩
theorem Io (d:Dr n ws sg):Ok (U5 (ws,sg)) (PG ws sg 5000000):=by
 obtain⟨l,el,hl,hq⟩:=NX d
 unfold U5 G9;dsimp only
 simp only[Rs.okb,d.gs.dict,el,Xn,c4,d4,jD,jG]
 obtain⟨l1,e1,n1,h1⟩:=MJ (c:=λcw=>Rs.ok (decide ((0:Int)<min cw.2.2.1 cw.2.2.2))) (f:=λcw=>Rs.ok cw) (λcw=>decide ((0:Int)<min cw.2.2.1 cw.2.2.2)) hl (λ_=>rfl) λ_=>rfl
 obtain⟨l2,e2,n2,h2⟩:=MJ (c:=λdY=>if decide (min dY.2.2.1 dY.2.2.2<0)=true then Rs.ok (decide (0<max dY.2.2.1 dY.2.2.2)) else Rs.ok false) (f:=Rs.ok) (λdY=>decide (min dY.2.2.1 dY.2.2.2<0)&&decide (0<max dY.2.2.1 dY.2.2.2)) hl (λa=>by cases decide (min a.2.2.1 a.2.2.2<0)<;> rfl) λ_=>rfl
 obtain⟨l3,e3,n3,h3⟩:=MJ (c:=λgx=>Rs.ok (decide (max gx.2.2.1 gx.2.2.2<0))) (f:=Rs.ok) (λgx=>decide (max gx.2.2.1 gx.2.2.2<0)) hl (λ_=>rfl) λ_=>rfl
 rw[e1,Rs.okb,e2,e3]
 refine Ok.bind (Ok.forN (λi g=>PG ws sg (28224*i) g) ⟨Nat.le_refl _,λm hm=>by cases hm⟩ λi p g hp hg=>?_) λg hg=>⟨g,rfl,hg.mono (by omega)⟩
 have hp:=h1 p (List.mem_of_getElem? hp)
 have i1:i<l1.length:=(List.getElem?_eq_some_iff.mp ‹_›).1
 rw[Rs.okb]
 refine Ok.bind (Ok.forN (λj g=>PG ws sg (28224*i+168*j) g) (hg.mono (Nat.le_refl _)) λj q g gi hg=>?_) λg hg=>⟨g,rfl,hg.mono (by omega)⟩
 have j1:j<l2.length:=(List.getElem?_eq_some_iff.mp gi).1
 have gi:=h2 q (List.mem_of_getElem? gi)
 rw[Rs.okb]
 refine Ok.bind (Ok.forN (λk g=>PG ws sg (28224*i+168*j+k) g) (hg.mono (Nat.le_refl _)) λk r g hr hg=>?_) λg hg=>⟨g,rfl,hg.mono (by omega)⟩
 have k1:k<l3.length:=(List.getElem?_eq_some_iff.mp hr).1
 have hr:=h3 r (List.mem_of_getElem? hr)
 have p0:0<min p.2.2.1 p.2.2.2:=by simpa using hp.2
 have q0:min q.2.2.1 q.2.2.2<0/\0<max q.2.2.1 q.2.2.2:=by simpa using gi.2
 obtain⟨ka,kc,kb⟩:=Md d (hq p hp.1) (hq q gi.1) p0 q0
 obtain⟨b,eb,hb⟩:=Ec (r:=r) ka kc kb
 rw[eb,Xn,Rs.okb]
 cases b with
 |false=>exact⟨g,rfl,hg.mono (by omega)⟩
 |true=>
  have zz:∀{n:Nat},n<=5000000->n<sizeLine:=λh=>Nat.lt_of_le_of_lt h (by decide)
  simp only[if_true,List.length_cons,List.length_nil,List.map_cons,List.map_nil,List.length_append]
  rw[Xj (sz (by omega)),Rs.okb,Xj ⟨by omega,sz (by simp)⟩,Rs.okb,Xj ⟨by omega,sz (by simp)⟩,Rs.okb,Xj ⟨by omega,sz (by simp)⟩,Rs.okb,Xj (zz (by have:=hg.1;omega))]
  refine⟨_,rfl,by have:=hg.1;simp;omega,λm hm=>?_⟩
  rcases List.mem_append.mp hm with hm |hm
  ·exact hg.2 m hm
  ·rw[List.mem_singleton.mp hm]
   exact⟨p,q,r,rfl,hq p hp.1,hq q gi.1,hq r hr.1,p0,q0,hb rfl⟩
end
def nm (m:Nat):List Int:=(List.range m).map λ(k:Nat)=>(k:Int)+1
structure WkP (m:Nat)(ws:QLs):Prop where
 ne:1<=ws.length
 lw:ws.length<=4
 perm:ws.flatten.Perm (pm (nm m))
theorem O8 (m:Nat):(nm m).length=m:=by simp[nm]
theorem WkP.tot {m:Nat}{ws:QLs}(h:WkP m ws):ws.flatten.length=2*m:=by
 have:=h.perm.length_eq
 unfold pm at this
 rw[Jy,O8] at this
 exact this
theorem WkP.short {m:Nat}{ws:QLs}(h:WkP m ws){w:List Int}(hw:w∈ws):w.length<=2*m:=by
 have:=h.tot
 have:=(List.sublist_flatten_of_mem hw).length_le
 omega
def Eh (bo cy:List Int):QPs:=(List.range bo.length).map λ(k:Nat)=>(bo.getD k 0,((k:Int)+1)*cy.getD k 0)
theorem Em:∀(rs:QPs) (a:Int),(BA rs a).length<=rs.length
 | [],_=>Nat.le_refl _
 |r::rs,a=>by
  show(Bs r a++BA rs (Gk r a)).length<=_
  have h1:(Bs r a).length<=1:=by
   unfold Bs
   split
   ·simp
   ·split<;> simp
  have:=Em rs (Gk r a)
  simp only[List.length_append,List.length_cons]
  omega
theorem Nr {S:Int}:∀{rs:QPs}{x:Int},(∀r∈rs,0<=r.1/\r.1+1<S)->0<=x->x<S->0<=Oh rs x/\Oh rs x<S
 | [],_,_,h0,h1=>⟨h0,h1⟩
 |r::rs,x,h,h0,h1=>by
  have:=BG (h r List.mem_cons_self).1 (h r List.mem_cons_self).2 h0 h1
  exact Nr (rs:=rs) (λq hq=>h q (.tail _ hq)) this.1 this.2
theorem L1 {bo cy:List Int}{m S:Nat}(h1:bo.length=m)(h2:cy.length=m)(hm:m<=6)(hS:2<=S)(hS4:S<=4)(hl:∀x∈bo,0<=x/\x+1<(S:Int))(hs:∀x∈cy,x=1∨x= -1):Ok (U0 bo cy (S:Int)) (WkP m):=by
 have hrs:∀q∈Eh bo cy,0<=q.1/\q.1+1<(S:Int):=λq hq=>by
  obtain⟨k,hk,rfl⟩:=List.mem_map.mp hq
  have hk:=List.mem_range.mp hk
  have:bo.getD k 0∈bo:=by simp[hk]
  exact hl _ this
 have eZ:∀k (hk:k<bo.length) (dI:k<cy.length),(Eh bo cy)[k]?=some (bo[k],((k:Int)+1)*cy[k]):=λk hk dI=>by
  unfold Eh
  rw[List.getElem?_map,List.getElem?_range hk]
  simp[hk,dI]
 have kY:(Eh bo cy).length=m:=by simp[Eh,h1]
 unfold U0 Fv;dsimp only
 simp only[Rs.okb]
 rw[Xj (show[false].length<=sizeLine from sz (by simp)),Rs.okb,show Mk [false] (S:Int)= .ok (List.replicate S false) from ?_]
 rotate_left
 ·unfold Mk
  rw[Xj ⟨by omega,by omega,sz (by simp;omega)⟩,Int.toNat_natCast]
  congr 1
  clear hS hS4 hl hrs
  induction S with
  |zero=>rfl
  |succ n ih=>rw[List.replicate_succ,List.flatten_cons,ih,List.replicate_succ];rfl
 rw[Rs.okb,Y3 (by omega),Rs.okb]
 generalize hR:Eh bo cy=rs at hrs kY eZ
 refine Ok.bind (Ok.forN (λi (g:List Bool×QLs)=>g.1.length=S/\g.2.length<=i/\(∀q:Nat,q<i->g.1[q]?=some true)/\∃ps,Done (S:Int) g.1 ps/\g.2.flatten=ps.flatMap (BA rs)/\(g.2=[]->ps=[])) ⟨by simp,Nat.le_refl _,λq hq=>by omega,[],Done.none _ _,rfl,λ_=>rfl⟩ λi a g ha hg=>?_) λg hg=>?_
 ·obtain⟨rfl,hi⟩:=X9 ha
  obtain⟨g1,g2,g3,ps,g4,g5,g6⟩:=hg
  have jR:i<g.1.length:=by omega
  rw[Ys (n:=i) rfl jR]
  simp only[Rs.okb]
  cases hb:g.1[i] with
  |true=>
   rw[show(!true)=false from rfl,if_neg Bool.false_ne_true]
   simp only[Rs.okb]
   exact⟨_,rfl,g1,by show g.2.length<=_;omega,Hx g3 (by simp[jR,hb]),ps,g4,g5,g6⟩
  |false=>
   rw[show(!false)=true from rfl,if_pos rfl]
   refine Ok.bind (R:=λg':List Bool×QLs=>g'.1.length=S/\g'.2.length<=i+1/\(∀q:Nat,q<i+1->g'.1[q]?=some true)/\∃ps,Done (S:Int) g'.1 ps/\g'.2.flatten=ps.flatMap (BA rs)/\(g'.2=[]->ps=[])) (Ok.bind (FZ (λg':List Bool×Int×List Int=>g'.1.length=S/\0<=g'.2.1/\g'.2.1<(S:Int)/\(∀q:Nat,g.1[q]?=some true->g'.1[q]?=some true)/\((g'.2.1=(i:Int)/\g'.1[i]?=some false)∨g'.1[i]?=some true)/\g'.2.2.length+100*g'.1.count false<=100*S/\∃qs,Done (S:Int) g'.1 (ps++qs)/\g'.2.2=qs.flatMap (BA rs)) (λg'=>g'.1.count false) (λg' f7=>?_) _ (g.1,(i:Int),[]) ⟨g1,by show(0:Int)<=(i:Int);omega,by show(i:Int)<(S:Int);omega,λq h=>h, .inl ⟨rfl,by simp[jR,hb]⟩,by
    have:g.1.count false<=g.1.length:=List.count_le_length
    show 0+100*g.1.count false<=100*S
    omega,[],by rw[List.append_nil];exact g4,rfl⟩ ?_) λg' f7=>?_) λg' f7=>?_
   ·obtain⟨w1,w2,w3,w4,w5,w8,qs,w6,w7⟩:=f7
    obtain⟨p,hp⟩:∃p:Nat,g'.2.1=(p:Int):=⟨g'.2.1.toNat,by omega⟩
    have hpl:p<g'.1.length:=by omega
    rw[Ys hp hpl]
    refine⟨_,rfl,λhf=>?_⟩
    have hf':g'.1[p]=false:=by simpa using hf
    have hfs:g'.1[p]?=some false:=by simp[hpl,hf']
    rw[hp,ZK hpl]
    simp only[Rs.okb]
    rw[Y3 (by omega)]
    simp only[Rs.okb]
    refine Ok.bind (Ok.forN (λk (h:Int×List Int)=>h.1=Oh (rs.take k) (p:Int)/\h.2=g'.2.2++BA (rs.take k) (p:Int)) ⟨rfl,by rw[List.take_zero];exact(List.append_nil _).symm⟩ λk b h dP hh=>?_) λh hh=>?_
    ·obtain⟨rfl,hk⟩:=X9 dP
     obtain⟨e1,e2⟩:=hh
     have dI:k<cy.length:=by omega
     have hq:=eZ k hk dI
     have hts:rs.take (k+1)=rs.take k++[(bo[k],((k:Int)+1)*cy[k])]:=by rw[List.take_add_one,hq];rfl
     rw[hts,Ln,Ll, ←e1]
     have hsg:=hs _ (List.getElem_mem dI)
     rw[Ys (r:=bo) (n:=k) rfl hk]
     simp only[Rs.okb]
     rw[Ys (r:=cy) (n:=k) rfl dI]
     simp only[Rs.okb]
     rw[QU (a:=(k:Int)+1) (by omega) (by omega),QU (a:=-((k:Int)+1)) (by omega) (by omega)]
     simp only[Rs.okb]
     have ae:h.2.length<sizeLine:=FG (by
      have:=Em (rs.take k) (p:Int)
      rw[List.length_take] at this
      rw[e2,List.length_append];omega)
     rw[Xj ae,Xj ae]
     generalize bo[k]=low
     by_cases c1:h.1=low
     ·rw[if_pos (decide_eq_true c1)]
      simp only[Rs.okb]
      refine⟨_,rfl,?_,?_⟩
      ·rw[RO c1,c1]
      ·rw[RK c1,e2,List.append_assoc]
     ·rw[if_neg (by rw[decide_eq_false c1];exact Bool.false_ne_true)]
      by_cases c2:h.1=low+1
      ·rw[if_pos (decide_eq_true c2)]
       simp only[Rs.okb]
       refine⟨_,rfl,?_,?_⟩
       ·rw[Rq c2,c2];show low+1-1=low;omega
       ·rw[RW c2,e2,List.append_assoc,Int.neg_mul]
      ·rw[if_neg (by rw[decide_eq_false c2];exact Bool.false_ne_true)]
       simp only[Rs.okb]
       refine⟨_,rfl,?_,?_⟩
       ·rw[RN c1 c2]
       ·rw[SF c1 c2,List.append_nil,e2]
    ·rw[X1,h1, ←kY,List.take_length] at hh
     obtain⟨e1,e2⟩:=hh
     have gQ:=Nr hrs (show(0:Int)<=(p:Int) by omega) (show(p:Int)<(S:Int) by omega)
     have hct:=DM hfs
     have hcl':=Em rs (p:Int)
     refine⟨_,rfl,⟨?_,?_,?_,?_,?_,?_,qs++[(p:Int)],?_,?_⟩,?_⟩
     ·show(g'.1.set p true).length=S
      rw[List.length_set];exact w1
     ·show 0<=h.1
      rw[e1];exact gQ.1
     ·show h.1<_
      rw[e1];exact gQ.2
     ·exact λq hq=>Fs (w4 q hq)
     ·refine .inr ?_
      show(g'.1.set p true)[i]?=some true
      rcases w5 with⟨h1,_⟩ |h1
      ·have:p=i:=by omega
       subst this
       rw[List.getElem?_set_self hpl]
      ·exact Fs h1
     ·show h.2.length+100*(g'.1.set p true).count false<=100*S
      rw[e2,List.length_append];omega
     ·rw[←List.append_assoc]
      have:=w6.snoc (a:=(p:Int)) (by omega) (by omega) (by rw[Int.toNat_natCast];exact hfs)
      rwa [Int.toNat_natCast] at this
     ·show h.2=_
      rw[e2,w7,List.flatMap_append]
      simp
     ·show(g'.1.set p true).count false<g'.1.count false
      omega
   ·have:g.1.count false<=g.1.length:=List.count_le_length
    show g.1.count false<(S:Int).natAbs+2
    omega
   ·obtain⟨⟨w1,w2,w3,w4,w5,w8,qs,w6,w7⟩,hc⟩:=f7
    obtain⟨p,hp⟩:∃p:Nat,g'.2.1=(p:Int):=⟨g'.2.1.toNat,by omega⟩
    have hpl:p<g'.1.length:=by omega
    rw[Ys hp hpl,Rs.okb] at hc
    have eI:g'.1[p]=true:=by
     have:=Rs.ok.inj hc
     simpa using this
    have h5:g'.1[i]?=some true:=by
     rcases w5 with⟨h1,h6⟩ |h1
     ·have:p=i:=by omega
      subst this
      rw[List.getElem?_eq_getElem hpl,eI] at h6
      cases h6
     ·exact h1
    rw[Xj (FG (by omega))]
    refine⟨_,rfl,w1,?_,?_,ps++qs,w6,?_,λz=>by simp at z⟩
    ·show(g.2++[g'.2.2]).length<=_
     simp;omega
    ·exact Hx (λq hq=>w4 q (g3 q hq)) h5
    ·show(g.2++[g'.2.2]).flatten=_
     rw[List.flatten_append,g5,List.flatMap_append,w7]
     simp
   ·exact⟨_,rfl,f7⟩
 ·obtain⟨g1,g2,g3,ps,g4,g5,g6⟩:=hg
  rw[X1] at g2 g3
  have pp:=g4.all (by rw[g1];rfl) (by omega) λq hq=>g3 q (by omega)
  refine⟨_,rfl,?_,by omega,?_⟩
  ·refine Nat.pos_of_ne_zero λz=>?_
   rw[g6 (List.length_eq_zero_iff.mp z)] at pp
   have:=pp.length_eq
   simp[HK] at this
   omega
  rw[g5]
  refine(JE _ pp).trans ?_
  rw[Int.toNat_natCast]
  refine(EO hrs).trans ?_
  rw[←hR]
  unfold Eh pm nm
  rw[flatMap_map,flatMap_map,h1]
  refine VB λk hk=>R3 ?_
  have ci:=List.mem_range.mp hk
  exact hs _ (by simp;rw[List.getElem?_eq_getElem (by omega)];exact List.getElem_mem _)
theorem E3:∀{ws:QLs}{i:Nat} (h:i<ws.length),((ws.set i ws[i].reverse).flatten).Perm ws.flatten
 | [],i,h=>by simp at h
 |w::ws,0,h=>by
  show(w.reverse++ws.flatten).Perm (w++ws.flatten)
  exact(List.reverse_perm w).append_right _
 |w::ws,i+1,h=>by
  have h':i<ws.length:=by simpa using h
  show(w++(ws.set i ws[i].reverse).flatten).Perm (w++ws.flatten)
  exact(E3 h').append_left _
theorem Tv {M:Type}{l:List (Int×M)}{k:Int}{v:M}:(KZ l k v).length<=l.length+1:=by
 unfold KZ
 split
 ·simp
 ·simp
theorem Ae {M:Type}{as:List M}{i:Int}(h0:0<=i)(h:i<(as.length:Int)):∃x,atR as i= .ok x/\x∈as:=
 ⟨as[i.toNat]'(by omega),Ys (by omega) (by omega),List.getElem_mem _⟩
theorem Cu {ws:QLs}{cy r:List Int}{m:Nat}(w:WkP m ws)(h2:cy.length=m)(hs:∀x∈cy,x=1∨x= -1)(hm:m<=6)(hr:20<=r.length)(hf:∃j:Int,0<=j/\j<3/\atR r (-1)= .ok j):Ok (QP ws cy r) λd=>Dr 0 d.1 d.2:=by
 unfold QP Vh;dsimp only
 simp only[Rs.okb]
 have hw4:=w.lw
 rw[Y3 (by omega),Rs.okb]
 refine Ok.bind (Ok.forN (λi (g:QLs×List (Int×Bool))=>WkP m g.1/\g.1.length=ws.length/\g.2.length<=30*i) ⟨w,rfl,Nat.le_refl _⟩ λi a g ha hg=>?_) λg hg=>?_
 ·obtain⟨rfl,hi⟩:=X9 ha
  obtain⟨g1,g2,g3⟩:=hg
  rw[Ys (r:=r) (n:=4+i) (by omega) (by omega)]
  simp only[Rs.okb]
  refine Ok.bind (R:=λg':QLs×List (Int×Bool)=>WkP m g'.1/\g'.1.length=ws.length/\g'.2.length<=30*(i+1)) (Ok.ite (λ_=>?_) λ_=>⟨_,rfl,g1,g2,by show g.2.length<=_;omega⟩) λg' f7=>⟨_,rfl,f7⟩
  have fv:i<g.1.length:=by omega
  have hl:=g1.short (List.getElem_mem fv)
  rw[Ys (r:=g.1) (n:=i) rfl fv]
  simp only[Rs.okb]
  rw[Xj trivial,Rs.okb,ZK fv]
  simp only[Rs.okb]
  rw[Ys (r:=g.1.set i _) (n:=i) rfl (by simpa using fv),List.getElem_set_self]
  simp only[Rs.okb]
  refine Ok.bind (Ok.forN (λk (h:List (Int×Bool))=>h.length<=30*i+k) g3 λk b h hb hh=>?_) λh hh=>?_
  ·rw[Xj (FG (by
    have:=(List.getElem?_eq_some_iff.mp hb).1
    rw[List.length_reverse] at this
    omega))]
   exact⟨_,rfl,Nat.le_trans Tv (by omega)⟩
  ·rw[List.length_reverse] at hh
   refine⟨_,rfl,⟨by rw[List.length_set];exact g1.ne,by rw[List.length_set];exact g1.lw,(E3 fv).trans g1.perm⟩,by rw[List.length_set];exact g2,by show h.length<=_;omega⟩
 obtain⟨g1,g2,-⟩:=hg
 generalize g.1=vs at g1 g2
 rw[Y3 (by omega),Rs.okb]
 refine Ok.bind (Ok.forN (λi (l:QPs)=>l.map Prod.fst=nm i/\∀e∈l,e.2=1∨e.2= -1) ⟨rfl,λe he=>nomatch he⟩ λi a l ha hl=>?_) λl hl=>?_
 ·obtain⟨rfl,hi⟩:=X9 ha
  obtain⟨hl,gf⟩:=hl
  have hsi:=hs _ (List.getElem_mem hi)
  rw[Ys (r:=cy) (n:=i) rfl hi]
  simp only[Rs.okb]
  have e:∀s:Int,(l++[((i:Int)+1,s)]).map Prod.fst=nm (i+1):=λs=>by
   unfold nm at hl⊢
   rw[List.map_append,hl,List.range_succ,List.map_append]
   rfl
  have hll:l.length=i:=by
   have:=congrArg List.length hl
   simpa[nm] using this
  refine Ok.bind (R:=λs:Int=>s=1∨s= -1) (Ok.ite (λ_=>⟨_,rfl,by omega⟩) λ_=>⟨_,rfl,hsi⟩) λs dO=>?_
  rw[Xj (FG (by omega))]
  refine⟨_,rfl,e s,λx hx=>?_⟩
  rcases List.mem_append.mp hx with z |z
  ·exact gf x z
  ·rw[List.mem_singleton.mp z];exact dO
 rw[X1] at hl
 obtain⟨hl,gf⟩:=hl
 obtain⟨j,j0,j1,ej⟩:=hf
 rw[Gx (by decide) (by decide) (by decide) (by decide)]
 simp only[Rs.okb]
 rw[Xj (sz (by simp)),Rs.okb,ej,Rs.okb]
 obtain⟨f,ef,hfm⟩:=Ae (as:=[(1:Int),7,10^(9:Int).toNat]) j0 j1
 have hff:0<f/\f<2^64:=by
  simp only[List.mem_cons,List.not_mem_nil,or_false] at hfm
  rcases hfm with rfl |rfl |rfl<;> decide
 obtain⟨f0,f1⟩:=hff
 rw[ef,Rs.okb]
 rw[Q0 (h:=λw=>w.map λx=>x*f) (sz (by omega)) λw' hw'=>Q0 (h:=λx=>x*f) (sz (by have:=g1.short hw';omega)) λx _=>QU (by omega) f1,Rs.okb]
 have hll:l.length=m:=by
  have:=congrArg List.length hl
  simp[nm] at this
  omega
 rw[Q0 (h:=λe:Int×Int=>(e.1*f,e.2)) (sz (by omega)) λe _=>by rw[QU (by omega) f1,Rs.okb],Rs.okb]
 have hk:(l.map λe:Int×Int=>(e.1*f,e.2)).map Prod.fst=(nm cy.length).map λx=>x*f:=by
  rw[List.map_map,show(Prod.fst∘λe:Int×Int=>(e.1*f,e.2))=(λx=>x*f)∘Prod.fst from rfl, ←List.map_map,hl]
 have ci:kys (l.map λe:Int×Int=>(e.1*f,e.2))=(List.range m).map λ(k:Nat)=>((k:Int)+1)*f:=by
  show(l.map λe:Int×Int=>(e.1*f,e.2)).map Prod.fst=_
  rw[hk,h2,nm,List.map_map]
  rfl
 refine⟨_,rfl,by omega,by show 1<=(vs.map _).length;rw[List.length_map];exact g1.ne,by show(vs.map _).length<=4;rw[List.length_map];exact g1.lw,⟨?_,λe he=>?_⟩,by show(l.map _).length<=_;rw[List.length_map];omega,?_,λe he=>?_⟩
 ·have:((l.map λe:Int×Int=>(e.1*f,e.2)).map λx:Int×Int=>x.1).Pairwise (· < ·):=by
   rw[show(l.map λe:Int×Int=>(e.1*f,e.2)).map (λx:Int×Int=>x.1)=_ from ci,List.pairwise_map]
   exact List.pairwise_lt_range.imp fun {a b} h=>Int.mul_lt_mul_of_pos_right (by omega) f0
  exact List.pairwise_map.mp this
 ·have:e.1∈kys (l.map λe:Int×Int=>(e.1*f,e.2)):=List.mem_map_of_mem he
  rw[ci] at this
  obtain⟨k,_,e1⟩:=List.mem_map.mp this
  rw[←e1]
  have:=Int.mul_le_mul_of_nonneg_right (show(1:Int)<=(k:Int)+1 by omega) (Int.le_of_lt f0)
  omega
 ·show(vs.map λw=>w.map λx=>x*f).flatten.Perm (pm (kys (l.map λe:Int×Int=>(e.1*f,e.2))))
  rw[show(vs.map λw=>w.map λx=>x*f).flatten=vs.flatten.map λx=>x*f by rw[List.map_flatten]]
  rw[show kys (l.map λe:Int×Int=>(e.1*f,e.2))=(nm m).map λx=>x*f from h2▸hk]
  refine(g1.perm.map _).trans ?_
  unfold pm
  rw[List.map_flatMap,List.flatMap_map]
  refine List.Perm.of_eq (congrArg (λg=>List.flatMap g (nm m)) (funext λx=>?_))
  show[x*f,-x*f]=[x*f,-(x*f)]
  rw[Int.neg_mul]
 ·obtain⟨e',he',rfl⟩:=List.mem_map.mp he
  exact gf e' he'
theorem Sw {r:List Int}{n:Nat}(h:r.length=n+1):atR r (-1)= .ok (r[n]'(by omega)):=by
 unfold atR atI ixN
 rw[if_neg (by omega),if_pos (by omega)]
 simp only[h,Option.bind_some,show(-1+((n+1:Nat):Int)).toNat=n by omega]
 rw[List.getElem?_eq_getElem (by omega)]
theorem qe {l:List Int}(h:l.length<=6):(spl l none (some 3) (Gb [0,1,0] none (some (l.length:Int)))).length=l.length/\(Gb [(0:Int),1,0] none (some (l.length:Int))).length<=3/\∀x∈spl l none (some 3) (Gb [0,1,0] none (some (l.length:Int))),x∈l∨x=0∨x=1:=by
 unfold spl Gb
 rw[HT.sIx_none,HT.sIx_none,HT.sIx_nat,show HT.sIx l.length l.length (some 3)=min 3 l.length from HT.sIx_nat _ _ 3]
 refine⟨?_,?_,λx hx=>?_⟩
 ·simp;omega
 ·simp;omega
 ·rcases List.mem_append.mp hx with hx |hx
  ·rcases List.mem_append.mp hx with hx |hx
   ·exact .inl (List.mem_of_mem_take hx)
   ·have:=List.mem_of_mem_take hx
    simp at this
    omega
  ·exact .inl (List.mem_of_mem_drop hx)
theorem MN {l:List Int}{n:Nat}(h:l.length*n<=1000)(hn:n<=1000):Mk l (n:Int)= .ok (List.replicate n l).flatten:=by
 unfold Mk
 rw[Xj ⟨by omega,by omega,by rw[Int.toNat_natCast];exact sz (by omega)⟩,Int.toNat_natCast]
theorem Hn {M:Type}{l m:List M}(h:l.length+m.length<=1000):NW l m= .ok (l++m):=Xj (sz (by omega))
def zs:List Int:=[7,3,3,3,2,2,2,2,4,2,60,60,4,4,4,2,60,60,4,4,4,2,60,60,4,4,4,2,60,60,4,4,4,2,60,60,4,4,4,2,60,60,4,4,3]
theorem zs9:∀k:Nat,k<6->zs[6*k+9]?=some 2:=by decide
theorem emd {y:Int}{n:Nat}(h:0<n):∃j:Nat,y % (n:Int)=(j:Int)/\j<n:=by
 have h1:=Int.emod_nonneg y (show(n:Int)≠0 by omega)
 have h2:=Int.emod_lt_of_pos y (show(0:Int)<n by omega)
 exact⟨(y % (n:Int)).toNat,by omega,by omega⟩
theorem RP (i:Nat):pm (nm (i+1))=pm (nm i)++[(i:Int)+1,-(i:Int)-1]:=by
 unfold pm nm
 rw[List.range_succ,List.map_append,List.flatMap_append]
 congr 1
 show[(i:Int)+1,-((i:Int)+1)]=_
 congr 2
 omega
theorem PK (i:Nat):(pm (nm i)).length=2*i:=by
 unfold pm
 rw[Jy,O8]
theorem E1 (ns:List Int){p:Int}(hp:0<=p):Ok (Fe ns p) λd=>Dr 0 d.1 d.2:=by
 unfold Fe Bq;dsimp only
 simp only[Rs.okb]
 rw[Xj (sz (by simp)),Rs.okb,Xj (sz (by simp)),Rs.okb,show Mk [(2:Int)] 4= .ok [2,2,2,2] from MN (n:=4) (by simp) (by omega),Rs.okb,Hn (by simp),Rs.okb,Xj (sz (by simp)),Rs.okb,show Mk [(4:Int),2,60,60,4,4] 6=_ from MN (n:=6) (by simp) (by omega),Rs.okb,Hn (by simp),Rs.okb,Xj (sz (by simp)),Rs.okb,Hn (by simp),Rs.okb]
 obtain⟨r,er,rl,hr⟩:=Hh ns hp zs (by decide) (by decide)
 rw[show([(7:Int),3,3,3]++[2,2,2,2]++(List.replicate 6 [(4:Int),2,60,60,4,4]).flatten++[3])=zs from rfl,er,Xn,Rs.okb]
 have rl:r.length=45:=rl
 have hb:∀(i:Nat) (h:i<45) (s:Int),zs[i]?=some s->0<=r[i]/\r[i]<s:=λi h s e=>hr i r[i] s (by simp[rl,h]) e
 obtain⟨b0,c0⟩:=hb 0 (by omega) 7 rfl
 obtain⟨b3,c3⟩:=hb 3 (by omega) 3 rfl
 rw[Ys (r:=r) (k:=3) (n:=3) rfl (by omega),Ys (r:=r) (k:=0) (n:=0) rfl (by omega),Ys (r:=r) (k:=1) (n:=1) rfl (by omega),Ys (r:=r) (k:=2) (n:=2) rfl (by omega)]
 simp only[Rs.okb]
 obtain⟨m,em⟩:∃m:Nat,r[0]=(m:Int):=⟨r[0].toNat,by omega⟩
 obtain⟨S,eS⟩:∃S:Nat,(2:Int)+r[3]=(S:Int):=⟨(2+r[3]).toNat,by omega⟩
 rw[em,eS,Y3 (by omega),Rs.okb]
 refine Ok.bind (Ok.forN (λi (g:List Int×List Int×List Int)=>g.1.length=i/\g.2.1.length=i/\g.2.2=pm (nm i)/\(∀x∈g.1,0<=x/\x+1<(S:Int))/\(∀x∈g.2.1,x=1∨x= -1)) ⟨rfl,rfl,rfl,λx hx=>(by cases hx),λx hx=>(by cases hx)⟩ λi a g ha hg=>?_) λg hg=>?_
 ·obtain⟨rfl,hi⟩:=X9 ha
  obtain⟨g1,g2,g3,g4,g5⟩:=hg
  have g3l:=PK i
  rw[ZB (by decide) (by decide)]
  simp only[Rs.okb]
  rw[Ys (r:=r) (n:=6*i+8) (by omega) (by omega)]
  simp only[Rs.okb]
  rw[Ys (r:=r) (n:=6*i+9) (by omega) (by omega)]
  simp only[Rs.okb]
  obtain⟨d0,d1⟩:=hb (6*i+9) (by omega) 2 (zs9 i (by omega))
  obtain⟨j,ej,hj⟩:=emd (y:=r[6*i+8]) (n:=S-1) (by omega)
  rw[show((S-1:Nat):Int)=(S:Int)-1 by omega] at ej
  rw[Yy (by omega),Rs.okb,ej,ZB (by decide) (by decide)]
  simp only[Rs.okb]
  rw[Xj (FG (by omega)),Xj (FG (by omega)),Xj (sz (by simp)),Rs.okb,Xj (sz (by rw[g3];simp;omega))]
  refine⟨_,rfl,by simp[g1],by simp[g2],by rw[g3,RP],λx hx=>?_,λx hx=>?_⟩
  ·rcases List.mem_append.mp hx with z |z
   ·exact g4 x z
   ·rw[List.mem_singleton.mp z];omega
  ·rcases List.mem_append.mp hx with z |z
   ·exact g5 x z
   ·rw[List.mem_singleton.mp z];omega
 rw[X1] at hg
 obtain⟨g1,g2,g3,g4,g5⟩:=hg
 refine Ok.bind (R:=λl:List Int=>l.length=m/\∀x∈l,0<=x/\x+1<(S:Int)) ?_ λl hl=>?_
 ·rw[L6 (c:=decide ((2:Int)<(S:Int))) λ_=>rfl,Rs.okb]
  refine Ok.ite (λhb=>?_) λ_=>⟨_,rfl,g1,g4⟩
  have h3:(2:Int)<(S:Int):=by
   simp only[Bool.and_eq_true,decide_eq_true_eq] at hb
   exact hb.2
  obtain⟨y1,y2,y3⟩:=qe (l:=g.1) (by omega)
  rw[Xj (sz (by simp)),Rs.okb,Rs.okb,Xj (sz (by omega))]
  refine⟨_,rfl,by omega,λx hx=>?_⟩
  rcases y3 x hx with z |z
  ·exact g4 x z
  ·omega
 obtain⟨ws,ew,hw⟩:=L1 hl.1 g2 (by omega) (by omega) (by omega) hl.2 g5
 rw[ew,Xn,Rs.okb]
 obtain⟨b44,c44⟩:=hb 44 (by omega) 3 rfl
 have e44:atR r (-1)= .ok r[44]:=Sw (n:=44) rl
 refine Ok.bind (R:=WkP m) ?_ λvs hv=>(Cu hv g2 g5 (by omega) (by omega) ⟨r[44],b44,c44,e44⟩).noE
 refine Ok.ite (λ_=>?_) λ_=>⟨_,rfl,hw⟩
 rw[Y3 (by omega),Rs.okb,Q0 (h:=λ_=>([]:List Int)) (sz (by simp;omega)) λ_ _=>rfl]
 simp only[Rs.okb]
 rw[ZB (by decide) (by decide),Rs.okb,show(2:Int)*(m:Int)=((2*m:Nat):Int) by omega,Y3 (by omega)]
 simp only[Rs.okb]
 refine Ok.bind (Ok.forN (λi (g:List Int×QLs)=>g.2.length=S/\g.1.length+i=2*m/\(∀w∈g.2,w.length<=i)/\(g.2.flatten++g.1).Perm (pm (nm m))) ⟨by simp,by show g.2.2.length+0=_;rw[g3,PK];rfl,λw hw=>?_,?_⟩ λi a g ha hg=>?_) λg hg=>?_
 ·obtain⟨_,_,rfl⟩:=List.mem_map.mp hw
  exact Nat.zero_le _
 ·have:∀l:List Int,(l.map λ_=>([]:List Int)).flatten=[]:=λl=>by simp
  rw[this,g3];exact List.Perm.refl _
 ·obtain⟨rfl,hi⟩:=X9 ha
  obtain⟨h1,h2,h3,h4⟩:=hg
  rw[MF (by decide) (by decide),Rs.okb,ZB (by decide) (by decide),Rs.okb,Yy (by decide)]
  simp only[Rs.okb]
  rw[Ys (r:=r) (n:=6*(i/2)+i % 2+10) (by omega) (by omega),Ys (r:=r) (n:=6*(i/2)+i % 2+12) (by omega) (by omega)]
  simp only[Rs.okb]
  obtain⟨j,ej,hj⟩:=emd (y:=r[6*(i/2)+i % 2+10]) (n:=g.1.length) (by omega)
  obtain⟨q,eq,hq⟩:=emd (y:=r[6*(i/2)+i % 2+12]) (n:=S) (by omega)
  rw[Yy (by omega),Rs.okb,ej,W8 hj (by omega),Rs.okb,Yy (by omega),Rs.okb,eq]
  have hq:q<g.2.length:=by omega
  have hw:=h3 g.2[q] (List.getElem_mem hq)
  rw[Ys (n:=q) rfl hq,Rs.okb,Xj (FG (by omega)),ZK hq,Rs.okb]
  have hjs:g.1[j]?=some g.1[j]:=by simp[hj]
  have hqs:g.2[q]?=some g.2[q]:=by simp[hq]
  refine⟨_,rfl,by simp[h1],?_,λw hw'=>?_,(L4 hqs hjs).trans h4⟩
  ·have:=DA hjs
   show(g.1.eraseIdx j).length+(i+1)=_
   omega
  ·rcases mem_set hw' with h |h
   ·have:=h3 w h;omega
   ·rw[h];simp;omega
 ·obtain⟨h1,h2,h3,h4⟩:=hg
  rw[X1] at h2
  have:g.1=[]:=List.length_eq_zero_iff.mp (by omega)
  rw[this,List.append_nil] at h4
  exact⟨_,rfl,by omega,by omega,h4⟩
section
variable {n:Nat}{ws:QLs}{sg:QPs}
structure Sm (x0 x1 x2 x3 x4 x5 x6 x7 x8:Int):Prop where
 h1:0<=x1/\x1<41
 h4:0<=x4/\x4<60
 h5:0<=x5/\x5<60
 h6:x6=0∨x6=1
 h7:x7=0∨x7=1
variable {x0 x1 x2 x3 x4 x5 x6 x7 x8:Int}
theorem Ai {y:Int}:∃j:Nat,y % 4=(j:Int)/\∃f,atR [(1:Int),1,10^(9:Int).toNat,10^(40:Int).toNat] (j:Int)= .ok f/\1<=f:=by
 obtain⟨j,e,h⟩:=emd (y:=y) (n:=4) (by omega)
 refine⟨j,e,?_⟩
 rcases(show j=0∨j=1∨j=2∨j=3 by omega) with rfl |rfl |rfl |rfl
 ·exact⟨1,ar0,by decide⟩
 ·exact⟨1,ar1,by decide⟩
 ·exact⟨_,ar2,by decide⟩
 ·exact⟨_,ar3,by decide⟩
theorem Nm (d:Dr n ws sg)(h:Sm x0 x1 x2 x3 x4 x5 x6 x7 x8):Ok (Cj (ws,sg) [x0,x1,x2,x3,x4,x5,x6,x7,x8]) λm=>∃ (i k:Nat) (c:Int) (o:Bool) (s:Int),m=Iw i k c o s/\i<ws.length/\k<=(gw ws i).length/\c∉kys sg/\1<=c/\(s=1∨s= -1):=by
 unfold Cj IT;dsimp only
 simp only[Rs.okb,ar0,ar1,ar4,ar6,ar7,ar8]
 obtain⟨i,ei,hi⟩:=emd (y:=x0) (n:=ws.length) (by have:=d.ne;omega)
 rw[Yy (by have:=d.ne;omega),Rs.okb,ei,DE hi]
 simp only[Rs.okb]
 obtain⟨k,ek,hk⟩:=emd (y:=x1) (n:=(gw ws i).length+1) (by omega)
 rw[Yy (by omega),Rs.okb,show((gw ws i).length:Int)+1=(((gw ws i).length+1:Nat):Int) by omega,ek]
 rw[Gx (by decide) (by decide) (by decide) (by decide),Gx (by decide) (by decide) (by decide) (by decide)]
 simp only[Rs.okb]
 obtain⟨j,ej,f,ef,hf⟩:=Ai (y:=x8)
 rw[Xj (sz (by simp)),Rs.okb,Yy (by decide),Rs.okb,ej,ef,Rs.okb]
 have h4:=h.h4
 rw[ZB (by omega) (by omega)]
 simp only[Rs.okb,d.gs.dict]
 obtain⟨c,ec,hc,eM⟩:=WA (d:=sg) (n:=1+x4*f)
 rw[ec,Xn,Rs.okb]
 rw[Xj (sz (by simp)),Rs.okb,ZB (by decide) (by decide)]
 simp only[Rs.okb]
 have e6:∃o:Bool,atR [("under":Str),"over"] x6= .ok (ovw o):=by
  rcases h.h6 with z |z
  ·rw[z];exact⟨false,ar0⟩
  ·rw[z];exact⟨true,ar1⟩
 obtain⟨o,eo⟩:=e6
 rw[eo]
 simp only[Rs.okb]
 rw[Xj (sz (by simp))]
 have:=Int.mul_nonneg h4.1 (show 0<=f by omega)
 exact⟨_,rfl,i,k,c,o,2*x7-1,rfl,hi,by omega,eM,by omega,by rcases h.h7 with z |z<;> omega⟩
end
theorem Sg.ext {l m:QPs}(h:Sg l)(h':Sg m)(e:∀x,x∈l↔x∈m):l=m:=by
 have:=GO Dd (B5 h'.kn) ((List.perm_ext_iff_of_nodup (B5 h.kn) (B5 h'.kn)).mpr e) h.rise
 rw[h'.sort] at this
 exact this
section
variable {n:Nat}{ws:QLs}{sg:QPs}
theorem Ak {x:Int×Int}{c:Int}(hx:x∈sg)(hc:c∉kys sg):x.1≠c:=λe=>hc (e▸List.mem_map_of_mem hx)
theorem TH {l:QPs}{c:Int}{x:Int×Int}:x∈Ff l c↔x∈l/\x.1≠c:=by unfold Ff;simp
theorem RE (h:Sg sg){c s:Int}(hc:c∉kys sg)(h1:1<=c):Ff (sgC sg c s) c=sg:=by
 refine Sg.ext ((LM h hc h1).2.2.del c) h λx=>?_
 rw[TH]
 unfold sgC
 rw[Hu,List.mem_append,List.mem_singleton]
 constructor
 ·rintro⟨z |rfl,y⟩
  ·exact z
  ·exact absurd rfl y
 ·exact λz=>⟨.inl z,Ak z hc⟩
theorem Tl (d:Dr n ws sg)(hn:n<=4){i k:Nat}{c s:Int}{o:Bool}(hi:i<ws.length)(hk:k<=(gw ws i).length)(hc:c∉kys sg)(h1:1<=c)(hs:s=1∨s= -1):HI (Nx ws i k (prc c o),sgC sg c s) [.s "uncurl", .i i, .i k]= .ok (ws,sg):=by
 have d':=d.curl (o:=o) hn hi hk hc h1 hs
 obtain⟨x,hx,kX⟩:∃x,prc c o=[x,-x]/\(x.natAbs:Int)=c:=by
  cases o with
  |true=>exact⟨c,rfl,by omega⟩
  |false=>exact⟨-c,by simp[prc],by omega⟩
 have hg:=W2 (a:=x) (b:=-x) hk
 rw[←hx, ←IF hi] at hg
 have ec:Ay (Nx ws i k (prc c o)) i k=ws:=by
  unfold Ay
  rw[IF hi,hx,Rl hk]
  unfold Nx
  rw[List.set_set,Pf hi]
 have go:=LP d' (by rw[FK];exact hi) hg.1 hg.2
 rwa [ec,kX,RE d.gs hc h1] at go
theorem jy {l:List Int}(h:l.length=9):∃x0 x1 x2 x3 x4 x5 x6 x7 x8,l=[x0,x1,x2,x3,x4,x5,x6,x7,x8]:=
 ⟨l[0],l[1],l[2],l[3],l[4],l[5],l[6],l[7],l[8],List.ext_getElem h λi h1 h2=>by
  rcases(show i=0∨i=1∨i=2∨i=3∨i=4∨i=5∨i=6∨i=7∨i=8 by omega) with rfl |rfl |rfl |rfl |rfl |rfl |rfl |rfl |rfl<;> rfl⟩
theorem AW (ns:List Int){p:Int}(hp:0<=p):∃x0 x1 x2 x3 x4 x5 x6 x7 x8,Fz ns p [12,41,12,41,60,60,2,2,60]= .ok [x0,x1,x2,x3,x4,x5,x6,x7,x8]/\Sm x0 x1 x2 x3 x4 x5 x6 x7 x8:=by
 obtain⟨r,er,rl,hr⟩:=Hh ns hp [12,41,12,41,60,60,2,2,60] (by decide) (by decide)
 obtain⟨x0,x1,x2,x3,x4,x5,x6,x7,x8,rfl⟩:=jy rl
 have h6:=hr 6 x6 2 rfl rfl
 have h7:=hr 7 x7 2 rfl rfl
 exact⟨x0,x1,x2,x3,x4,x5,x6,x7,x8,er,hr 1 x1 41 rfl rfl,hr 4 x4 60 rfl rfl,hr 5 x5 60 rfl rfl,by omega,by omega⟩
inductive Go:QDr->List (List Mx)->QDr->Prop
 |nil {D}:Go D [] D
 |cons {D D' D'' m ms} (h:HI D m= .ok D') (t:Go D' ms D''):Go D (m::ms) D''
theorem PQ.at2 {q:Q4}(h:PQ ws q):∃i k:Nat,q.1=(i:Int)/\q.2.1=(k:Int)/\At2 ws i k:=by
 obtain⟨i,k,h1,h2,h3,h4,h5⟩:=h.ex
 exact⟨i,k,h1,h2,h3,(List.getElem?_eq_some_iff.mp h5).1⟩
abbrev W4 (w:Str):Prop:=w= "turn" ∨w= "curl" ∨w= "uncurl" ∨w= "pass"
theorem SW (ns:List Int){p:Int}(hp:0<=p)(d:Dr n ws sg)(hn:n<=4){w:Str}(hw:W4 w):Ok (Ck ns p (ws,sg) w) λms=>ms.length<=2/\∃ig ii,Go (ws,sg) ms (ig,ii)/\Dr (n+1) ig ii:=by
 obtain⟨x0,x1,x2,x3,x4,x5,x6,x7,x8,er,h⟩:=AW ns hp
 have hc:Ok ((noE (Cj (ws,sg) [x0,x1,x2,x3,x4,x5,x6,x7,x8])).bind λic=>chk ([ic].length<=sizeLine) (Rs.ok [ic])) λms=>ms.length<=2/\∃ig ii,Go (ws,sg) ms (ig,ii)/\Dr (n+1) ig ii:=by
  refine Ok.bind (Nm d h).noE λm r9=>?_
  obtain⟨i,k,c,o,s,e,h1,h2,h3,h4,h5⟩:=r9
  subst e
  rw[Xj (sz (by simp))]
  exact⟨_,rfl,by simp,_,_, .cons (Mw d h1 h2 h3 h4) .nil,d.curl hn h1 h2 h3 h4 h5⟩
 unfold Ck Me;dsimp only
 simp only[Rs.okb]
 rw[Xj (sz (by simp)),Rs.okb,er,Xn,Rs.okb]
 rcases hw with rfl |rfl |rfl |rfl
 ·rw[Pg,okt]
  simp only[ar0,ar1,ar8,Rs.okb]
  rw[Gx (by decide) (by decide) (by decide) (by decide)]
  simp only[Rs.okb]
  obtain⟨i,ei,hi⟩:=emd (y:=x0) (n:=ws.length) (by have:=d.ne;omega)
  obtain⟨j,ej,hj⟩:=emd (y:=x8) (n:=3) (by omega)
  have e3:∃f,atR [(1:Int),1,10^(50:Int).toNat+7] (j:Int)= .ok f:=by
   rcases(show j=0∨j=1∨j=2 by omega) with rfl |rfl |rfl
   ·exact⟨_,ar0⟩
   ·exact⟨_,ar1⟩
   ·exact⟨_,ar2⟩
  obtain⟨f,ef⟩:=e3
  have h1:=h.h1
  rw[Xj (sz (by simp)),Rs.okb,Yy (by decide),Rs.okb,show x8 % 3=(j:Int) from ej,ef,Rs.okb,ZB (by omega) (by omega),Rs.okb,Yy (by have:=d.ne;omega),Rs.okb,ei]
  simp only[Rs.okb]
  rw[Xj (sz (by simp)),Rs.okb,Rs.okb,Xj (sz (by simp))]
  exact⟨_,rfl,by simp,_,_, .cons (R4 d hi) .nil,(d.turn hi).up hn⟩
 ·simp only[K4,KJ,Gm,Uy,VC,Bool.false_eq_true,if_false,Rs.okb,UZ,orF]
  exact hc
 ·simp only[VV,VO,UA,J8,EE,Bool.false_eq_true,if_false,if_true,Rs.okb,UZ,orF]
  refine Ok.bind (Nm d h).noE λm r9=>?_
  obtain⟨i,k,c,o,s,e,h1,h2,h3,h4,h5⟩:=r9
  subst e
  have e1:atR (Iw i k c o s) 1= .ok (.i i):=ar1
  have e2:atR (Iw i k c o s) 2= .ok (.i k):=ar2
  rw[e1,e2]
  simp only[Rs.okb,mxI]
  rw[Xj (sz (by simp)),Rs.okb,Xj (sz (by simp))]
  exact⟨_,rfl,by simp,_,_, .cons (Mw d h1 h2 h3 h4) (.cons (Tl d hn h1 h2 h3 h4 h5) .nil),d.up hn⟩
 ·simp only[K5,decide_true,Bool.false_eq_true,if_false,if_true,Gi,Uv,VG,orF,Rs.okb]
  obtain⟨l,el,hl⟩:=Io d
  rw[el,Xn,Rs.okb]
  cases l with
  |nil=>
   simp only[show decide ((0:Int)<(([]:List (List Mx)).length:Int))=false from rfl,Bool.false_eq_true,if_false,Rs.okb,UZ]
   exact hc
  |cons a t=>
   rw[show decide ((0:Int)<((a::t).length:Int))=true by simp,okt]
   obtain⟨u,eu,hu⟩:=emd (y:=x8) (n:=(a::t).length) (by simp)
   rw[ar8,Rs.okb,Yy (by simp),Rs.okb,eu,Ys (n:=u) rfl hu]
   simp only[Rs.okb]
   rw[Xj (sz (by simp)),Rs.okb,Rs.okb,Ga]
   obtain⟨p,q,r,em,hc⟩:=hl.2 _ (List.getElem_mem hu)
   obtain⟨i,k,a1,a2,a3⟩:=hc.hp.at2
   obtain⟨j,l,b1,b2,b3⟩:=hc.hq.at2
   obtain⟨u',v,c1,c2,c3⟩:=hc.hr.at2
   unfold Pu at em
   rw[a1,a2,b1,b2,c1,c2] at em
   rw[em]
   exact⟨_,rfl,by simp,_,_, .cons (SJ d a3 b3 c3) .nil,(d.pass a3 b3 c3).up hn⟩
theorem qh {D D':QDr}{ms:List (List Mx)}(h:Go D ms D'):∀{g:List (List Mx)},g.length+ms.length<=1000->forN ms (D,g) (λiF a53=>chk (iF.2.length<sizeLine) (Rs.bind (noE (HI iF.1 a53)) λkG=>Rs.ok (kG,iF.2++[a53])))= .ok (D',g++ms):=by
 induction h with
 |nil=>intro g _;rw[List.append_nil];rfl
 |cons h t ih=>
  intro g hg
  rw[List.length_cons] at hg
  unfold forN
  dsimp only
  rw[Xj (FG (by show g.length<=_;omega)),h,Xn,Rs.okb,Rs.okb]
  refine(ih (by rw[List.length_append];simp;omega)).trans ?_
  rw[List.append_assoc]
  rfl
theorem Dr.mono {m:Nat}(d:Dr n ws sg)(h:n<=m)(h5:m<=5):Dr m ws sg:=⟨h5,d.ne,d.lw,d.gs,by have:=d.ls;omega,d.pe,d.sn⟩
theorem Oi (ns:List Int)(d:Dr 0 ws sg){wds:List Str}(h0:0<wds.length)(hw:∀w∈wds,W4 w):Ok (G0 ns 1 (ws,sg) wds) λx=>Dr 5 x.1.1 x.1.2:=by
 unfold G0 B4;dsimp only
 simp only[Rs.okb]
 obtain⟨r,er,rl,hr⟩:=Hh ns (show(0:Int)<=1 by decide) [5,60,60,60,60] (by decide) (by decide)
 have rl:r.length=5:=rl
 rw[Xj (sz (by simp)),Rs.okb,Xj (sz (by simp)),Rs.okb,show Mk [(60:Int)] 4= .ok [60,60,60,60] from MN (n:=4) (by simp) (by omega),Rs.okb,Hn (by simp),Rs.okb,show Fz ns 1 ([5]++[60,60,60,60])=_ from er,Xn,Rs.okb,Ys (r:=r) (k:=0) (n:=0) rfl (by omega),Rs.okb]
 have b0:=hr 0 r[0] 5 (by simp[rl]) rfl
 obtain⟨m,em⟩:∃m:Nat,r[0]=(m:Int):=⟨r[0].toNat,by omega⟩
 rw[em,Y3 (by omega),Rs.okb]
 refine Ok.bind (Ok.forN (λi (g:QDr×List (List Mx))=>g.2.length<=2*i/\Dr i g.1.1 g.1.2) ⟨Nat.le_refl _,d⟩ λi a g ha hg=>?_) λg hg=>?_
 ·obtain⟨rfl,hi⟩:=X9 ha
  obtain⟨g1,g2⟩:=hg
  rw[Ys (r:=r) (n:=1+i) (by omega) (by omega),Rs.okb]
  obtain⟨u,eu,hu⟩:=emd (y:=r[1+i]) (n:=wds.length) h0
  rw[Yy (by omega),Rs.okb,eu,Ys (n:=u) rfl hu,Rs.okb]
  obtain⟨ms,e,h2,ig,ii,eW,d'⟩:=SW ns (p:=1+1+(i:Int)) (by omega) g2 (by omega) (hw _ (List.getElem_mem hu))
  rw[show Ck ns (1+1+(i:Int)) g.1 wds[u]=_ from e,Xn,Rs.okb]
  refine⟨((ig,ii),g.2++ms),?_,by show(g.2++ms).length<=_;rw[List.length_append];omega,d'⟩
  have:=qh eW (g:=g.2) (by omega)
  exact(congrArg (λz=>Rs.bind z λfC=>Rs.ok (fC.1,fC.2)) this).trans rfl
 ·rw[X1] at hg
  exact⟨_,rfl,hg.2.mono (by omega) (by omega)⟩
end
end My
namespace My
def Yw (w:List Int):Nat:=(w.filter λx=>decide (x<0)).length
def Q8 (w:List Int):Nat:=max (Yw w) 1
def Qi (w:List Int)(first:Int):List Int:=(List.range (max w.length 1)).map λk=>first+(Yw (w.take k):Int) % (Q8 w:Int)
def XT:QLs->Int->QLs
 | [],_=>[]
 |w::ws,f=>Qi w f::XT ws (f+Q8 w)
def XS (ws:QLs):Int:=(ws.map λw=>(Q8 w:Int)).sum
def BY (ws:QLs):Nat:=(ws.filter λw=>decide (Yw w=0)).length
theorem JL (a b:List Int):Yw (a++b)=Yw a+Yw b:=by unfold Yw;rw[List.filter_append,List.length_append]
theorem U9 {x:Int}(h:x<0):Yw [x]=1:=by simp[Yw,h]
theorem UV {x:Int}(h:¬x<0):Yw [x]=0:=by simp[Yw,h]
theorem Zp {w:List Int}{i:Nat}{x:Int}(h:w[i]?=some x):Yw (w.take (i+1))=Yw (w.take i)+Yw [x]:=by
 rw[List.take_add_one,h,JL];rfl
theorem UC (w:List Int)(i j:Nat)(h:i<=j):Yw (w.take i)<=Yw (w.take j):=by
 have e:w.take j=w.take i++(w.take j).drop i:=by
  conv=>lhs;rw[←List.take_append_drop i (w.take j)]
  rw[List.take_take,Nat.min_eq_left h]
 rw[e,JL];omega
theorem Tj (w:List Int)(i:Nat):Yw (w.take i)<=Yw w:=by
 by_cases h:i<=w.length
 ·have:=UC w i w.length h
  rw[List.take_length] at this;exact this
 ·rw[List.take_of_length_le (by omega)];exact Nat.le_refl _
theorem B9 (w:List Int):Yw w<=w.length:=List.length_filter_le _ _
theorem G7 (w:List Int):0<Q8 w:=by unfold Q8;omega
theorem ZE (w:List Int)(f:Int):(Qi w f).length=max w.length 1:=by simp[Qi]
theorem Gv (w:List Int)(f:Int){k:Nat}(h:k<max w.length 1):(Qi w f)[k]?=some (f+(Yw (w.take k):Int) % (Q8 w:Int)):=by
 unfold Qi
 rw[List.getElem?_map,List.getElem?_range h];rfl
theorem Yf:∀(ws:QLs) (f:Int),(XT ws f).length=ws.length
 | [],_=>rfl
 |_::ws,f=>by show(XT ws _).length+1=_;rw[Yf ws];rfl
theorem Q5 (w:List Int)(ws:QLs):XS (w::ws)=Q8 w+XS ws:=by simp[XS]
theorem Gn (a b:QLs):XS (a++b)=XS a+XS b:=by simp[XS,List.sum_append]
theorem HM (w:List Int):XS [w]=Q8 w:=by simp[XS]
theorem Ug:∀(a b:QLs) (f:Int),XT (a++b) f=XT a f++XT b (f+XS a)
 | [],b,f=>by simp[XT,XS]
 |w::a,b,f=>by
  show Qi w f::XT (a++b) (f+Q8 w)=Qi w f::(XT a (f+Q8 w)++XT b (f+XS (w::a)))
  rw[Ug a b,Q5,Int.add_assoc]
theorem Vp {ws:QLs}{i:Nat}{w:List Int}(h:ws[i]?=some w)(f:Int):XT (ws.take (i+1)) f=XT (ws.take i) f++[Qi w (f+XS (ws.take i))]:=by
 rw[List.take_add_one,h,Ug];rfl
theorem Vn {ws:QLs}{i:Nat}{w:List Int}(h:ws[i]?=some w):XS (ws.take (i+1))=XS (ws.take i)+Q8 w:=by
 rw[List.take_add_one,h,Gn]
 show _+XS [w]=_
 rw[HM]
theorem Uf {ws:QLs}{i:Nat}{w:List Int}(h:ws[i]?=some w)(f:Int):(XT ws f)[i]?=some (Qi w (f+XS (ws.take i))):=by
 have hl:i<ws.length:=(List.getElem?_eq_some_iff.mp h).1
 have e:ws=ws.take (i+1)++ws.drop (i+1):=(List.take_append_drop _ _).symm
 rw[e,Ug,Vp h,List.getElem?_append_left (by rw[List.length_append,Yf,List.length_take];simp;omega),
  List.getElem?_append_right (by rw[Yf,List.length_take];omega),Yf,List.length_take,Nat.min_eq_left (by omega),Nat.sub_self,List.take_append_of_le_length (by rw[List.length_take];omega),List.take_take,Nat.min_eq_left (by omega)]
 rfl
theorem UK:∀ws:QLs,XS ws=(Yw ws.flatten:Int)+(BY ws:Int)
 | []=>rfl
 |w::ws=>by
  rw[Q5,UK ws,List.flatten_cons,JL]
  unfold BY
  rw[List.filter_cons]
  by_cases h:Yw w=0
  ·simp[h,Q8];omega
  ·simp[h,Q8];omega
theorem MC {a b:List Int}(h:a.Perm b):Yw a=Yw b:=(h.filter _).length_eq
theorem No:∀{xs:List Int},(∀x∈xs,1<=x)->Yw (xs.flatMap λx=>[x,-x])=xs.length
 | [],_=>rfl
 |x::xs,h=>by
  have hx:=h x List.mem_cons_self
  rw[List.flatMap_cons,JL,No λy hy=>h y (List.mem_cons_of_mem _ hy)]
  have e:Yw [x,-x]=1:=by
   show Yw ([x]++[-x])=1
   rw[JL,UV (by omega),U9 (by omega)]
  rw[e,List.length_cons];omega
structure LastIs (w:List Int)(i:Nat)(ak:Int):Prop where
 lo: -1<=ak
 hi:ak<(i:Int)
 none:∀j:Nat,ak<(j:Int)->j<i->∀x,w[j]?=some x->¬x<0
 at':0<=ak->∃x,w[ak.toNat]?=some x/\x<0
theorem LastIs.zero (w:List Int):LastIs w 0 (-1):=⟨by omega,by omega,λj _ h=>by omega,λh=>by omega⟩
theorem LastIs.neg {w:List Int}{i:Nat}{x:Int}(e:w[i]?=some x)(hx:x<0):LastIs w (i+1) (i:Int):=
 ⟨by omega,by omega,λj h1 h2=>by omega,λ_=>⟨x,by simpa using e,hx⟩⟩
theorem LastIs.pos {w:List Int}{i:Nat}{x ak:Int}(h:LastIs w i ak)(e:w[i]?=some x)(hx:¬x<0):LastIs w (i+1) ak:=by
 have:=h.hi
 refine⟨h.lo,by omega,λj h1 h2 y hy=>?_,h.at'⟩
 by_cases hj:j=i
 ·subst hj;rw[e] at hy;cases hy;exact hx
 ·exact h.none j h1 (by omega) y hy
theorem Vi {w:List Int}{ak:Int}(h:LastIs w w.length ak):∀j:Nat,ak<(j:Int)->Yw (w.take j)=Yw w:=by
 intro j hj
 have bw:∀d:Nat,Yw (w.take (j+d))=Yw (w.take j):=λd=>by
  induction d with
  |zero=>rfl
  |succ d ih=>
   cases e:w[j+d]? with
   |none=>
    have:=List.getElem?_eq_none_iff.mp e
    rw[←ih,List.take_of_length_le (by omega),List.take_of_length_le (by omega)]
   |some x=>
    have hl:=(List.getElem?_eq_some_iff.mp e).1
    show Yw (w.take ((j+d)+1))=_
    rw[Zp e,ih,UV (h.none (j+d) (by omega) hl x e)];rfl
 by_cases hl:j<=w.length
 ·rw[←bw (w.length-j),show j+(w.length-j)=w.length by omega,List.take_length]
 ·rw[List.take_of_length_le (by omega)]
theorem Cd {w:List Int}{ak:Int}(h:LastIs w w.length ak)(h0:0<=ak):Yw (w.take ak.toNat)+1=Yw w:=by
 obtain⟨x,e,hx⟩:=h.at' h0
 have:=Zp e
 rw[U9 hx] at this
 rw[←this,Vi h (ak.toNat+1) (by omega)]
theorem Mh {w:List Int}{ak:Int}(h:LastIs w w.length ak)(h0:¬0<=ak):Yw w=0:=by
 have:=h.lo
 rw[←Vi h 0 (by omega)];simp[Yw]
theorem IL {w:List Int}{ak f:Int}(h:LastIs w w.length ak){j:Nat}(hj:(j:Int)<=ak):f+(Yw (w.take j):Int) % (Q8 w:Int)=f+(Yw (w.take j):Int):=by
 have h0:0<=ak:=by omega
 have h1:=Cd h h0
 have h2:=UC w j ak.toNat (by omega)
 rw[Int.emod_eq_of_lt (by omega) (by unfold Q8;omega)]
theorem OB {w:List Int}{ak f:Int}(h:LastIs w w.length ak){j:Nat}(hj:ak<(j:Int)):f+(Yw (w.take j):Int) % (Q8 w:Int)=f:=by
 rw[Vi h j hj]
 by_cases e:Yw w=0
 ·rw[e];simp
 ·have:(Q8 w:Int)=(Yw w:Int):=by unfold Q8;omega
  rw[this,Int.emod_self];omega
theorem LL {w:List Int}{ak:Int}(h:LastIs w w.length ak):(Yw (w.take ak.toNat):Int)+1=(Q8 w:Int):=by
 by_cases h0:0<=ak
 ·have:=Cd h h0
  unfold Q8;omega
 ·have e:=Mh h h0
  have:=Tj w ak.toNat
  unfold Q8;omega
end My
namespace My
structure Spot (ws:QLs)(x:Int)(i j:Nat)(w:List Int):Prop where
 wi:ws[i]?=some w
 xj:w[j]?=some x
 first:∀m:Nat,m<j->w[m]?≠some x
 none:∀(i':Nat) (w':List Int),i'<i->ws[i']?=some w'->x∉w'
theorem Spot.row {ws:QLs}{x:Int}{i j:Nat}{w:List Int}(h:Spot ws x i j w):∃r,(XT ws 0)[i]?=some r/\r.length=w.length/\j<w.length:=by
 have hj:=(List.getElem?_eq_some_iff.mp h.xj).1
 exact⟨_,Uf h.wi 0,by rw[ZE];omega,hj⟩
theorem Hl:∀{w:List Int}{x:Int},x∈w->∃j:Nat,w[j]?=some x/\∀m:Nat,m<j->w[m]?≠some x
 | [],x,h=>by simp at h
 |y::t,x,h=>by
  by_cases e:y=x
  ·subst e
   exact⟨0,rfl,λm hm=>by omega⟩
  ·rcases List.mem_cons.mp h with z |z
   ·exact absurd z.symm e
   ·obtain⟨j,h1,h2⟩:=Hl z
    refine⟨j+1,by simpa using h1,λm hm=>?_⟩
    cases m with
    |zero=>simpa using e
    |succ m=>simpa using h2 m (by omega)
end My
namespace My
open PySem L2
section
variable {M L B ρ:Type}
theorem Ca {f:B->M->Rs (Ctl ρ B)}{g:B}{v:ρ}:∀{as:List M}{i:Nat}{a:M},as[i]?=some a->(∀(k:Nat) b,k<i->as[k]?=some b->f g b= .ok (.nx g))->f g a= .ok (.ret v)->C0 as g f= .ok (.ret v)
 | [],i,a,h,_,_=>by simp at h
 |b::as,0,a,h,_,hf=>by
  have:b=a:=by simpa using h
  subst this
  show(f g b).bind _=_
  rw[hf,Rs.okb]
 |b::as,i+1,a,h,hb,hf=>by
  show(f g b).bind _=_
  rw[hb 0 b (by omega) rfl,Rs.okb]
  exact Ca (i:=i) (by simpa using h) (λk c hk hc=>hb (k+1) c (by omega) (by simpa using hc)) hf
theorem NJ {as:List M}{i:Nat}{a:M}(h:as[i]?=some a):(Ej as)[i]?=some ((i:Int),a):=by
 have hi:=(List.getElem?_eq_some_iff.mp h).1
 unfold Ej
 rw[List.getElem?_zip_eq_some]
 exact⟨by rw[List.getElem?_map,List.getElem?_range hi];rfl,h⟩
theorem LX {w:List Int}{x:Int}{j:Nat}(h:w[j]?=some x)(hf:∀m:Nat,m<j->w[m]?≠some x):Oe w x= .ok (j:Int):=by
 obtain⟨hj,e⟩:=List.getElem?_eq_some_iff.mp h
 have:w.findIdx? (λb=>decide (b=x))=some j:=by
  rw[List.findIdx?_eq_some_iff_getElem]
  refine⟨hj,by simp[e],λm hm=>?_⟩
  have hml:m<w.length:=by omega
  have:=hf m hm
  rw[List.getElem?_eq_getElem hml] at this
  simpa using this
 unfold Oe
 rw[this]
theorem Iu {N k:Nat}{F G:Nat->M}{v:M}(hk:k<N)(hv:G k=v)(h:∀j,j<N->j≠k->F j=G j):((List.range N).map F).set k v=(List.range N).map G:=by
 refine List.ext_getElem (by simp) λj h1 h2=>?_
 have hj:j<N:=by simpa using h1
 rw[List.getElem_set]
 by_cases e:k=j
 ·subst e;rw[if_pos rfl];simp[hv]
 ·rw[if_neg e];simp[h j hj (λz=>e z.symm)]
theorem ON (w:List M):Gb w none (some (-1))=w.take (w.length-1):=by
 unfold Gb
 rw[HT.sIx_none]
 have:HT.sIx w.length w.length (some (-1))=w.length-1:=by
  unfold HT.sIx
  simp
  omega
 rw[this];simp
end
theorem ZR {w:List Int}(hl:w.length<=1000):YB w= .ok (Q8 w:Int):=by
 unfold YB Qp;dsimp only
 simp only[Rs.okb]
 rw[FV (p:=λx=>decide (x<0)) (h:=λx=>x) (sz (by omega)) (λ_ _=>rfl) λ_ _ _=>rfl,Rs.okb,List.map_id']
 congr 1
 show max ((Yw w:Nat):Int) 1=((max (Yw w) 1:Nat):Int)
 omega
theorem Ky {w:List Int}{f:Int}(hl:w.length<=1000):Zr w f= .ok (Qi w f):=by
 unfold Zr Qn;dsimp only
 simp only[Rs.okb]
 rw[ZR hl,Xn]
 simp only[Rs.okb]
 rw[Xj (sz (by simp)),ON]
 simp only[Rs.okb]
 apply Ok.eq
 refine Ok.bind (Ok.forN (λi (g:Int×List Int)=>g=((Yw (w.take i):Int),(List.range (i+1)).map λk=>f+(Yw (w.take k):Int) % (Q8 w:Int))) ?_ λi a g ha hg=>?_) λg hg=>?_
 ·simp[Yw]
 ·have hi:=(List.getElem?_eq_some_iff.mp ha).1
  rw[List.length_take] at hi
  have ha':w[i]?=some a:=by
   rw[List.getElem?_take_of_lt (by omega)] at ha
   exact ha
  subst hg
  have hn:=Zp ha'
  have hp:=G7 w
  have ae:((List.range (i+1)).map λk=>f+(Yw (w.take k):Int) % (Q8 w:Int)).length<sizeLine:=FG (by simp;omega)
  refine Ok.bind (R:=λu=>u=(Yw (w.take (i+1)):Int)) (Ok.ite (λc=>⟨_,rfl,?_⟩) λc=>⟨_,rfl,?_⟩) λu hu=>?_
  ·rw[hn,U9 (of_decide_eq_true c)]
   show(Yw (w.take i):Int)+1=_
   omega
  ·rw[hn,UV (of_decide_eq_false c)]
   show(Yw (w.take i):Int)=_
   omega
  ·subst hu
   rw[Yy (by omega),Rs.okb,Rs.okb,Xj ae]
   refine⟨_,rfl,?_⟩
   rw[List.range_succ (n:=i+1),List.map_append];rfl
 ·subst hg
  refine⟨_,rfl,?_⟩
  rw[List.length_take,show min (w.length-1) w.length+1=max w.length 1 by omega]
  rfl
theorem RB {D:QDr}(hd:D.1.length<=1000)(hw:∀w∈D.1,w.length<=1000):Ep D= .ok (XT D.1 0):=by
 unfold Ep LD;dsimp only
 simp only[Rs.okb]
 apply Ok.eq
 refine Ok.bind (Ok.forN (λi (g:Int×QLs)=>g=(XS (D.1.take i),XT (D.1.take i) 0)) rfl λi a g ha hg=>?_) λg hg=>?_
 ·have hi:=(List.getElem?_eq_some_iff.mp ha).1
  subst hg
  have hal:=hw a (List.mem_of_getElem? ha)
  rw[Ky hal,Xn,Rs.okb,ZR hal,Xn]
  rw[Xj (FG (by rw[Yf,List.length_take];omega))]
  simp only[Rs.okb]
  refine⟨_,rfl,?_⟩
  rw[Vp ha,Vn ha,Int.zero_add]
 ·subst hg
  rw[List.take_length]
  exact⟨_,rfl,rfl⟩
theorem Ux {D:QDr}(hd:D.1.length<=1000)(hw:∀w∈D.1,w.length<=1000):ZS D= .ok (XS D.1):=by
 unfold ZS Va;dsimp only
 simp only[Rs.okb]
 rw[Q0 (h:=λw=>(Q8 w:Int)) (sz (by omega)) λw h=>by rw[ZR (hw w h),Xn],Rs.okb]
 rfl
theorem I0 {D:QDr}{x:Int}{i j:Nat}{w:List Int}(h:Spot D.1 x i j w):EK D x= .ok ((i:Int),(j:Int)):=by
 unfold EK MZ;dsimp only
 simp only[Rs.okb]
 rw[Ca (v:=((i:Int),(j:Int))) (NJ h.wi) (λk b hk hb=>?_) ?_]
 ·rw[Rs.okb,Ga]
 ·rw[if_pos (decide_eq_true (List.mem_of_getElem? h.xj)),LX h.xj h.first]
  simp only[Rs.okb]
 ·obtain⟨_,h2⟩:=DT hb
  rw[if_neg]
  rw[decide_eq_true_eq]
  exact h.none k b.2 hk h2
def MG (N:Int)(m:Int×Int×Int×Int×Int):Prop:=(m.2.1=1∨m.2.1= -1)/\(0<=m.2.2.1/\m.2.2.1<N)/\(0<=m.2.2.2.1/\m.2.2.2.1<N)/\(0<=m.2.2.2.2/\m.2.2.2.2<N)
theorem Dj {M B ρ:Type}{F:B->M->Rs (Ctl ρ B)}{p:M->Bool}{v:ρ}{g:B}:∀{as:List M},(∀a∈as,F g a= .ok (if p a=true then .ret v else .nx g))->C0 as g F= .ok (if as.any p=true then .ret v else .nx g)
 | [],_=>rfl
 |a::as,h=>by
  show(F g a).bind _=_
  rw[h a (by simp),Rs.okb,List.any_cons]
  cases hp:p a with
  |true=>rw[if_pos rfl];rfl
  |false=>
   rw[if_neg Bool.false_ne_true,Bool.false_or]
   exact Dj λb hb=>h b (by simp[hb])
def EV (f:Nat->Nat->Nat)(cn:Int->Nat)(m:Int×Int×Int×Int×Int):Bool:=if m.2.1=1 then decide ((f (cn m.2.2.2.1) (cn m.2.2.1):Int)=cn m.2.2.2.2) else decide ((f (cn m.2.2.2.2) (cn m.2.2.1):Int)=cn m.2.2.2.1)
section
variable {n:Nat}{f:Nat->Nat->Nat}{c:List Int}{cn:Int->Nat}{N:Int}
theorem NG {ms:List (Int×Int×Int×Int×Int)}(hc:∀k,0<=k->k<N->atR c k= .ok (cn k:Int)/\cn k<n)(hm:∀m∈ms,MG N m):Fj ms (JV n f) c= .ok (ms.all (EV f cn)):=by
 unfold Fj Bl;dsimp only
 simp only[Rs.okb]
 rw[Dj (p:=λm=>!(EV f cn m)) (v:=false) λm h=>?_]
 ·rw[Rs.okb]
  have e:ms.any (λm=>!(EV f cn m))=!ms.all (EV f cn):=by
   rw[List.not_all_eq_any_not]
  rw[e]
  cases ms.all (EV f cn) with
  |true=>rw[show(!true)=false from rfl,if_neg Bool.false_ne_true,UZ]
  |false=>rw[show(!false)=true from rfl,if_pos rfl,Ga]
 ·obtain⟨s,⟨o0,o1⟩,⟨a0,a1⟩,b0,b1⟩:=hm m h
  rw[(hc _ a0 a1).1,(hc _ b0 b1).1]
  simp only[Rs.okb]
  unfold EV
  rcases s with s |s
  ·rw[if_neg (show ¬decide (m.2.1<0)=true by rw[decide_eq_true_eq];omega),if_pos s]
   simp only[Rs.okb]
   rw[Mq (hc _ a0 a1).2]
   simp only[Rs.okb]
   rw[(hc _ o0 o1).1]
   simp only[Rs.okb]
   rw[MQ (hc _ o0 o1).2]
   simp only[Rs.okb]
   cases(!decide ((f (cn m.2.2.2.1) (cn m.2.2.1):Int)=cn m.2.2.2.2))<;> rfl
  ·rw[if_pos (decide_eq_true (show m.2.1<0 by omega)),if_neg (show ¬m.2.1=1 by omega)]
   simp only[Rs.okb]
   rw[Mq (hc _ b0 b1).2]
   simp only[Rs.okb]
   rw[(hc _ o0 o1).1]
   simp only[Rs.okb]
   rw[MQ (hc _ o0 o1).2]
   simp only[Rs.okb]
   cases(!decide ((f (cn m.2.2.2.2) (cn m.2.2.1):Int)=cn m.2.2.2.1))<;> rfl
def Vz (m:Int×Int×Int×Int×Int):Int×Int×Int:=if m.2.1=1 then(m.2.2.2.1,m.2.2.1,m.2.2.2.2) else(m.2.2.2.2,m.2.2.1,m.2.2.2.1)
theorem S9 {D:QDr}{ms:List (Int×Int×Int×Int×Int)}(h:Up D= .ok ms)(hl:ms.length<=1000):Es D= .ok (ms.map Vz):=by
 unfold Es Lu;dsimp only
 simp only[Rs.okb]
 rw[h,Xn]
 simp only[Rs.okb]
 rw[VH (h:=Vz) (sz (by simp;omega)) λg hg e he=>?_]
 ·rw[Rs.okb,List.nil_append]
 ·unfold Vz
  by_cases s:e.2.1=1
  ·rw[if_pos (decide_eq_true s),if_pos s]
   simp only[Rs.okb]
   exact Xj hg
  ·rw[if_neg (by rw[decide_eq_true_eq];exact s),if_neg s]
   simp only[Rs.okb]
   exact Xj hg
theorem By {ms:List (Int×Int×Int×Int×Int)}(hl:ms.length<=1000)(hc:∀k,0<=k->k<N->atR c k= .ok (cn k:Int)/\cn k<n)(hm:∀m∈ms,MG N m):JK (JV n f) c (ms.map Vz)= .ok (ms.all (EV f cn)):=by
 unfold JK V8;dsimp only
 simp only[Rs.okb]
 rw[Q0 (h:=λt:Int×Int×Int=>decide ((f (cn t.1) (cn t.2.1):Int)=cn t.2.2)) (sz (by simp;omega)) λt ht=>?_]
 ·rw[Rs.okb,List.map_map]
  congr 1
  rw[List.all_map]
  refine congrArg (λF=>ms.all F) (funext λm=>?_)
  show decide _=EV f cn m
  unfold EV Vz
  by_cases s:m.2.1=1
  ·simp only[if_pos s]
  ·simp only[if_neg s]
 ·obtain⟨m,h,rfl⟩:=List.mem_map.mp ht
  obtain⟨s,⟨o0,o1⟩,⟨a0,a1⟩,b0,b1⟩:=hm m h
  have bw:∀x y z:Int,0<=x->x<N->0<=y->y<N->0<=z->z<N->((((atR c x).bind λx9=>atR (JV n f) x9).bind λbV=>(atR c y).bind λaM=>atR bV aM).bind λaA=>(atR c z).bind λeG=>(Rs.ok (decide (aA=eG)):Rs Bool))= .ok (decide ((f (cn x) (cn y):Int)=cn z)):=λx y z x0 x1 y0 y1 z0 z1=>by
   rw[(hc x x0 x1).1,(hc y y0 y1).1,(hc z z0 z1).1]
   simp only[Rs.okb]
   rw[Mq (hc x x0 x1).2]
   simp only[Rs.okb]
   rw[MQ (hc y y0 y1).2]
   simp only[Rs.okb]
  unfold Vz
  by_cases s:m.2.1=1
  ·rw[if_pos s];exact bw _ _ _ a0 a1 o0 o1 b0 b1
  ·rw[if_neg s];exact bw _ _ _ b0 b1 o0 o1 a0 a1
end
theorem S8 {c:List Int}{n:Nat}{N:Int}(hN:(c.length:Int)=N)(hc:∀x∈c,0<=x/\x<(n:Int)):∀k,0<=k->k<N->atR c k= .ok (((c.getD k.toNat 0).toNat:Nat):Int)/\(c.getD k.toNat 0).toNat<n:=λk k0 k1=>by
 have hk:k.toNat<c.length:=by omega
 have hx:=hc c[k.toNat] (List.getElem_mem hk)
 have e:c.getD k.toNat 0=c[k.toNat]:=by simp[hk]
 rw[e]
 refine⟨?_,by omega⟩
 rw[Ys (n:=k.toNat) (by omega) hk]
 congr 1
 omega
theorem AC (o a b:Int):JC [o,a,b]=max (max o a) b:=rfl
theorem F1 {n i j:Nat}(hn:0<n)(h:i<=j):n^i<=n^j:=Nat.pow_le_pow_right hn h
theorem Ss {c:List Int}{n k:Nat}(hl:c.length=k)(hc:∀x∈c,0<=x/\x<(n:Int)):∀j,0<=j->j<(k:Int)->atR c j= .ok (((c.getD j.toNat 0).toNat:Nat):Int)/\(c.getD j.toNat 0).toNat<n:=S8 (by omega) hc
theorem RH (a b:Bool):Pj (.ok a) (.ok b)= .ok (a&&b):=L6 λ_=>rfl
theorem jm (f:Int)(n:Nat):(List.replicate n [f]).flatten=(List.range n).map λ_=>f:=by
 induction n with
 |zero=>rfl
 |succ n ih=>rw[List.replicate_succ,List.flatten_cons,ih,List.range_succ_eq_map,List.map_cons,List.map_map];rfl
theorem Dm {ws:QLs}(hd:ws.length<=1000)(hw:∀w∈ws,w.length<=1000):VD ws= .ok (XT ws 0):=by
 unfold VD G2;dsimp only
 simp only[Rs.okb]
 apply Ok.eq
 refine Ok.bind (Ok.forN (λi (g:Int×QLs)=>g=(XS (ws.take i),XT (ws.take i) 0)) rfl λi w g ha hg=>?_) λg hg=>?_
 ·have hi:=(List.getElem?_eq_some_iff.mp ha).1
  subst hg
  have hal:=hw w (List.mem_of_getElem? ha)
  generalize hf:XS (ws.take i)=f
  rw[Y3 (by omega),Rs.okb]
  refine Ok.bind (Ok.forN (λk (l:Int)=>LastIs w k l) (LastIs.zero w) λk b l hb hl=>?_) λak cz=>?_
  ·obtain⟨rfl,hk⟩:=X9 hb
   have iR:w[k]?=some w[k]:=by simp[hk]
   rw[YH iR]
   simp only[Rs.okb]
   by_cases c:w[k]<0
   ·rw[if_pos (decide_eq_true c),Rs.okb]
    exact⟨_,rfl,LastIs.neg iR c⟩
   ·rw[if_neg (by rw[decide_eq_true_eq];exact c),Rs.okb]
    exact⟨_,rfl,hl.pos iR c⟩
  rw[X1] at cz
  rw[Xj (sz (by simp))]
  simp only[Rs.okb]
  rw[show max (w.length:Int) 1=((max w.length 1:Nat):Int) by omega]
  rw[show Mk [f] ((max w.length 1:Nat):Int)= .ok ((List.range (max w.length 1)).map λ_=>f) from by
   unfold Mk
   rw[Xj ⟨by omega,by omega,sz (by simp;omega)⟩,Int.toNat_natCast,jm]]
  simp only[Rs.okb]
  have hlb: -1<=ak/\ak<(w.length:Int):=⟨cz.lo,cz.hi⟩
  rw[show ak+1=(((ak+1).toNat:Nat):Int) by omega,Y3 (by omega),Rs.okb]
  refine Ok.bind (Ok.forN (λk (h:List Int×Int×Int)=>h.1=((List.range (max w.length 1)).map λj=>if j<k then f+(Yw (w.take j):Int) else f)/\h.2.1=f+(Yw (w.take (min k ak.toNat)):Int)/\h.2.2=f+(Yw (w.take (min k ak.toNat)):Int)) ⟨by simp,by simp[Yw],by simp[Yw]⟩ λk b h hb hh=>?_) λh hh=>?_
  ·obtain⟨rfl,hk⟩:=X9 hb
   obtain⟨h1,h2,h3⟩:=hh
   have gN:k<w.length:=by omega
   have iR:w[k]?=some w[k]:=by simp[gN]
   rw[Nat.min_eq_left (by omega)] at h2 h3
   rw[h1,ZK (by simp;omega),Rs.okb,YH iR]
   simp only[Rs.okb,RH]
   have hset:(((List.range (max w.length 1)).map λj=>if j<k then f+(Yw (w.take j):Int) else f).set k h.2.2)=(List.range (max w.length 1)).map λj=>if j<k+1 then f+(Yw (w.take j):Int) else f:=Iu (by omega) (by rw[if_pos (by omega),h3]) λj hj aN=>by
    by_cases c:j<k
    ·rw[if_pos c,if_pos (by omega)]
    ·rw[if_neg c,if_neg (by omega)]
   rw[hset]
   have hn:=Zp iR
   by_cases c:w[k]<0/\(k:Int)<ak
   ·rw[if_pos (by rw[Bool.and_eq_true,decide_eq_true_eq,decide_eq_true_eq];exact c),Rs.okb]
    rw[U9 c.1] at hn
    refine⟨_,rfl,rfl,?_,?_⟩
    ·show h.2.1+1=_
     rw[Nat.min_eq_left (by omega),hn,h2];omega
    ·show h.2.1+1=_
     rw[Nat.min_eq_left (by omega),hn,h2];omega
   ·rw[if_neg (by rw[Bool.and_eq_true,decide_eq_true_eq,decide_eq_true_eq];exact c),Rs.okb]
    have ga:Yw (w.take (min (k+1) ak.toNat))=Yw (w.take k):=by
     by_cases c2:(k:Int)<ak
     ·have c3:¬w[k]<0:=λz=>c ⟨z,c2⟩
      rw[UV c3] at hn
      rw[Nat.min_eq_left (by omega),hn,Nat.add_zero]
     ·rw[Nat.min_eq_right (by omega),show ak.toNat=k by omega]
    refine⟨_,rfl,rfl,?_,?_⟩
    ·show h.2.1=_
     rw[ga,h2]
    ·show h.2.2=_
     rw[ga,h3]
  ·rw[X1] at hh
   obtain⟨h1,h2,_⟩:=hh
   rw[Xj (FG (by rw[Yf,List.length_take];omega))]
   have hce:=LL cz
   rw[Nat.min_eq_right (by omega)] at h2
   refine⟨_,rfl,?_⟩
   rw[Vp ha,Vn ha,Int.zero_add,hf,h1,h2]
   have e1:f+(Yw (w.take ak.toNat):Int)+1=f+(Q8 w:Int):=by omega
   have e2:((List.range (max w.length 1)).map λj=>if j<(ak+1).toNat then f+(Yw (w.take j):Int) else f)=Qi w f:=by
    unfold Qi
    refine List.map_congr_left λj _=>?_
    by_cases c:j<(ak+1).toNat
    ·rw[if_pos c,IL cz (by omega)]
    ·rw[if_neg c,OB cz (by omega)]
   rw[e1,e2]
 ·subst hg
  rw[List.take_length]
  exact⟨_,rfl,rfl⟩
def tz (w r:List Int):QPs:=(List.range w.length).map λk=>(w.getD k 0,r.getD k 0)
def bz (w r:List Int):QPs:=(List.range w.length).map λk=>(w.getD k 0,r.getD ((k+1) % w.length) 0)
theorem P8 (w:List Int)(g:Nat->Int):kys ((List.range w.length).map λk=>(w.getD k 0,g k))=w:=by
 unfold kys
 rw[List.map_map]
 refine List.ext_getElem (by simp) λi h1 h2=>?_
 simp[h2]
theorem TZ {g:Nat->Int×Int}{n k:Nat}(h:k<n):((List.range n).map g).take (k+1)=((List.range n).map g).take k++[g k]:=by
 rw[List.take_add_one,List.getElem?_map,List.getElem?_range h];rfl
theorem BX (a b:QPs):kys (a++b)=kys a++kys b:=List.map_append
theorem OC (a:QPs)(k:Nat):kys (a.take k)=(kys a).take k:=List.map_take
theorem Wg {T:QPs}{w:List Int}{g:Nat->Int}{k:Nat}(hk:k<w.length)(h:(kys T++w).Nodup):KZ (T++((List.range w.length).map λk=>(w.getD k 0,g k)).take k) (w.getD k 0) (g k)=T++((List.range w.length).map λk=>(w.getD k 0,g k)).take (k+1):=by
 rw[TZ hk, ←List.append_assoc]
 refine Db λz=>?_
 rw[BX,OC,P8] at z
 obtain⟨_,h2,h3⟩:=List.nodup_append.mp h
 have hw:w.getD k 0∈w:=by simp[hk]
 rcases List.mem_append.mp z with z |z
 ·exact h3 _ z _ hw rfl
 ·obtain⟨j,hj,e⟩:=List.getElem_of_mem z
  rw[List.length_take] at hj
  rw[List.getElem_take] at e
  have:j=k:=(List.getElem_inj (h₀:=by omega) (h₁:=hk) h2).mp (by rw[e];simp[hk])
  omega
theorem Aa {i:Nat}{ws:QLs}{w:List Int}(h:ws.flatten.Nodup)(hw:ws[i]?=some w):((ws.take i).flatten++w).Nodup:=by
 have e:ws=ws.take (i+1)++ws.drop (i+1):=(List.take_append_drop ..).symm
 rw[e,List.flatten_append,List.nodup_append,List.take_add_one,hw,List.flatten_append] at h
 have:=h.1
 simpa using this
theorem HF {D:QDr}(few:D.1.length<=100)(short:∀w∈D.1,w.length<=100)(nd:D.1.flatten.Nodup)(hl:D.2.length<=1000){v:Int×Int->Int×Int×Int×Int×Int}(hv:∀e∈D.2,∃(i j k l:Nat) (w w' r r':List Int),Spot D.1 e.1 i j w/\Spot D.1 (-e.1) k l w'/\(XT D.1 0)[i]?=some r/\r[j]?=some (v e).2.2.1/\(XT D.1 0)[k]?=some r'/\r'.length=w'.length/\0<w'.length/\r'[l]?=some (v e).2.2.2.1/\r'[(l+1) % w'.length]?=some (v e).2.2.2.2/\(v e).1=e.1/\(v e).2.1=e.2):QB D= .ok (D.2.map v):=by
 have kY:=Yf D.1 0
 have bv:∀(i:Nat) (w r:List Int),D.1[i]?=some w->(XT D.1 0)[i]?=some r->w.length<=r.length:=λi w r h1 h2=>by
  rw[Uf h1] at h2
  cases h2
  rw[ZE];omega
 unfold QB Km;dsimp only
 simp only[Rs.okb]
 rw[Dm (by omega) (λw hw=>by have:=short w hw;omega),Xn,Rs.okb,Rs.okb]
 generalize XT D.1 0=R at hv kY bv
 have hz:∀{i:Nat}{x:List Int×List Int},(D.1.zip R)[i]?=some x->D.1[i]?=some x.1/\R[i]?=some x.2:=λh=>List.getElem?_zip_eq_some.mp h
 have htot:∀i,(D.1.take i).flatten.length<=10000:=λi=>by
  have:∀l:QLs,(∀w∈l,w.length<=100)->l.flatten.length<=100*l.length:=λl=>by
   induction l with
   |nil=>intro _;exact Nat.le_refl _
   |cons w l ih=>
    intro h
    have h1:=h w List.mem_cons_self
    have h2:=ih λx hx=>h x (.tail _ hx)
    rw[List.flatten_cons,List.length_append,List.length_cons]
    omega
  have h1:=this (D.1.take i) λw hw=>short w (List.mem_of_mem_take hw)
  have h2:(D.1.take i).length<=D.1.length:=by rw[List.length_take];omega
  omega
 refine Ok.eq (Ok.bind (Ok.forN (λi (g:QPs×QPs)=>(kys g.1=(D.1.take i).flatten/\kys g.2=(D.1.take i).flatten)/\∀(i':Nat) (w r:List Int),i'<i->D.1[i']?=some w->R[i']?=some r->∀j,j<w.length->(w.getD j 0,r.getD j 0)∈g.1/\(w.getD j 0,r.getD ((j+1) % w.length) 0)∈g.2) ⟨⟨rfl,rfl⟩,λi' w r h=>by omega⟩ λi x g hx hg=>?_) λg hg=>?_)
 ·obtain⟨hw,hr⟩:=hz hx
  obtain⟨⟨k1,k2⟩,hg⟩:=hg
  have hl1:=short x.1 (List.mem_of_getElem? hw)
  have gf:=bv i _ _ hw hr
  have cX:=Aa nd hw
  have ht:=htot i
  have n1:g.1.length<=10000:=by have:=congrArg List.length k1;unfold kys at this;rw[List.length_map] at this;omega
  have n2:g.2.length<=10000:=by have:=congrArg List.length k2;unfold kys at this;rw[List.length_map] at this;omega
  rw[Y3 (by omega),Rs.okb]
  refine Ok.bind (Ok.forN (λk (h:QPs×QPs)=>h=(g.1++(tz x.1 x.2).take k,g.2++(bz x.1 x.2).take k)) (by simp) λk a h ha hh=>?_) λh hh=>?_
  ·obtain⟨rfl,hk⟩:=X9 ha
   subst hh
   have hm:(k+1) % x.1.length<x.1.length:=Nat.mod_lt _ (by omega)
   have z1:x.2[k]?=some (x.2.getD k 0):=by simp[show k<x.2.length by omega]
   have z2:x.1[k]?=some (x.1.getD k 0):=by simp[hk]
   have z3:x.2[(k+1) % x.1.length]?=some (x.2.getD ((k+1) % x.1.length) 0):=by simp[show(k+1) % x.1.length<x.2.length by omega]
   have hmm:((k:Int)+1) % (x.1.length:Int)=(((k+1) % x.1.length:Nat):Int):=by rw[Int.natCast_emod];rfl
   simp only[Rs.okb]
   rw[YH z1,YH z2]
   simp only[Rs.okb]
   rw[Xj (FG (by rw[List.length_append,List.length_take];omega)),Yy (by omega),Rs.okb,hmm,YH z3,Rs.okb,Xj (FG (by rw[List.length_append,List.length_take];omega))]
   refine⟨_,rfl,?_⟩
   unfold tz bz
   rw[Wg (g:=λk=>x.2.getD k 0) hk (by rw[k1];exact cX),Wg (g:=λk=>x.2.getD ((k+1) % x.1.length) 0) hk (by rw[k2];exact cX)]
  ·rw[X1] at hh
   have e1:(tz x.1 x.2).take x.1.length=tz x.1 x.2:=List.take_of_length_le (by simp[tz])
   have e2:(bz x.1 x.2).take x.1.length=bz x.1 x.2:=List.take_of_length_le (by simp[bz])
   rw[e1,e2] at hh
   subst hh
   refine⟨_,rfl,⟨?_,?_⟩,λi' w r hi h1 h2 j hj=>?_⟩
   ·show kys (g.1++tz x.1 x.2)=_
    rw[BX,k1,List.take_add_one,hw,List.flatten_append,show kys (tz x.1 x.2)=x.1 from P8 _ _];simp
   ·show kys (g.2++bz x.1 x.2)=_
    rw[BX,k2,List.take_add_one,hw,List.flatten_append,show kys (bz x.1 x.2)=x.1 from P8 _ _];simp
   ·by_cases c:i'<i
    ·have:=hg i' w r c h1 h2 j hj
     exact⟨List.mem_append_left _ this.1,List.mem_append_left _ this.2⟩
    ·have:i'=i:=by omega
     subst this
     rw[hw] at h1;cases h1
     rw[hr] at h2;cases h2
     exact⟨List.mem_append_right _ (List.mem_map.mpr ⟨j,List.mem_range.mpr hj,rfl⟩),List.mem_append_right _ (List.mem_map.mpr ⟨j,List.mem_range.mpr hj,rfl⟩)⟩
 ·obtain⟨⟨k1,k2⟩,hg⟩:=hg
  have ae:(D.1.zip R).length=D.1.length:=by rw[List.length_zip];omega
  rw[ae,List.take_length] at k1 k2
  rw[ae] at hg
  have g1:∀{x y:Int},(x,y)∈g.1->GU g.1 x= .ok y:=λh=>by unfold GU;rw[Iv (e:=(_,_)) (by rw[k1];exact nd) h];rfl
  have g2:∀{x y:Int},(x,y)∈g.2->GU g.2 x= .ok y:=λh=>by unfold GU;rw[Iv (e:=(_,_)) (by rw[k2];exact nd) h];rfl
  have gd:∀{l:List Int}{k:Nat}{x:Int},l[k]?=some x->l.getD k 0=x:=λh=>by rw[List.getD_eq_getElem?_getD,h];rfl
  refine⟨D.2.map v,Q0 (h:=v) (sz (by omega)) λe he=>?_,rfl⟩
  obtain⟨i,j,k,l,w,w',r,r',s1,s2,h1,h2,h3,h4,h5,h6,h7,h8,h9⟩:=hv e he
  have q1:=(hg i w r (List.getElem?_eq_some_iff.mp s1.wi).1 s1.wi h1 j (List.getElem?_eq_some_iff.mp s1.xj).1).1
  have q2:=hg k w' r' (List.getElem?_eq_some_iff.mp s2.wi).1 s2.wi h3 l (List.getElem?_eq_some_iff.mp s2.xj).1
  rw[gd s1.xj,gd h2] at q1
  rw[gd s2.xj,gd h6,gd h7] at q2
  rw[g1 q1,g1 q2.1,g2 q2.2]
  simp only[Rs.okb]
  rw[←h8, ←h9]
theorem Ek:∀{ws:QLs}{x:Int},x∈ws.flatten->∃i j w,Spot ws x i j w
 | [],x,h=>by simp at h
 |w::ws,x,h=>by
  by_cases c:x∈w
  ·obtain⟨j,h1,h2⟩:=Hl c
   exact⟨0,j,w,rfl,h1,h2,λi' w' hi _=>by omega⟩
  ·have hx:x∈ws.flatten:=by
    rw[List.flatten_cons,List.mem_append] at h
    exact h.resolve_left c
   obtain⟨i,j,v,s⟩:=Ek hx
   refine⟨i+1,j,v,by simpa using s.wi,s.xj,s.first,λi' w' hi hw=>?_⟩
   cases i' with
   |zero=>
    have:w=w':=by simpa using hw
    exact this▸c
   |succ i'=>exact s.none i' w' (by omega) (by simpa using hw)
theorem VY (ws:QLs):0<=XS ws:=by
 induction ws with
 |nil=>exact Int.le_refl _
 |cons w ws ih=>rw[Q5];omega
theorem L5 {ws:QLs}{i j:Nat}{w r:List Int}{o:Int}(hw:ws[i]?=some w)(hr:(XT ws 0)[i]?=some r)(ho:r[j]?=some o):0<=o/\o<XS ws:=by
 rw[Uf hw] at hr
 cases hr
 have hj:=(List.getElem?_eq_some_iff.mp ho).1
 rw[ZE] at hj
 rw[Gv w _ hj] at ho
 have cN:=Option.some.inj ho
 have hp:=G7 w
 have m0:=Int.emod_nonneg (Yw (w.take j):Int) (show(Q8 w:Int)≠0 by omega)
 have m1:=Int.emod_lt_of_pos (Yw (w.take j):Int) (show(0:Int)<(Q8 w:Int) by omega)
 have t0:=VY (ws.take i)
 have t1:XS ws=XS (ws.take (i+1))+XS (ws.drop (i+1)):=by rw[←Gn,List.take_append_drop]
 have t2:=VY (ws.drop (i+1))
 rw[Vn hw] at t1
 omega
structure DG (D:QDr):Prop where
 few:D.1.length<=1000
 short:∀w∈D.1,w.length<=1000
 le:D.2.length<=1000
 mem:∀e∈D.2,e.1∈D.1.flatten/\ -e.1∈D.1.flatten
 sg:∀e∈D.2,e.2=1∨e.2= -1
 count:XS D.1=(D.2.length:Int)+(BY D.1:Int)
theorem HA {D:QDr}(h:DG D)(few:D.1.length<=100)(short:∀w∈D.1,w.length<=100)(nd:D.1.flatten.Nodup):∃ms,Up D= .ok ms/\QB D= .ok ms/\ms.length=D.2.length/\∀m∈ms,MG (XS D.1) m:=by
 have bw:∀e:Int×Int,∃v:Int×Int×Int×Int×Int,e∈D.2->∃(i j k l:Nat) (w w' r r':List Int),Spot D.1 e.1 i j w/\Spot D.1 (-e.1) k l w'/\(XT D.1 0)[i]?=some r/\r[j]?=some v.2.2.1/\(XT D.1 0)[k]?=some r'/\r'.length=w'.length/\0<w'.length/\r'[l]?=some v.2.2.2.1/\r'[(l+1) % w'.length]?=some v.2.2.2.2/\v.1=e.1/\v.2.1=e.2:=λe=>by
  by_cases he:e∈D.2
  ·obtain⟨i,j,w,s1⟩:=Ek (h.mem e he).1
   obtain⟨k,l,w',s2⟩:=Ek (h.mem e he).2
   obtain⟨r,hr,kY,hj⟩:=s1.row
   obtain⟨r',hr',kZ,hl⟩:=s2.row
   have hm:(l+1) % w'.length<r'.length:=by rw[kZ];exact Nat.mod_lt _ (by omega)
   exact⟨(e.1,e.2,r[j],r'[l],r'[(l+1) % w'.length]),λ_=>⟨i,j,k,l,w,w',r,r',s1,s2,hr,by simp,hr',kZ,by omega,by simp,by simp,rfl,rfl⟩⟩
  ·exact⟨(0,0,0,0,0),λz=>absurd z he⟩
 obtain⟨v,hv⟩:=Classical.axiomOfChoice bw
 refine⟨D.2.map v,?_,HF few short nd h.le λe he=>hv e he,by simp,λm hm=>?_⟩
 ·unfold Up Bp;dsimp only
  simp only[Rs.okb]
  rw[RB h.few h.short,Xn]
  simp only[Rs.okb]
  rw[VH (h:=v) (sz (by have:=h.le;simp;omega)) λg hg e he=>?_]
  ·rw[Rs.okb,List.nil_append]
  ·obtain⟨i,j,k,l,w,w',r,r',s1,s2,h1,h2,h3,h4,h5,h6,h7,h8,h9⟩:=hv e he
   have hm:((l:Int)+1) % (r'.length:Int)=(((l+1) % w'.length:Nat):Int):=by rw[h4,Int.natCast_emod];rfl
   rw[I0 s1,I0 s2,Xn,Xn]
   simp only[Rs.okb]
   rw[YH h1,YH h3]
   simp only[Rs.okb]
   rw[YH h2,YH h6]
   simp only[Rs.okb]
   rw[Yy (by omega),hm]
   simp only[Rs.okb]
   rw[YH h7]
   simp only[Rs.okb]
   rw[Xj hg]
   congr 2
   rw[←h8, ←h9]
 ·obtain⟨e,he,rfl⟩:=List.mem_map.mp hm
  obtain⟨i,j,k,l,w,w',r,r',s1,s2,h1,h2,h3,h4,h5,h6,h7,h8,h9⟩:=hv e he
  exact⟨by rw[h9];exact h.sg e he,L5 s1.wi h1 h2,L5 s2.wi h3 h6,L5 s2.wi h3 h7⟩
def inB (n:Nat)(t:QLs):Bool:=decide (t.length=n)&&t.all λr=>decide (r.length=n)&&r.all λx=>decide (0<=x)&&decide (x<(n:Int))
def tat (t:QLs)(a b:Nat):Int:=(t.getD a []).getD b 0
theorem Cq {n:Nat}{t:QLs}(h:inB n t=true):∃f:Nat->Nat->Nat,t=JV n f:=by
 unfold inB at h
 simp only[Bool.and_eq_true,decide_eq_true_eq,List.all_eq_true] at h
 obtain⟨hl,hr⟩:=h
 refine⟨λa b=>(tat t a b).toNat,List.ext_getElem (by rw[Qb];exact hl) λa h1 h2=>?_⟩
 have ha:a<n:=by omega
 have e:=Dz (f:=λa b=>(tat t a b).toNat) ha
 rw[List.getElem?_eq_getElem h2] at e
 rw[Option.some.inj e]
 have bv:=hr t[a] (List.getElem_mem _)
 refine List.ext_getElem (by rw[Cz];exact bv.1) λb h3 h4=>?_
 have hb:b<n:=by omega
 have e2:=Dp (f:=λa b=>(tat t a b).toNat) (a:=a) hb
 rw[List.getElem?_eq_getElem h4] at e2
 rw[Option.some.inj e2]
 have hg:=bv.2 _ (List.getElem_mem h3)
 have e3:tat t a b=t[a][b]:=by
  have e4:t.getD a []=t[a]:=by rw[List.getD_eq_getElem?_getD,List.getElem?_eq_getElem h1,Option.getD_some]
  unfold tat
  rw[e4,List.getD_eq_getElem?_getD,List.getElem?_eq_getElem h3,Option.getD_some]
 show t[a][b]=((tat t a b).toNat:Int)
 omega
def F8 (g7:List QLs)(a9:QLs):Rs (List QLs):=
 Rs.bind (Rs.bind (Rs.bind (Nw g7 λcw=>Rs.bind (noE (Mj cw a9)) λbx=>Rs.ok bx.isNone) λdn=>Rs.ok (dn.all id)) λbh=>if bh=true then chk (g7.length<sizeLine) (Rs.ok (g7++[a9])) else Rs.ok g7) λj8=>Rs.ok j8
def eqR (m:Rs (List QLs))(l:List QLs):Bool:=match m with
 | .ok x=>decide (x=l)
 |_=>false
theorem J5 {m:Rs (List QLs)}{l:List QLs}(h:eqR m l=true):m= .ok l:=by
 cases m with
 |bad=>cases h
 |err x=>cases h
 |ok x=>rw[of_decide_eq_true (show decide (x=l)=true from h)]
def smB (n:Int)(m:Rs (List QLs)):Bool:=match m with
 | .ok l=>decide (l.length<64)&&l.all (inB n.toNat)
 |_=>false
def SmT (n:Nat)(m:Rs (List QLs)):Prop:=∃ l,m= .ok l/\l.length<64/\∀t∈l,∃f:Nat->Nat->Nat,t=JV n f
theorem E8 {n:Nat}{m:Rs (List QLs)}(h:smB (n:Int) m=true):SmT n m:=by
 cases m with
 |bad=>cases h
 |err x=>cases h
 |ok l=>
  have h:(decide (l.length<64)&&l.all (inB n))=true:=h
  simp only[Bool.and_eq_true,decide_eq_true_eq,List.all_eq_true] at h
  exact⟨l,rfl,h.1,λt ht=>Cq (h.2 t ht)⟩
theorem tb1:Qa 1= .ok [[[0]]]:=J5 (by decide+kernel)
theorem kd1:Zz 1= .ok [[[0]]]:=J5 (by decide+kernel)
theorem tb2:smB 2 (Qa 2)=true:=by decide+kernel
theorem kd2:smB 2 (Zz 2)=true:=by decide+kernel
theorem tb3:smB 3 (Qa 3)=true:=by decide+kernel
theorem kd3:smB 3 (Zz 3)=true:=by decide+kernel
def lc0:List QLs:=[[[0,0,0,0],[1,1,1,1],[2,2,2,2],[3,3,3,3]],[[0,0,0,0],[1,1,1,1],[2,3,2,2],[3,2,3,3]],[[0,0,0,0],[1,1,1,1],[3,2,2,2],[2,3,3,3]],[[0,0,0,0],[1,1,1,1],[3,3,2,2],[2,2,3,3]],[[0,0,0,0],[1,1,1,2],[2,2,2,1],[3,3,3,3]],[[0,0,0,0],[1,1,3,1],[2,2,2,2],[3,3,1,3]]]
def lc1:List QLs:=[[[0,0,0,0],[1,1,3,2],[2,3,2,1],[3,2,1,3]],[[0,0,0,0],[2,1,1,1],[1,2,2,2],[3,3,3,3]],[[0,0,0,0],[2,1,1,1],[3,2,2,2],[1,3,3,3]],[[0,0,0,0],[2,1,1,2],[1,2,2,1],[3,3,3,3]],[[0,0,0,0],[3,1,1,1],[1,2,2,2],[2,3,3,3]],[[0,0,0,0],[3,1,1,1],[2,2,2,2],[1,3,3,3]]]
def lc2:List QLs:=[[[0,0,0,0],[3,1,3,1],[2,2,2,2],[1,3,1,3]],[[0,0,0,1],[1,1,1,0],[2,2,2,2],[3,3,3,3]],[[0,0,0,1],[1,1,1,2],[2,2,2,0],[3,3,3,3]],[[0,0,0,2],[1,1,1,0],[2,2,2,1],[3,3,3,3]],[[0,0,0,2],[1,1,1,1],[2,2,2,0],[3,3,3,3]],[[0,0,1,0],[1,1,0,1],[2,2,2,2],[3,3,3,3]]]
def lc3:List QLs:=[[[0,0,1,0],[1,1,3,1],[2,2,2,2],[3,3,0,3]],[[0,0,1,1],[1,1,0,0],[2,2,2,2],[3,3,3,3]],[[0,0,1,1],[1,1,0,0],[3,3,2,2],[2,2,3,3]],[[0,0,3,0],[1,1,0,1],[2,2,2,2],[3,3,1,3]],[[0,0,3,0],[1,1,1,1],[2,2,2,2],[3,3,0,3]],[[0,0,3,2],[1,1,1,1],[3,2,2,0],[2,3,0,3]]]
def lc4:List QLs:=[[[0,2,0,0],[1,1,1,1],[2,0,2,2],[3,3,3,3]],[[0,2,0,0],[1,1,1,1],[2,3,2,2],[3,0,3,3]],[[0,2,0,2],[1,1,1,1],[2,0,2,0],[3,3,3,3]],[[0,2,0,2],[3,1,3,1],[2,0,2,0],[1,3,1,3]],[[0,2,1,0],[2,1,0,1],[1,0,2,2],[3,3,3,3]],[[0,2,3,1],[3,1,0,2],[1,3,2,0],[2,0,1,3]]]
def lc5:List QLs:=[[[0,3,0,0],[1,1,1,1],[2,0,2,2],[3,2,3,3]],[[0,3,0,0],[1,1,1,1],[2,2,2,2],[3,0,3,3]],[[0,3,0,1],[3,1,1,0],[2,2,2,2],[1,0,3,3]],[[0,3,1,2],[2,1,3,0],[3,0,2,1],[1,2,0,3]],[[0,3,3,0],[1,1,1,1],[2,2,2,2],[3,0,0,3]],[[0,3,3,0],[2,1,1,2],[1,2,2,1],[3,0,0,3]]]
def kc0:List QLs:=[]
def kc1:List QLs:=kc0++[[[0,0,0,0],[1,1,1,1],[2,2,2,2],[3,3,3,3]],[[0,0,0,0],[1,1,1,1],[2,3,2,2],[3,2,3,3]],[[0,0,0,0],[1,1,1,1],[3,3,2,2],[2,2,3,3]]]
def kc2:List QLs:=kc1++[[[0,0,0,0],[1,1,3,2],[2,3,2,1],[3,2,1,3]],[[0,0,0,0],[2,1,1,1],[3,2,2,2],[1,3,3,3]]]
def kc3:List QLs:=kc2
def kc4:List QLs:=kc3++[[[0,0,1,1],[1,1,0,0],[3,3,2,2],[2,2,3,3]]]
def kc5:List QLs:=kc4++[[[0,2,3,1],[3,1,0,2],[1,3,2,0],[2,0,1,3]]]
def kc6:List QLs:=kc5
def l4:List QLs:=lc0++(lc1++(lc2++(lc3++(lc4++lc5))))
theorem t4a:eqR (Qa 4) l4=true:=by decide+kernel
theorem k4a:eqR (forN lc0 kc0 F8) kc1=true:=by decide+kernel
theorem k4b:eqR (forN lc1 kc1 F8) kc2=true:=by decide+kernel
theorem k4c:eqR (forN lc2 kc2 F8) kc3=true:=by decide+kernel
theorem k4d:eqR (forN lc3 kc3 F8) kc4=true:=by decide+kernel
theorem k4e:eqR (forN lc4 kc4 F8) kc5=true:=by decide+kernel
theorem k4f:eqR (forN lc5 kc5 F8) kc6=true:=by decide+kernel
theorem JO {M B:Type}{F:B->M->Rs B}:∀(a b:List M) (g:B),forN (a++b) g F=(forN a g F).bind λg'=>forN b g' F
 | [],b,g=>rfl
 |x::a,b,g=>by
  show(F g x).bind _=((F g x).bind _).bind _
  cases F g x with
  |bad=>rfl
  |err e=>rfl
  |ok g'=>exact JO a b g'
theorem k4:forN l4 [] F8= .ok kc6:=by
 have e0:([]:List QLs)=kc0:=rfl
 have a:=J5 k4a
 have b:=J5 k4b
 have c:=J5 k4c
 have d:=J5 k4d
 have e:=J5 k4e
 have f:=J5 k4f
 unfold l4
 rw[e0]
 generalize F8=F at*
 generalize lc0=x0 at*
 generalize lc1=x1 at*
 generalize lc2=x2 at*
 generalize lc3=x3 at*
 generalize lc4=x4 at*
 generalize lc5=x5 at*
 generalize kc6=y6 at*
 generalize kc5=y5 at*
 generalize kc4=y4 at*
 generalize kc3=y3 at*
 generalize kc2=y2 at*
 generalize kc1=y1 at*
 generalize kc0=y0 at*
 rw[JO,a,Rs.okb,JO,b,Rs.okb,JO,c,Rs.okb,JO,d,Rs.okb,JO,e,Rs.okb,f]
theorem tb4:SmT 4 (Qa 4):=⟨l4,J5 t4a,by decide,λt ht=>Cq (List.all_eq_true.mp (show l4.all (inB 4)=true by decide+kernel) t ht)⟩
theorem kd4:SmT 4 (Zz 4):=by
 have e:Zz 4= .ok kc6:=by
  unfold Zz Ef;dsimp only
  simp only[Rs.okb]
  rw[J5 t4a,Xn,Rs.okb]
  show(forN l4 [] F8).bind _=_
  rw[k4,Rs.okb]
 exact⟨kc6,e,by decide,λt ht=>Cq (List.all_eq_true.mp (show kc6.all (inB 4)=true by decide+kernel) t ht)⟩
theorem Rc {n:Nat}(h1:1<=n)(h4:n<=4):SmT n (Qa (n:Int))/\SmT n (Zz (n:Int)):=by
 have h:n=1∨n=2∨n=3∨n=4:=by omega
 rcases h with rfl |rfl |rfl |rfl
 ·exact⟨⟨_,tb1,by decide,λt ht=>Cq (List.all_eq_true.mp (show[[[(0:Int)]]].all (inB 1)=true by decide) t ht)⟩,⟨_,kd1,by decide,λt ht=>Cq (List.all_eq_true.mp (show[[[(0:Int)]]].all (inB 1)=true by decide) t ht)⟩⟩
 ·exact⟨E8 tb2,E8 kd2⟩
 ·exact⟨E8 tb3,E8 kd3⟩
 ·exact⟨tb4,kd4⟩
theorem VN {M L:Type}{F:List L->M->Rs (List L)}{p:M->Bool}{h:M->L}:∀{as:List M}{g:List L},g.length+as.length<=100000->(∀(g:List L) a,a∈as->g.length<100000->F g a= .ok (if p a=true then g++[h a] else g))->forN as g F= .ok (g++(as.filter p).map h)
 | [],g,_,_=>by rw[List.filter_nil,List.map_nil,List.append_nil];rfl
 |a::as,g,hl,hf=>by
  show(F g a).bind _=_
  rw[List.length_cons] at hl
  rw[hf g a List.mem_cons_self (by omega),Rs.okb]
  cases hp:p a with
  |true=>
   rw[if_pos rfl,List.filter_cons_of_pos hp,List.map_cons]
   refine(VN (by simp;omega) λg b hb=>hf g b (List.mem_cons_of_mem _ hb)).trans ?_
   rw[List.append_assoc];rfl
  |false=>
   rw[if_neg Bool.false_ne_true,List.filter_cons_of_neg (by rw[hp];exact Bool.false_ne_true)]
   exact VN (by omega) λg b hb=>hf g b (List.mem_cons_of_mem _ hb)
abbrev M5:=Int×Int×Int×Int×Int
def NL (c:List Int)(i:Int):Nat:=(c.getD i.toNat 0).toNat
def HD (n:Nat)(f:Nat->Nat->Nat)(ms:List M5)(c:List Int):QLs:=((((List.range n).map λ(i:Nat)=>(i:Int))).filter λj=>ms.all (EV f (NL (c++[j])))).map λj=>c++[j]
def Ee (n:Nat)(f:Nat->Nat->Nat)(ms:List M5)(T:QLs):QLs:=T.flatMap (HD n f ms)
def C4 (k:Nat)(m:M5):Bool:=decide (JC [m.2.2.1,m.2.2.2.1,m.2.2.2.2]=(k:Int))
def TT (n:Nat)(f:Nat->Nat->Nat)(ms:List M5):Nat->QLs
 |0=>[[]]
 |k+1=>Ee n f (ms.filter (C4 k)) (TT n f ms k)
def AB (n k:Nat)(T:QLs):Prop:=T.length<=n^k/\∀c∈T,c.length=k/\∀x∈c,0<=x/\x<(n:Int)
section
variable {n:Nat}{f:Nat->Nat->Nat}{ms:List M5}
theorem Ex (c:List Int):(HD n f ms c).length<=n:=by
 unfold HD
 rw[List.length_map]
 exact Nat.le_trans (List.length_filter_le ..) (by simp)
theorem EQ:∀T:QLs,(Ee n f ms T).length<=T.length*n
 | []=>by simp[Ee]
 |c::T=>by
  have h:=EQ T
  have h2:=Ex (n:=n) (f:=f) (ms:=ms) c
  unfold Ee at h⊢
  rw[List.flatMap_cons,List.length_append,List.length_cons,Nat.succ_mul]
  omega
theorem LQ {k:Nat}{T:QLs}(h:AB n k T):AB n (k+1) (Ee n f ms T):=by
 refine⟨Nat.le_trans (EQ T) (by rw[Nat.pow_succ];exact Nat.mul_le_mul_right n h.1),λd hd=>?_⟩
 obtain⟨c,hc,hd⟩:=List.mem_flatMap.mp hd
 unfold HD at hd
 obtain⟨j,hj,rfl⟩:=List.mem_map.mp hd
 obtain⟨i,hi,rfl⟩:=KN (List.mem_filter.mp hj).1
 obtain⟨h1,h2⟩:=h.2 c hc
 refine⟨by simp[h1],λx hx=>?_⟩
 rcases List.mem_append.mp hx with z |z
 ·exact h2 x z
 ·rw[List.mem_singleton] at z;omega
theorem BE:∀k,AB n k (TT n f ms k)
 |0=>⟨by simp[TT],λc hc=>by
  have:c=[]:=by simpa[TT] using hc
  subst this
  exact⟨rfl,λx hx=>by cases hx⟩⟩
 |k+1=>LQ (BE k)
theorem outer {F:QLs->List Int->Rs QLs}{T:QLs}(hT:T.length*n<=90000)(hF:∀(g:QLs) c,c∈T->g.length+n<=90000->F g c= .ok (g++HD n f ms c)):forN T [] F= .ok (Ee n f ms T):=by
 obtain⟨r,e,h⟩:=G8 (f:=F) (λi (g:QLs)=>g=(T.take i).flatMap (HD n f ms)/\g.length<=i*n) (as:=T) (g:=[]) ⟨by simp,by simp⟩ λi c g hc hg=>by
  have hi:=(List.getElem?_eq_some_iff.mp hc).1
  obtain⟨h1,h2⟩:=hg
  have h3:(i+1)*n<=T.length*n:=Nat.mul_le_mul_right n (by omega)
  rw[Nat.succ_mul] at h3
  refine⟨_,hF g c (List.mem_of_getElem? hc) (by omega),?_,?_⟩
  ·rw[List.take_add_one,hc,List.flatMap_append, ←h1]
   simp
  ·rw[List.length_append,Nat.succ_mul]
   have:=Ex (n:=n) (f:=f) (ms:=ms) c
   omega
 rw[e,h.1,List.take_length]
 rfl
theorem Ps {N:Int}(hm:∀m∈ms,MG N m)(k:Nat):∀m∈ms.filter (C4 k),MG ((k+1:Nat):Int) m:=λm h=>by
 obtain⟨h1,h2⟩:=List.mem_filter.mp h
 unfold C4 at h2
 rw[decide_eq_true_eq,AC] at h2
 obtain⟨s,o,a,b⟩:=hm m h1
 exact⟨s,⟨o.1,by omega⟩,⟨a.1,by omega⟩,b.1,by omega⟩
theorem Wf {c:List Int}{k:Nat}(h1:c.length=k)(h2:∀x∈c,0<=x/\x<(n:Int)){j:Nat}(hj:j<n):∀i,0<=i->i<((k+1:Nat):Int)->atR (c++[(j:Int)]) i= .ok (NL (c++[(j:Int)]) i:Int)/\NL (c++[(j:Int)]) i<n:=
 Ss (k:=k+1) (by simp[h1]) λx hx=>by
  rcases List.mem_append.mp hx with z |z
  ·exact h2 x z
  ·rw[List.mem_singleton] at z;omega
theorem jd {c:List Int}{j:Int}(h:c.length<=1000):((chk ([j].length<=sizeLine) (Rs.ok [j])).bind λx=>NW c x)= .ok (c++[j]):=by
 rw[Xj (sz (by simp)),Rs.okb]
 exact Xj (sz (by simp;omega))
theorem Ld {N:Int}{k:Nat}{T:QLs}(hk:k<=900)(hl:ms.length<=1000)(hm:∀m∈ms,MG N m)(hT:AB n k T)(hb:T.length*n<=90000)(hn:n<=1000):Y9 T (JV n f) ((ms.filter (C4 k)).map Vz)= .ok (Ee n f (ms.filter (C4 k)) T):=by
 unfold Y9 ZZ;dsimp only
 simp only[Rs.okb,Qb]
 rw[outer (n:=n) (f:=f) (ms:=ms.filter (C4 k)) hb,Rs.okb]
 intro g c hc hg
 obtain⟨h1,h2⟩:=hT.2 c hc
 rw[Y3 (by omega),Rs.okb,VN (p:=λj=>(ms.filter (C4 k)).all (EV f (NL (c++[j])))) (h:=λj=>c++[j]) (by simp;omega),Rs.okb]
 ·rfl
 intro g' a ha f7
 obtain⟨j,hj,rfl⟩:=KN ha
 rw[jd (by omega),Rs.okb,By (cn:=NL (c++[(j:Int)])) (Nat.le_trans (List.length_filter_le ..) hl) (Wf h1 h2 hj) (Ps hm k),Xn,Rs.okb]
 cases(ms.filter (C4 k)).all (EV f (NL (c++[(j:Int)]))) with
 |true=>rw[if_pos rfl,Xj (FG (by omega))];rfl
 |false=>rw[if_neg Bool.false_ne_true];rfl
theorem TD (k:Nat):(ms.map Vz).filter (λt=>decide (JC [t.1,t.2.1,t.2.2]=(k:Int)))=(ms.filter (C4 k)).map Vz:=by
 induction ms with
 |nil=>rfl
 |cons m t ih=>
  have e:decide (JC [(Vz m).1,(Vz m).2.1,(Vz m).2.2]=(k:Int))=C4 k m:=by
   unfold Vz C4
   rw[AC]
   by_cases s:m.2.1=1
   ·rw[if_pos s,AC]
    congr 1
    rw[Int.max_comm m.2.2.2.1 m.2.2.1]
   ·rw[if_neg s,AC]
    congr 1
    rw[Int.max_comm m.2.2.2.2 m.2.2.1,Int.max_assoc,Int.max_comm m.2.2.2.2, ←Int.max_assoc]
  rw[List.map_cons,List.filter_cons,List.filter_cons,e,ih]
  cases C4 k m<;> rfl
end
theorem Oy (ws:QLs):BY ws<=ws.length:=by
 unfold BY
 exact List.length_filter_le ..
theorem Dr.dg {n:Nat}{ws:QLs}{sg:QPs}(d:Dr n ws sg):DG (ws,sg) where
 few:=by have:=d.lw;show ws.length<=_;omega
 short:=λw hw=>by have:=d.ll w hw;have:=d.ls;have:=d.n4;omega
 le:=by have:=d.ls;have:=d.n4;show sg.length<=_;omega
 mem:=λe he=>⟨d.pe.mem_iff.mpr (List.mem_flatMap.mpr ⟨e.1,List.mem_map_of_mem he,by simp⟩),d.pe.mem_iff.mpr (List.mem_flatMap.mpr ⟨e.1,List.mem_map_of_mem he,by simp⟩)⟩
 sg:=d.sn
 count:=by
  rw[UK,MC d.pe,show Yw (pm (kys sg))=_ from No d.k1]
  unfold kys
  rw[List.length_map]
theorem Pe:∀{xs:List Int},xs.Nodup->(∀y∈xs,1<=y)->(pm xs).Nodup
 | [],_,_=>List.nodup_nil
 |x::xs,h,h1=>by
  obtain⟨h2,h3⟩:=List.nodup_cons.mp h
  have hx:=h1 x List.mem_cons_self
  have h4:∀y∈xs,1<=y:=λy hy=>h1 y (.tail _ hy)
  have hn:∀y∈pm xs,(y.natAbs:Int)≠x:=λy hy e=>h2 (e▸PM hy h4)
  show(x:: -x::pm xs).Nodup
  rw[List.nodup_cons,List.nodup_cons,List.mem_cons]
  exact⟨λz=>z.elim (λz=>by omega) λz=>hn x z (by omega),λz=>hn (-x) z (by omega),Pe h3 h4⟩
structure Dw (D:QDr)(K:Nat):Prop where
 dg:DG D
 arcs:XS D.1=(K:Int)
 le:K<=40
structure Dk (D:QDr)(K:Nat):Prop where
 dw:Dw D K
 few:D.1.length<=100
 short:∀w∈D.1,w.length<=100
 nd:D.1.flatten.Nodup
theorem Dr.dk {n:Nat}{D:QDr}(d:Dr n D.1 D.2):∃K,Dk D K:=by
 have h:=d.dg
 have h4:=d.n4
 have h5:=d.ls
 have h6:=d.lw
 have h7:=h.count
 have h8:BY D.1<=D.1.length:=Oy D.1
 have h9:0<=XS D.1:=VY D.1
 have h7:XS D.1=(D.2.length:Int)+(BY D.1:Int):=h7
 exact⟨(XS D.1).toNat,⟨h,by omega,by omega⟩,by omega,λw hw=>by have:=d.ll w hw;omega,d.pe.nodup_iff.mpr (Pe d.gs.kn d.k1)⟩
theorem IJ:∀{l:List Int}{a:Int},a∈l->(∀x∈l,x<=a)->JC l=a:=by
 intro l
 have bw:∀(l:List Int) (b:Int),(∀x∈l,x<=JC (b::l))/\b<=JC (b::l)/\JC (b::l)∈b::l:=by
  intro l
  induction l with
  |nil=>intro b;exact⟨λx hx=>(nomatch hx),Int.le_refl _,List.mem_cons_self⟩
  |cons c l ih=>
   intro b
   obtain⟨h1,h2,h3⟩:=ih (max b c)
   have e:JC (b::c::l)=JC (max b c::l):=rfl
   rw[e]
   refine⟨λx hx=>?_,by omega,?_⟩
   ·rcases List.mem_cons.mp hx with rfl |hx
    ·omega
    ·exact h1 x hx
   ·rcases List.mem_cons.mp h3 with z |z
    ·rw[z]
     by_cases q:b<=c
     ·rw[Int.max_eq_right q];simp
     ·rw[Int.max_eq_left (by omega)];simp
    ·exact List.mem_cons_of_mem _ (List.mem_cons_of_mem _ z)
 intro a ha hb
 cases l with
 |nil=>cases ha
 |cons b l=>
  obtain⟨h1,h2,h3⟩:=bw l b
  have h4:=hb _ h3
  rcases List.mem_cons.mp ha with rfl |z
  ·omega
  ·have:=h1 a z;omega
theorem PN:∀{w:List Int}{v:Nat},v<Yw w->∃k,k<w.length/\Yw (w.take k)=v
 | [],v,h=>by
  have:Yw []=0:=rfl
  omega
 |x::w,v,h=>by
  by_cases c:v=0
  ·exact⟨0,by simp,by subst c;rfl⟩
  ·have e:∀u:List Int,Yw (x::u)=Yw [x]+Yw u:=λu=>JL [x] u
   rw[e] at h
   have h1:=B9 [x]
   have h1:Yw [x]<=1:=h1
   obtain⟨k,hk,hn⟩:=PN (w:=w) (v:=v-Yw [x]) (by omega)
   refine⟨k+1,by simpa using hk,?_⟩
   rw[List.take_succ_cons,e,hn]
   omega
theorem SG (w:List Int)(f:Int):JC (Qi w f)=f+(Q8 w:Int)-1:=by
 have hp:=G7 w
 refine IJ ?_ λx hx=>?_
 ·have:∃k,k<max w.length 1/\Yw (w.take k)=Q8 w-1:=by
   by_cases c:Yw w=0
   ·exact⟨0,by omega,by unfold Q8;rw[c];rfl⟩
   ·obtain⟨k,h1,h2⟩:=PN (w:=w) (v:=Yw w-1) (by omega)
    exact⟨k,by omega,by unfold Q8;omega⟩
  obtain⟨k,h1,h2⟩:=this
  have:=Gv w f h1
  rw[h2,Int.emod_eq_of_lt (by omega) (by omega)] at this
  refine List.mem_of_getElem? (this.trans ?_)
  congr 1
  omega
 ·obtain⟨k,hk,rfl⟩:=List.mem_map.mp hx
  have:=Int.emod_lt_of_pos (Yw (w.take k):Int) (show(0:Int)<(Q8 w:Int) by omega)
  omega
theorem Fk {D:QDr}{K:Nat}(h:Dw D K):V9 D= .ok (K:Int):=by
 have hl:=h.dg.few
 unfold V9 BQ;dsimp only
 simp only[Rs.okb]
 rw[Xj (sz (by simp)),Rs.okb,Dm h.dg.few h.dg.short,Xn,Rs.okb]
 have aO:∀(ws:QLs) (f:Int),(XT ws f).length=ws.length/\Nw (XT ws f) Ou=(chk ((XT ws f).length<=sizeLine) (.ok ((XT ws f).map JC))):=λws f=>by
  refine⟨Yf ws f,?_⟩
  unfold Nw
  congr 1
  refine Bn λr hr=>?_
  have aN:∀(ws:QLs) (f:Int) (r:List Int),r∈XT ws f->0<r.length:=λws=>by
   induction ws with
   |nil=>intro f r hr;cases hr
   |cons w ws ih=>
    intro f r hr
    rcases List.mem_cons.mp hr with rfl |hr
    ·rw[ZE];omega
    ·exact ih _ r hr
  unfold Ou
  rw[Xj (aN ws f r hr)]
 obtain⟨l1,l2⟩:=aO D.1 0
 rw[l2,Xj (sz (by omega)),Rs.okb,show NW [(-1:Int)] ((XT D.1 0).map JC)= .ok ([-1]++(XT D.1 0).map JC) from Xj (sz (by simp;omega)),Rs.okb]
 have hm:∀(ws:QLs) (f:Int),(∀x∈(XT ws f).map JC,x<=f+XS ws-1)/\(ws≠ []->f+XS ws-1∈(XT ws f).map JC):=λws=>by
  induction ws with
  |nil=>intro f;exact⟨λx hx=>(nomatch hx),λh=>absurd rfl h⟩
  |cons w ws ih=>
   intro f
   obtain⟨i1,i2⟩:=ih (f+Q8 w)
   have e:(XT (w::ws) f).map JC=(f+(Q8 w:Int)-1)::(XT ws (f+Q8 w)).map JC:=by
    show JC (Qi w f)::_=_
    rw[SG]
   have n0:=VY ws
   rw[e,Q5]
   refine⟨λx hx=>?_,λ_=>?_⟩
   ·rcases List.mem_cons.mp hx with rfl |hx
    ·omega
    ·have:=i1 x hx;omega
   ·by_cases c:ws=[]
    ·subst c
     have:XS []=0:=rfl
     rw[this]
     exact List.mem_cons.mpr (.inl (by omega))
    ·exact List.mem_cons_of_mem _ (by have:=i2 c;rwa [show f+(Q8 w:Int)+XS ws-1=f+((Q8 w:Int)+XS ws)-1 by omega] at this)
 obtain⟨m1,m2⟩:=hm D.1 0
 have hA:=h.arcs
 rw[hA] at m1 m2
 have:JC ([-1]++(XT D.1 0).map JC)=(K:Int)-1:=by
  refine IJ ?_ λx hx=>?_
  ·by_cases c:D.1=[]
   ·have:XS D.1=0:=by rw[c];rfl
    refine List.mem_append_left _ ?_
    have:K=0:=by omega
    subst this
    exact List.mem_singleton.mpr rfl
   ·refine List.mem_append_right _ ?_
    have:=m2 c
    rwa [Int.zero_add] at this
  ·rcases List.mem_append.mp hx with z |z
   ·rw[List.mem_singleton.mp z];omega
   ·have:=m1 x z;omega
 unfold Ou
 rw[Xj (by simp),Rs.okb,this]
 congr 1
 omega
theorem TR (s:Nat)(hs:1<=s)(k:Nat):min (min ((s^k:Nat):Int) 100000*(s:Int)) 100000=min ((s^(k+1):Nat):Int) 100000:=by
 have e:((s^(k+1):Nat):Int)=((s^k:Nat):Int)*(s:Int):=by rw[Nat.pow_succ,Int.natCast_mul]
 rw[e]
 by_cases c:((s^k:Nat):Int)<=100000
 ·rw[Int.min_eq_left c]
 ·have h1:((s^k:Nat):Int)*1<=((s^k:Nat):Int)*(s:Int):=Int.mul_le_mul_of_nonneg_left (by omega) (by omega)
  have h2:(100000:Int)*1<=100000*(s:Int):=Int.mul_le_mul_of_nonneg_left (by omega) (by omega)
  rw[Int.min_eq_right (by omega:(100000:Int)<=((s^k:Nat):Int))]
  omega
theorem N3 {s:Int}(h:s<=4):YC 4 s= .ok ():=by
 unfold YC Qt;dsimp only
 simp only[Rs.okb]
 rw[if_neg (by rw[decide_eq_true_eq];omega)]
theorem Hd {s K:Nat}(hs:s<=4)(hK:K<=40)(c:s^K<=65536):Yo (s:Int) (K:Int)= .ok ():=by
 unfold Yo Zi;dsimp only
 simp only[Rs.okb]
 rw[Y3 (by omega),Rs.okb]
 have hf:forN ((List.range K).map λ(i:Nat)=>(i:Int)) (1:Int) (λe7 _=>(Nv e7 (s:Int)).bind λgW=>Rs.ok gW)= .ok ((s^K:Nat):Int):=by
  apply Ok.eq
  refine Ok.imp (Ok.forN (λi (g:Int)=>g=((s^i:Nat):Int)) rfl λi a g ha hg=>?_) λg hg=>by rw[X1] at hg;exact hg
  subst hg
  rw[QU (by omega) (by omega),Rs.okb]
  refine⟨_,rfl,?_⟩
  rw[Nat.pow_succ]
  exact(Int.natCast_mul _ _).symm
 rw[hf,Rs.okb]
 rw[if_neg (by rw[decide_eq_true_eq];omega)]
theorem We {D:QDr}{n K:Nat}{f:Nat->Nat->Nat}(h:Dw D K)(hn:0<n)(h4:n<=4)(hp:n^K<=65536){ms:List M5}(e1:Up D= .ok ms)(hl:ms.length<=1000)(hm:∀m∈ms,MG (XS D.1) m):Z5 D (JV n f)= .ok (TT n f ms K):=by
 have hK:=h.le
 unfold Z5 Ji;dsimp only
 simp only[Rs.okb,Qb]
 rw[Ux h.dg.few h.dg.short,Xn,Rs.okb,h.arcs,Hd h4 hK hp,Xn,Rs.okb,S9 e1 hl,Xn,Rs.okb,Xj (sz (by simp)),Rs.okb,Y3 (by omega),Rs.okb]
 apply Ok.eq
 refine Ok.bind (Ok.forN (λk (T:QLs)=>T=TT n f ms k) rfl λk a T ha hT=>?_) λT hT=>?_
 ·obtain⟨rfl,hk⟩:=X9 ha
  subst hT
  have hc:=BE (n:=n) (f:=f) (ms:=ms) k
  have hpk:n^(k+1)<=65536:=Nat.le_trans (F1 hn (by omega)) hp
  have hb:(TT n f ms k).length*n<=90000:=by
   have:=Nat.mul_le_mul_right n hc.1
   have e:n^(k+1)=n^k*n:=Nat.pow_succ ..
   omega
  rw[FV (as:=ms.map Vz) (f:=λt=>Rs.ok t) (p:=λt:Int×Int×Int=>decide (JC [t.1,t.2.1,t.2.2]=(k:Int))) (h:=λt=>t) (sz (by rw[List.length_map];omega)) (λt _=>(by rw[show Ou [t.1,t.2.1,t.2.2]= .ok (JC [t.1,t.2.1,t.2.2]) from rfl];rfl)) λ_ _ _=>rfl,List.map_id',Rs.okb,TD,Ld (by omega) hl hm hc hb (by omega),Xn]
  exact⟨_,rfl,rfl⟩
 ·rw[X1] at hT
  exact⟨_,rfl,hT⟩
theorem LO {M B:Type}(a:M)(as:List M)(g:B)(f:B->M->Rs B):forN (a::as) g f=(f g a).bind λg'=>forN as g' f:=rfl
section
variable {D E:QDr}{n K Lqz s:Nat}{f:Nat->Nat->Nat}{ms:List M5}
theorem T6 (h:Dw D K)(hn:0<n)(h24:n<=100)(hp:n^K<=7000)(e2:QB D= .ok ms)(hl:ms.length<=1000)(hm:∀m∈ms,MG (XS D.1) m):DO D (JV n f)= .ok (TT n f ms K):=by
 have hK2:=h.le
 unfold DO Rj;dsimp only
 simp only[Rs.okb]
 rw[e2,Xn]
 simp only[Rs.okb]
 rw[Xj (sz (by simp)),Fk h,Xn,Qb]
 simp only[Rs.okb]
 rw[Y3 (by omega),Y3 (by omega)]
 simp only[Rs.okb]
 apply Ok.eq
 refine Ok.bind (Ok.forN (λk (T:QLs)=>T=TT n f ms k) rfl λk a T ha hT=>?_) λT hT=>?_
 ·obtain⟨rfl,hk⟩:=X9 ha
  subst hT
  have hc:=BE (n:=n) (f:=f) (ms:=ms) k
  have hpk:n^(k+1)<=7000:=Nat.le_trans (F1 hn (by omega)) hp
  have hb:(TT n f ms k).length*n<=90000:=by
   have:=Nat.mul_le_mul_right n hc.1
   have e:n^(k+1)=n^k*n:=Nat.pow_succ ..
   omega
  rw[FV (p:=C4 k) (h:=λm=>m) (sz (by omega)) (λm _=>?_) λ_ _ _=>rfl,List.map_id',Rs.okb]
  ·rw[outer (n:=n) (f:=f) (ms:=ms.filter (C4 k)) hb,Rs.okb]
   ·exact⟨_,rfl,rfl⟩
   intro g c hcm hg
   obtain⟨h1,h2⟩:=hc.2 c hcm
   rw[VN (p:=λj=>(ms.filter (C4 k)).all (EV f (NL (c++[j])))) (h:=λj=>c++[j]) (by simp;omega),Rs.okb]
   ·rfl
   intro g' a ha f7
   obtain⟨j,hj,rfl⟩:=KN ha
   rw[jd (by omega),Rs.okb,NG (cn:=NL (c++[(j:Int)])) (Wf h1 h2 hj) (Ps hm k),Xn,Rs.okb]
   cases(ms.filter (C4 k)).all (EV f (NL (c++[(j:Int)]))) with
   |true=>rw[if_pos rfl,Rs.okb,Xj (FG (by omega))];rfl
   |false=>rw[if_neg Bool.false_ne_true];rfl
  ·rw[Xj (by simp[HT.sIx])]
   rfl
 ·rw[X1] at hT
  exact⟨_,rfl,hT⟩
theorem WW (h:Dk D K)(hn:0<n)(h4:n<=4)(hp:n^K<=1000):∃c:Int,KA D (JV n f)= .ok c/\((noE (DO D (JV n f))).bind λx=>Rs.ok (x.length:Int))= .ok c:=by
 obtain⟨ms,e1,e2,e3,e4⟩:=HA h.dw.dg h.few h.short h.nd
 have hl:ms.length<=1000:=by have:=h.dw.dg.le;omega
 refine⟨((TT n f ms K).length:Int),?_,?_⟩
 ·unfold KA Ir;dsimp only
  simp only[Rs.okb]
  rw[We h.dw hn h4 (by omega) e1 hl e4,Xn,Rs.okb]
 ·rw[T6 h.dw hn (by omega) (by omega) e2 hl e4,Xn,Rs.okb]
theorem R6 (h:Dk D K)(hn:0<n)(h4:n<=4)(hp:n^K<=1000){l:List QLs}(hl:∀t∈l,∃f:Nat->Nat->Nat,t=JV n f):∃c:QLs->Int,∀t∈l,KA D t= .ok (c t)/\((noE (DO D t)).bind λx=>Rs.ok (x.length:Int))= .ok (c t):=by
 have:∀t:QLs,∃c:Int,t∈l->KA D t= .ok c/\((noE (DO D t)).bind λx=>Rs.ok (x.length:Int))= .ok c:=λt=>by
  by_cases q:t∈l
  ·obtain⟨f,rfl⟩:=hl t q
   obtain⟨c,hc⟩:=WW (f:=f) h hn h4 hp
   exact⟨c,λ_=>hc⟩
  ·exact⟨0,λz=>absurd z q⟩
 obtain⟨F,hF⟩:=Classical.axiomOfChoice this
 exact⟨F,hF⟩
theorem qi (h:Dw D K)(hs:s<=4)(hp:s^K<=65536):ZG (s:Int) [D]= .ok ():=by
 unfold ZG QL;dsimp only
 simp only[Rs.okb]
 rw[N3 (by omega),Xn,Rs.okb]
 rw[LO,Ux h.dg.few h.dg.short,h.arcs,Xn,Rs.okb,Hd hs h.le hp,Xn,Rs.okb,Rs.okb]
 rfl
theorem ju {n:Nat}(h:n<=10):Ny 1 ((n:Int)+1)= .ok ((List.range n).map λ(i:Nat)=>((i+1:Nat):Int)):=by
 unfold Ny
 rw[Xj (by omega)]
 unfold VL
 congr 1
 rw[show((n:Int)+1-1).toNat=n by omega]
 exact List.map_congr_left λi _=>by omega
theorem EH {M B:Type}{F G:B->M->Rs B}(P:Nat->B->Prop):∀{as:List M}{k:Nat}{g:B},P k g->(∀i a g,as[i]?=some a->P (k+i) g->∃g',F g a= .ok g'/\G g a= .ok g'/\P (k+i+1) g')->∃g',forN as g F= .ok g'/\forN as g G= .ok g'/\P (k+as.length) g'
 | [],k,g,h,_=>⟨g,rfl,rfl,h⟩
 |a::as,k,g,h,hs=>by
  obtain⟨g',e1,e2,h'⟩:=hs 0 a g rfl h
  obtain⟨g'',e3,e4,gh⟩:=EH P (as:=as) (k:=k+1) (g:=g') h' λi b g hb hg=>by
   have:=hs (i+1) b g hb (by rwa [show k+(i+1)=k+1+i by omega])
   rwa [show k+(i+1)+1=k+1+i+1 by omega] at this
  exact⟨g'',by rw[LO,e1];exact e3,by rw[LO,e2];exact e4,by rw[List.length_cons,show k+(as.length+1)=k+1+as.length by omega];exact gh⟩
theorem Ii {n i:Nat}{a:Int}(h:((List.range n).map λ(i:Nat)=>((i+1:Nat):Int))[i]?=some a):a=((i+1:Nat):Int)/\i<n:=by
 have hi:=(List.getElem?_eq_some_iff.mp h).1
 rw[List.length_map,List.length_range] at hi
 rw[List.getElem?_map,List.getElem?_range hi] at h
 exact⟨(Option.some.inj h).symm,hi⟩
theorem Ey (h:Dk D K)(hs:s<=4)(hp:s^K<=1000):∃l:List Int,EJ D (s:Int)= .ok l/\O0 D (s:Int)= .ok l/\l.length<=64*s:=by
 unfold EJ O0 M4 R0;dsimp only
 simp only[Rs.okb]
 rw[Xj (sz (by simp)),Rs.okb,qi h.dw hs (by omega),Xn,Rs.okb,ju (by omega),Rs.okb,Rs.okb]
 obtain⟨g,e1,e2,e3⟩:=EH (F:=λfT gt=>Rs.bind (Rs.bind (noE (Zz gt)) λfe=>(Nw fe (λiJ=>(noE (KA D iJ))))) λa30=>(chk (fT.length+a30.length<=sizeLine) (Rs.ok (fT++a30)))) (G:=λe7 gS=>Rs.bind (noE (Zz gS)) λfB=>Rs.bind (forN fB e7 (λfQ iM=>Rs.bind (Rs.bind (noE (DO D iM)) λfe=>(Rs.ok (fe.length:Int))) λa27=>(chk (fQ.length<sizeLine) (Rs.ok (fQ++[a27]))))) λiD=>Rs.ok iD) (λk (g:List Int)=>g.length<=64*k) (as:=(List.range s).map λ(i:Nat)=>((i+1:Nat):Int)) (k:=0) (g:=[]) (Nat.le_refl _) λi a g ha hg=>by
  obtain⟨rfl,hi⟩:=Ii ha
  obtain⟨l,e1,l1,l2⟩:=(Rc (n:=i+1) (by omega) (by omega)).2
  obtain⟨c,hc⟩:=R6 h (n:=i+1) (by omega) (by omega) (Nat.le_trans (Nat.pow_le_pow_left (by omega) K) hp) l2
  refine⟨g++l.map c,?_,?_,by rw[List.length_append,List.length_map];omega⟩
  ·rw[e1,Xn,Rs.okb,Q0 (h:=c) (sz (by omega)) λt ht=>by rw[(hc t ht).1,Xn],Rs.okb,Xj (sz (by rw[List.length_map];omega))]
  ·rw[e1,Xn,Rs.okb,VH (h:=c) (sz (by omega)) λg hg t ht=>by rw[(hc t ht).2,Rs.okb,Xj hg],Rs.okb]
 rw[List.length_map,List.length_range,Nat.zero_add] at e3
 exact⟨g,by rw[e1,Rs.okb],by rw[e2,Rs.okb],e3⟩
theorem Bd (h:Dw D K)(h':Dw E Lqz):∃q:Nat,QA [D,E] 1000= .ok (q:Int)/\1<=q/\q<=4/\q^K<=1000/\q^Lqz<=1000:=by
 have hK:=h.le
 have hL:=h'.le
 obtain⟨Mqz,hM⟩:∃Mqz:Nat,Mqz=max K Lqz:=⟨_,rfl⟩
 suffices Ok (QA [D,E] 1000) λg=>∃ q:Nat,g=(q:Int)/\1<=q/\q<=4/\q^Mqz<=1000 by
  obtain⟨g,e,q,rfl,q1,q2,q3⟩:=this
  exact⟨q,e,q1,q2,Nat.le_trans (F1 q1 (by omega)) q3,Nat.le_trans (F1 q1 (by omega)) q3⟩
 unfold QA Ui;dsimp only
 simp only[Rs.okb]
 rw[show Ny 2 5= .ok [2,3,4] from rfl,Rs.okb]
 refine Ok.bind (Ok.forN (λ_ g=>∃ q:Nat,g=(q:Int)/\1<=q/\q<=4/\q^Mqz<=1000) ⟨1,rfl,by decide,by decide,by rw[Nat.one_pow];decide⟩ λi a g ha hg=>?_) λg hg=>⟨_,rfl,hg⟩
 obtain⟨s,rfl,s2,s4⟩:∃s:Nat,a=(s:Int)/\2<=s/\s<=4:=by
  have:=List.mem_of_getElem? ha
  simp only[List.mem_cons,List.not_mem_nil,or_false] at this
  rcases this with rfl |rfl |rfl
  ·exact⟨2,rfl,by decide,by decide⟩
  ·exact⟨3,rfl,by decide,by decide⟩
  ·exact⟨4,rfl,by decide,by decide⟩
 have em:Nw [D,E] (λcw=>noE (V9 cw))= .ok [(K:Int),(Lqz:Int)]:=by
  unfold Nw
  rw[Xj (sz (by simp))]
  unfold EG
  rw[Fk h,Xn,Rs.okb]
  unfold EG
  rw[Fk h',Xn,Rs.okb]
  rfl
 rw[em,Rs.okb,show Ou [(K:Int),(Lqz:Int)]= .ok (Mqz:Int) from by
  rw[show Ou [(K:Int),(Lqz:Int)]= .ok (max (K:Int) (Lqz:Int)) from rfl]
  congr 1
  omega,Rs.okb,Y3 (by omega),Rs.okb]
 have hp:Az (10:Int) (5:Int)= .ok 100000:=rfl
 refine Ok.bind (Ok.forN (λk (g:Int)=>g=min ((s^k:Nat):Int) 100000) (by rw[Nat.pow_zero];rfl) λk a g ha hg=>?_) λt ht=>?_
 ·subst hg
  have h0:(0:Int)<=((s^k:Nat):Int):=by omega
  rw[ZB (by omega) (by omega),Rs.okb,hp,Rs.okb,Rs.okb]
  exact⟨_,rfl,TR s (by omega) k⟩
 ·rw[X1] at ht
  subst ht
  by_cases c:s^Mqz<=1000
  ·rw[show decide (min ((s^Mqz:Nat):Int) 100000<=1000)=true from decide_eq_true (by omega),okt,Rs.okb]
   exact⟨_,rfl,s,rfl,by omega,s4,c⟩
  ·rw[show decide (min ((s^Mqz:Nat):Int) 100000<=1000)=false from decide_eq_false (by omega),okf,Rs.okb]
   exact⟨_,rfl,hg⟩
theorem ID (h:Dk D K):Ez D= .ok D:=by
 unfold Ez MY;dsimp only
 simp only[Rs.okb]
 rw[Kk h.few,Rs.okb]
end
theorem IP (l:List Int):QW l= .ok true:=by
 unfold QW Vs;dsimp only
 simp only[Rs.okb,Bool.not_true,okf]
 rw[Hi λa _=>by rfl,Rs.okb]
 rfl
theorem OY (ns:List Int)(_:ns.length<=63):LR ns= .ok true:=by
 unfold LR RS;dsimp only
 simp only[Rs.okb]
 obtain⟨⟨ws,sg⟩,e0,d0⟩:=E1 ns (show(0:Int)<=0 by decide)
 obtain⟨E,e8,d8⟩:=E1 ns (show(0:Int)<=8 by decide)
 obtain⟨r,er,rl,hr⟩:=Hh ns (show(0:Int)<=7 by decide) [2,6] (by decide) (by decide)
 have rl:r.length=2:=rl
 rw[e0,Xn,Rs.okb,Xj (sz (by simp)),Rs.okb,er,Xn,Rs.okb,Ys (r:=r) (k:=0) (n:=0) rfl (by omega),Ys (r:=r) (k:=1) (n:=1) rfl (by omega)]
 simp only[Rs.okb]
 refine Ok.eq (Ok.bind (R:=λD:QDr=>Dr 5 D.1 D.2) (Ok.ite (λ_=>?_) λ_=>⟨_,rfl,d0.mono (by decide) (by decide)⟩) λD dD=>?_)
 ·rw[Xj (sz (by simp)),Rs.okb]
  obtain⟨x,ex,dx⟩:=Oi ns d0 (wds:=["turn","curl","uncurl","pass"]) (by decide) λw hw=>by simpa using hw
  rw[ex,Xn,Rs.okb]
  exact⟨_,rfl,dx⟩
 obtain⟨K,hK⟩:=dD.dk
 obtain⟨Lqz,hL⟩:=d8.dk
 obtain⟨q,eq,q1,q4,qK,qL⟩:=Bd hK.dw hL.dw
 rw[e8,Xn,Rs.okb,Xj (sz (by simp)),Rs.okb,eq,Xn,Rs.okb]
 obtain⟨s,es,s1,s2⟩:∃s:Nat,min (q:Int) (3+if decide (r[1]=0)=true then 1 else 0)=(s:Int)/\1<=s/\s<=q:=by
  cases decide (r[1]=0) with
  |true=>exact⟨min q 4,by simp;omega,by omega,by omega⟩
  |false=>exact⟨min q 3,by simp;omega,by omega,by omega⟩
 rw[es,ID hK,Xn,Rs.okb]
 obtain⟨l,m1,m2,m3⟩:=Ey hK (s:=s) (by omega) (Nat.le_trans (Nat.pow_le_pow_left s2 K) qK)
 obtain⟨l',m4,m5,m6⟩:=Ey hL (s:=s) (by omega) (Nat.le_trans (Nat.pow_le_pow_left s2 Lqz) qL)
 rw[m2,Xn,Rs.okb,m1,Xn,Rs.okb,Rs.okb,IP,Xn,Rs.okb]
 simp only[decide_true,Bool.not_true,orF,okf,Rs.okb]
 rw[Xj (FG (by omega)),ID hL,Xn,Rs.okb,m4,Xn,Rs.okb,m5,Xn,Rs.okb]
 simp only[decide_true,Bool.not_true,okf,Rs.okb]
 exact⟨_,rfl,rfl⟩
theorem jx {K:W.Frag}{mg:Str->Option Value}{h:Heap}(X:K.In h)(G:h.Ns mainGlobals mg){x p0:Str}{st:Stmt}{f:Addr}{oc:Value}{od an:Option Addr}{cO:Array (Option Value)}{kV doc pm aj ct:Value}(hb:∀(kV doc pm:Value) (an:Option Addr) (aj ct u0:Value),bindArgs (W.fnOf x x (YQ st) (X4 st) (Xg st) .none kV doc pm an aj ct) ⟨[u0],[]⟩=pure ([p0].zip [u0]))(a:W.nsIn K mainGlobals x=some (some (.ref f)))(l:K.lookup f=some ⟨oc,od, .func (W.fnOf x x (YQ st) (X4 st) (Xg st) .none kV doc pm an aj ct),cO⟩)(c:W.codeIn K aj x=true)(k:W.keepIn K (.ref f)=true):Def K mg x st [p0]:=⟨f,_,Jk l c k,(Jk l c k).binds λ_ _ _ _ _ _ us hl=>(by obtain⟨_,rfl⟩:=T9 hl;exact hb ..),W.mg_of X G a⟩
theorem jA {K:W.Frag}{mg:Str->Option Value}{h:Heap}(X:K.In h)(G:h.Ns mainGlobals mg){x p0 p1:Str}{st:Stmt}{f:Addr}{oc:Value}{od an:Option Addr}{cO:Array (Option Value)}{kV doc pm aj ct:Value}(hb:∀(kV doc pm:Value) (an:Option Addr) (aj ct u0 u1:Value),bindArgs (W.fnOf x x (YQ st) (X4 st) (Xg st) .none kV doc pm an aj ct) ⟨[u0,u1],[]⟩=pure ([p0,p1].zip [u0,u1]))(a:W.nsIn K mainGlobals x=some (some (.ref f)))(l:K.lookup f=some ⟨oc,od, .func (W.fnOf x x (YQ st) (X4 st) (Xg st) .none kV doc pm an aj ct),cO⟩)(c:W.codeIn K aj x=true)(k:W.keepIn K (.ref f)=true):Def K mg x st [p0,p1]:=⟨f,_,Jk l c k,(Jk l c k).binds λ_ _ _ _ _ _ us hl=>(by obtain⟨_,_,rfl⟩:=Wx hl;exact hb ..),W.mg_of X G a⟩
theorem jt {K:W.Frag}{mg:Str->Option Value}{h:Heap}(X:K.In h)(G:h.Ns mainGlobals mg){x p0 p1 p2:Str}{st:Stmt}{f:Addr}{oc:Value}{od an:Option Addr}{cO:Array (Option Value)}{kV doc pm aj ct:Value}(hb:∀(kV doc pm:Value) (an:Option Addr) (aj ct u0 u1 u2:Value),bindArgs (W.fnOf x x (YQ st) (X4 st) (Xg st) .none kV doc pm an aj ct) ⟨[u0,u1,u2],[]⟩=pure ([p0,p1,p2].zip [u0,u1,u2]))(a:W.nsIn K mainGlobals x=some (some (.ref f)))(l:K.lookup f=some ⟨oc,od, .func (W.fnOf x x (YQ st) (X4 st) (Xg st) .none kV doc pm an aj ct),cO⟩)(c:W.codeIn K aj x=true)(k:W.keepIn K (.ref f)=true):Def K mg x st [p0,p1,p2]:=⟨f,_,Jk l c k,(Jk l c k).binds λ_ _ _ _ _ _ us hl=>(by obtain⟨_,_,_,rfl⟩:=W5 hl;exact hb ..),W.mg_of X G a⟩
theorem jw {K:W.Frag}{mg:Str->Option Value}{h:Heap}(X:K.In h)(G:h.Ns mainGlobals mg){x p0 p1 p2 p3:Str}{st:Stmt}{f:Addr}{oc:Value}{od an:Option Addr}{cO:Array (Option Value)}{kV doc pm aj ct:Value}(hb:∀(kV doc pm:Value) (an:Option Addr) (aj ct u0 u1 u2 u3:Value),bindArgs (W.fnOf x x (YQ st) (X4 st) (Xg st) .none kV doc pm an aj ct) ⟨[u0,u1,u2,u3],[]⟩=pure ([p0,p1,p2,p3].zip [u0,u1,u2,u3]))(a:W.nsIn K mainGlobals x=some (some (.ref f)))(l:K.lookup f=some ⟨oc,od, .func (W.fnOf x x (YQ st) (X4 st) (Xg st) .none kV doc pm an aj ct),cO⟩)(c:W.codeIn K aj x=true)(k:W.keepIn K (.ref f)=true):Def K mg x st [p0,p1,p2,p3]:=⟨f,_,Jk l c k,(Jk l c k).binds λ_ _ _ _ _ _ us hl=>(by obtain⟨_,_,_,_,rfl⟩:=Wk hl;exact hb ..),W.mg_of X G a⟩
theorem jz {K:W.Frag}{mg:Str->Option Value}{h:Heap}(X:K.In h)(G:h.Ns mainGlobals mg){x p0 p1 p2 p3 p4:Str}{st:Stmt}{f:Addr}{oc:Value}{od an:Option Addr}{cO:Array (Option Value)}{kV doc pm aj ct:Value}(hb:∀(kV doc pm:Value) (an:Option Addr) (aj ct u0 u1 u2 u3 u4:Value),bindArgs (W.fnOf x x (YQ st) (X4 st) (Xg st) .none kV doc pm an aj ct) ⟨[u0,u1,u2,u3,u4],[]⟩=pure ([p0,p1,p2,p3,p4].zip [u0,u1,u2,u3,u4]))(a:W.nsIn K mainGlobals x=some (some (.ref f)))(l:K.lookup f=some ⟨oc,od, .func (W.fnOf x x (YQ st) (X4 st) (Xg st) .none kV doc pm an aj ct),cO⟩)(c:W.codeIn K aj x=true)(k:W.keepIn K (.ref f)=true):Def K mg x st [p0,p1,p2,p3,p4]:=⟨f,_,Jk l c k,(Jk l c k).binds λ_ _ _ _ _ _ us hl=>(by obtain⟨_,_,_,_,_,rfl⟩:=qv hl;exact hb ..),W.mg_of X G a⟩
theorem Wp {l:PySem.W.OpenLaw}{w:World}{K:W.Frag}{h:Heap}{mg:Str->Option Value}{fa f:Addr}{tk0:Tok}{tk1:Tok}{tk2:Tok}(X:K.In h)(G:h.Ns mainGlobals mg)(hfa:mg "law" =some (.ref fa)){od an:Option Addr}{sl:Array (Option Value)}{oc kV dc pm cd ct:Value}
  (D1:Def K mg "refuse_above" Qo ["most","size"])
  (D2:Def K mg "each_once" Vj ["count"])
  (D3:Def K mg "longer_by_one" ZL ["lists","count"])
  (D4:Def K mg "broken" GV ["table"])
  (D5:Def K mg "breach_of_one" ZY ["table"])
  (D6:Def K mg "breach_of_two" Ze ["table"])
  (D7:Def K mg "first_same" Jr ["column"])
  (D8:Def K mg "breach_of_three" Zn ["table"])
  (D9:Def K mg "tables" VX ["size"])
  (D10:Def K mg "all_columns" ZD ["size"])
  (D11:Def K mg "longer_by_columns" Yv ["choices","columns"])
  (D12:Def K mg "table_of_columns" Ye ["columns"])
  (D13:Def K mg "like" Mi ["one","other"])
  (D14:Def K mg "refuse_big" JA ["one","other"])
  (D15:Def K mg "searched" Uq ["one","other"])
  (D16:Def K mg "longer_images" Y6 ["images","size"])
  (D17:Def K mg "first_breach" Qr ["one","other","images"])
  (D18:Def K mg "equation_broken" Zm ["one","other","images","a","b"])
  (D19:Def K mg "kinds" FJ ["size"])
  (D20:Def K mg "spot" Mm ["drawing","passage"])
  (D21:Def K mg "arcs" Lo ["drawing"])
  (D22:Def K mg "arc_count" Q7 ["drawing"])
  (D23:Def K mg "arcs_of_walk" Zq ["walk"])
  (D24:Def K mg "arcs_of_ways" Qm ["walk","first"])
  (D25:Def K mg "meets" Be ["drawing"])
  (D26:Def K mg "ties" Lv ["drawing"])
  (D27:Def K mg "all_held" JT ["table","colours","asked"])
  (D28:Def K mg "colourings" Qe ["drawing","table"])
  (D29:Def K mg "refuse_too_much" Zl ["size","count"])
  (D30:Def K mg "longer_by_arc" Z2 ["lists","table","asked"])
  (D31:Def K mg "many" I9 ["drawing","table"])
  (D32:Def K mg "mark" EW ["drawing","size"])
  (D33:Def K mg "refuse_size" QJ ["size","drawings"])
  (D34:Def K mg "_law_cell" IE ["_law_script","_law_place"])
  (D35:Def K mg "_law_mix" RC ["_law_cell_here","_law_k"])
  (D36:Def K mg "_law_row" Ti ["_law_script","_law_place","_law_sizes"])
  (D37:Def K mg "_law_traced" Fl ["_law_lows","_law_signs","_law_strands"])
  (D38:Def K mg "_law_turn_back" Zh ["_law_walks","_law_signs","_law_some"])
  (D39:Def K mg "_law_begun" GJ ["_law_script","_law_place"])
  (D40:Def K mg "_law_pairs" Bc ["_law_walks"])
  (D41:Def K mg "_law_straight" V5 ["_law_signs","_law_top","_law_mid","_law_low"])
  (D42:Def K mg "_law_passes" JI ["_law_drawing"])
  (D43:Def K mg "_law_lay_in" Fi ["_law_walks","_law_at","_law_k","_law_one","_law_two"])
  (D44:Def K mg "_law_cut_out" Kc ["_law_walks","_law_at","_law_k"])
  (D45:Def K mg "_law_do" AD ["_law_drawing","_law_move"])
  (D46:Def K mg "_law_new" Tz ["_law_signs","_law_name"])
  (D47:Def K mg "_law_curl" Li ["_law_drawing","_law_some"])
  (D48:Def K mg "_law_lay" Od ["_law_drawing","_law_some"])
  (D49:Def K mg "_law_next" Lf ["_law_script","_law_place","_law_drawing","_law_word"])
  (D50:Def K mg "_law_chain" BC ["_law_script","_law_place","_law_drawing","_law_words"])
  (D51:Def K mg "_law_copy" EA ["_law_drawing"])
  (D52:Def K mg "_law_is_wholes" Vo ["_law_found"])
  (D53:Def K mg "_law_arcs" Fq ["_law_walks"])
  (D54:Def K mg "_law_count" FI ["_law_drawing"])
  (D55:Def K mg "_law_meets" VI ["_law_drawing"])
  (D56:Def K mg "_law_keeps" Ba ["_law_meetings","_law_table","_law_colours"])
  (D57:Def K mg "_law_all" NY ["_law_drawing","_law_table"])
  (D58:Def K mg "_law_greatest" JS ["_law_drawings","_law_most"])
  (D59:Def K mg "_law_due" Rx ["_law_drawing","_law_size"])
  (a:W.nsIn K mainGlobals "law" =some (some (.ref f)))(l0:K.lookup f=some ⟨oc,od, .func (W.fnOf "law" "law" (YQ GR) (X4 GR) (Xg GR) .none kV dc pm an cd ct),sl⟩)(c:W.codeIn K cd "law" =true)(k:W.keepIn K (.ref f)=true)
  (z1:W.nsIn K mainGlobals "abs" =some none)
  (z2:W.nsIn K mainGlobals "all" =some none)
  (z3:W.nsIn K mainGlobals "bool" =some none)
  (z4:W.nsIn K mainGlobals "dict" =some none)
  (z5:W.nsIn K mainGlobals "enumerate" =some none)
  (z6:W.nsIn K mainGlobals "int" =some none)
  (z7:W.nsIn K mainGlobals "isinstance" =some none)
  (z8:W.nsIn K mainGlobals "len" =some none)
  (z9:W.nsIn K mainGlobals "list" =some none)
  (z10:W.nsIn K mainGlobals "max" =some none)
  (z11:W.nsIn K mainGlobals "min" =some none)
  (z12:W.nsIn K mainGlobals "range" =some none)
  (z13:W.nsIn K mainGlobals "sorted" =some none)
  (z14:W.nsIn K mainGlobals "sum" =some none)
  (z15:W.nsIn K mainGlobals "zip" =some none)
  (w0:W.nsIn K mainGlobals "MOST_LISTS" =some (some (.int 65536 tk0)))
  (w1:W.nsIn K mainGlobals "MOST_OF_ALL" =some (some (.int 4 tk1)))
  (w2:W.nsIn K mainGlobals "MOST_TO_COMPARE" =some (some (.int 6 tk2)))
  :∃fd:FuncData,(∀(s:Shared) (v:Value),BindsTo s fd ⟨[v],[]⟩ [("_law_script",v)])/\∀base:Heap,K.In base->base.Ns mainGlobals mg->FnOk l.prog w K mg base CX0 9 fa fd ["_law_script"] (sp1 (rL Xf) (oF XI) LR K):=by
 have e:=hfa.symm.trans (W.mg_of X G a)
 cases e
 have N:∀{x:Str},W.nsIn K mainGlobals x=some none->mg x=none:=λz=>PySem.W.mg_none_of X G z
 have Z:Blt mg:=⟨N z1,N z2,N z3,N z4,N z5,N z6,N z7,N z8,N z9,N z10,N z11,N z12,N z13,N z14,N z15,⟨_,W.mg_of X G w0,_,rfl⟩,⟨_,W.mg_of X G w1,_,rfl⟩,⟨_,W.mg_of X G w2,_,rfl⟩⟩
 refine⟨W.fnOf "law" "law" (YQ GR) (X4 GR) (Xg GR) .none kV dc pm an cd ct,λs v=>.of_eq rfl,λbase _ _=>?_⟩
 have qq:∀{L:Type}(F:Program->World->PySem.W.Frag->(Str->Option Value)->Heap->L->Prop)(m:L),F l.prog w K mg base m->F l.prog w K mg base m:=λ_ _ h=>h
 have cK:=qq LG En <|IW.2 Z D34
 have dN:=qq S1 OP <|Th.2 Z D35
 have aT:=qq Ia Fz <|RX.2 Z D36 cK dN
 have b7:=qq F0 U0 <|Fv.2 Z D37
 have bj:=qq Vx QP <|Vh.2 Z D38
 have bI:=qq Eg Fe <|Bq.2 Z D39 aT b7 bj
 have cb:=qq Nh Ez <|MY.2 Z D51
 have af:=qq YV YC <|Qt.2 Z D1
 have au:=qq Y8 Qg <|Qf.2 Z D12
 have aE:=qq ZW Jp <|Jf.2 Z D3
 have bi:=qq Vv Ku <|K2.2 Z D2 aE
 have ar:=qq Y1 ZQ <|ZP.2 Z D11
 have aR:=qq QQ VZ <|VQ.2 Z D10 bi ar
 have aF:=qq ZX Jg <|JF.2 Z D5
 have aW:=qq Jx Uu <|UJ.2 Z D7
 have aG:=qq ZO Je <|Jw.2 Z D6 aW
 have ax:=qq Zj QD <|Qy.2 Z D8
 have b4:=qq FD E6 <|E4.2 Z D4 aF aG ax
 have b5:=qq Fg Qa <|E7.2 Z D9 af au aR b4
 have aX:=qq Jh UB <|UG.2 Z D14 af
 have az:=qq Zg Qz <|QG.2 Z D18
 have aK:=qq Qq J7 <|J6.2 Z D17 az
 have aH:=qq Z1 Jt <|JB.2 Z D16
 have bB:=qq Ue Gp <|Gq.2 Z D15 aK aH
 have dq:=qq Nl Mj <|Pk.2 Z D13 aX bB
 have br:=qq Dc Zz <|Ef.2 Z D19 b5 dq
 have aV:=qq U7 VD <|G2.2 Z D53
 have bO:=qq Kq QB <|Km.2 Z D55 aV
 have bu:=qq G3 V9 <|BQ.2 Z D54 aV
 have cM:=qq BH Fj <|Bl.2 Z D56
 have fi:=qq Tr DO <|Rj.2 Z D57 bO bu cM
 have da:=qq Sf O0 <|R0.2 Z D59 br fi
 have ai:=qq YM Yo <|Zi.2 Z D29
 have ag:=qq YR YB <|Qp.2 Z D23
 have av:=qq QH ZS <|Va.2 Z D22 ag
 have aS:=qq QY ZG <|QL.2 Z D33 af ai av
 have aL:=qq Qw Zr <|Qn.2 Z D24 ag
 have dr:=qq IA Ep <|LD.2 Z D21 ag aL
 have cH:=qq IC EK <|MZ.2 Z D20
 have cI:=qq B0 Up <|Bp.2 Z D25 dr cH
 have dt:=qq Lx Es <|Lu.2 Z D26 cI
 have bC:=qq Ur JK <|V8.2 Z D27
 have aI:=qq ZN Y9 <|ZZ.2 Z D30 bC
 have aZ:=qq Js Z5 <|Ji.2 Z D28 av ai dt aI
 have du:=qq Nt KA <|Ir.2 Z D31 aZ
 have bP:=qq MU EJ <|M4.2 Z D32 aS du br
 have b9:=qq OH IQ <|RD.2 Z D46
 have dz:=qq MS Cj <|IT.2 Z D47 b9
 have cL:=qq BU FE <|El.2 Z D40
 have bD:=qq V7 JG <|V4.2 Z D41
 have ca:=qq G6 U5 <|G9.2 Z D42 cL bD
 have fh:=qq RI WL <|T7.2 Z D48 b9
 have dA:=qq IB Ck <|Me.2 Z D49 aT dz ca fh
 have bn:=qq Fw UW <|GW.2 Z D43
 have bt:=qq K9 V0 <|Kp.2 Z D44
 have ie:=qq AQ HI <|TX.2 Z D45 bn bt
 have bY:=qq B1 G0 <|B4.2 Z D50 aT dA ie
 have ba:=qq V3 QA <|Ui.2 Z D58 bu
 have aP:=qq Vu QW <|Vs.2 Z D52
 exact RS.2 (Jk (st:=GR) l0 c k) bI aT cb da bP bY ba aP Z
theorem jE {l:PySem.W.OpenLaw}{q:Program}{cv:List Str}{XP:(Str->Option Value)->Heap->Prop}{YP:World->Heap->Prop}{d:DefRec}{K:Params->W.Frag}(hn:l.most=some 63)(iY:d.params.defaults=[])
  (hY:∀(w:World) (h:Heap),YP w h->(K w.params).In h)
  (F:∀(w:World) (mg:Str->Option Value) (fa:Addr) (h:Heap),(K w.params).In h->h.Ns mainGlobals mg->mg d.name=some (.ref fa)->
   ∃fd:FuncData,(∀(s:Shared) (u:Value),BindsTo s fd ⟨[u],[]⟩ [("_law_script",u)])/\∀base:Heap,(K w.params).In base->base.Ns mainGlobals mg->FnOk l.prog w (K w.params) mg base CX0 9 fa fd ["_law_script"] (sp1 (rL Xf) (oF XI) LR (K w.params))):
  PySem.W.WalkO q cv XP YP l.row.toRowW d [] (λf vs=>PySem.call f vs):=
 L2.RT (n:=63) (k:=9) (x:="_law_script") (CX:=λ_=>CX0) (sp:=λw=>sp1 (rL Xf) (oF XI) LR (K w.params)) hn (by decide) iY ⟨rfl,by decide,by decide⟩ hY F (λ_ _ a ns hl _ hS=>⟨.ref a,ns,true,rfl,⟨a,_,rfl,hS,Bi ns⟩,OY ns hl,λv C H' w m ho=>ho.2⟩) λ_ _ _ _ _ z=>z
end My
open PySem PySem.W PyProof.Rows
set_option maxRecDepth 100000 in
set_option maxHeartbeats 0 in
theorem PySem.Challenge.cw_plait_k75_mark_holds : PySem.Challenge.rw_plait_k75_mark.Holds := by
  w_on; o_law; k_head; (case hw => w_witness2)
  k_fill
  refine My.jE (l := PySem.Challenge.rw_plait_k75_mark) rfl rfl (fun w h Y => PySem.W.kIn_of Y) ?F
  case F =>
    intro w mg fa h KX G hmg
    apply My.Wp KX G hmg
    all_goals first | (apply My.jx KX G <;> first | k_is | (intros; rfl)) | (apply My.jA KX G <;> first | k_is | (intros; rfl)) | (apply My.jt KX G <;> first | k_is | (intros; rfl)) | (apply My.jw KX G <;> first | k_is | (intros; rfl)) | (apply My.jz KX G <;> first | k_is | (intros; rfl)) | k_is
