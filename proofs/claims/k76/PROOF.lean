import PyProof.Rows.All
import Wide.All
import OpenK.AllK
import Wide.FinOn
import Lean
import PyProof.EqAt
import PyProof.EqKinds
import PyProof.TupleCall
import PySem.Challenge.RW_plait_k76_parted
set_option Elab.async false
set_option linter.all false
set_option maxRecDepth 100000
namespace PySem.W.Fast
def tw15695202136082796990:=0
def tw3253032294510015827:=0
def tw12709277564383745091:=0
def tw3230500482048918237:=0
def tw15693935770000602111:=0
def tw13773202113921630651:=0
def tw4904423827499083997:=0
def tw4264955334366782168:=0
def tw4905428552313044569:=0
def tw12547655866656696306:=0
def tw11005746762981798820:=0
def tw11165165179256126500:=0
def tw15350283302225190443:=0
def tw15973929066862842833:=0
def tw12724931647107691016:=0
def tw2905783802269883447:=0
def tw11156299983464252090:=0
def tw17776424744426932812:=0
def tw12981860477971040324:=0
def tw16576906874451688157:=0
def tw7942593197226675668:=0
def tw5319547782488393395:=0
def tw5019622921539468260:=0
def tw6340318736723186779:=0
def tw12785997263956831885:=0
def tw5898989817698198295:=0
def tw4864853336026828087:=0
def tw17574134045699277113:=0
def tw14103490924932696767:=0
def tw9652677513778620499:=0
def tw6272383899454070427:=0
def tw4401614421218627790:=0
def tw7849608997848920138:=0
def tw9623718468875020673:=0
def tw7011522491110609875:=0
def tw12555244902608987627:=0
def tw18295587656374958042:=0
def tw11693645472458306102:=0
def tw17918993201785624256:=0
def tw11031435221136266444:=0
def tw11551180790561636800:=0
def tw15967179432867666540:=0
def tw13356437251553404819:=0
def tw8677881914907760136:=0
def tw1752463697113469258:=0
def tw14000150835201333914:=0
def tw5639754997442110240:=0
def tw16903318607321458967:=0
def tw18010130742773585538:=0
def tw18221659873290051803:=0
def tw4436721733206228437:=0
def tw16086032850407563443:=0
def tw14335784559051952262:=0
def tw6605081547029025816:=0
def tw10292758996712056613:=0
def tw12238158492557756190:=0
def tw6235108933976749726:=0
def tw17103947765855541553:=0
def tw5717590147291024636:=0
def tw1020371594470510823:=0
def tw17369993390423366547:=0
def tw14386947461056543393:=0
def tw6313101078816607239:=0
def tw12972209287801736261:=0
def tw18071828968822088691:=0
def tw13726710962317768801:=0
def tw15225120873284997499:=0
def tw13531753837851715001:=0
def tw9782318567058475381:=0
def tw8936115139589810749:=0
def tw13482588362800017280:=0
def tw481023890792133082:=0
def tw1856318958361688755:=0
def tw9120579469885077056:=0
def tw8936676811181655016:=0
def tw4584811648609808544:=0
def tw3022715413035917824:=0
def tw15680971843004651532:=0
def tw15583044593210632787:=0
def tw7295774271269318122:=0
def tw8296955948274124642:=0
def tw6397286200037850952:=0
def tw5311028152611885006:=0
def tw3744516186419956773:=0
def tw5460449958303059057:=0
def tw10571029703732462325:=0
def tw11972298775847597727:=0
def tw12468042117653634802:=0
def tw4266753158793295232:=0
def tw9377957092918995917:=0
def tw11394145998299424302:=0
def tw8917737478170788238:=0
def tw8975265395578724770:=0
def tw1581240255521537631:=0
def tw13881934379850179504:=0
def tw7159715547654385023:=0
def tw8263640418466315521:=0
def tw10039659141699536039:=0
def tw16577710294503625147:=0
def tw4648685877295920101:=0
def tw15576773951421425501:=0
def tw1355027806539091573:=0
def tw5756021312858024383:=0
def tw16963338660112482739:=0
def tw7988508765464239051:=0
def tw16528158406158270796:=0
def tw15540428794468459365:=0
def tw8576672773998623617:=0
def tw12797970488427774794:=0
def tw12495255637635753834:=0
def tw4974628973732750784:=0
def tw3590380652658054952:=0
def tw12051040437854130595:=0
def tw10756965844057982089:=0
def tw13323672903664743994:=0
def tw12750715087277378939:=0
def tw8602679620461406251:=0
def tw3067072572901728601:=0
def tw15717525248958051374:=0
def tw16493383090248122874:=0
def tw10939464803168381127:=0
def tw11539576658601624907:=0
def tw14528649249900947794:=0
def tw511981528937791097:=0
def tw12850611982900221290:=0
def tw12204818301202378904:=0
def tw10205349170826849087:=0
def tw5102863632309959887:=0
def tw11253358099808763467:=0
def tw14393352442506051553:=0
def tw11397683201495333120:=0
def tw4930432084907570970:=0
def tw7157281602117399044:=0
def tw16628473750067339587:=0
def tw1130993244779412005:=0
def tw16167113101649455598:=0
def tw12208819930113445225:=0
def tw11668653563028026793:=0
def tw13494326095614708038:=0
def tw7759841235801891387:=0
def tw6859350803597729784:=0
def tw6900564532679703274:=0
def tw10555594849241656174:=0
def tw14519738472631151096:=0
def tw17492947313468520102:=0
def tw3014958157623625974:=0
def tw7823589713420100754:=0
def tw3538087234241350309:=0
def tw12121766422873038053:=0
def tw2445174476007158402:=0
def tw17888455627569872825:=0
def tw10029964868471643220:=0
def tw8078015040205856807:=0
def tw447982155067233975:=0
def tw12307536164124281679:=0
def tw7051927869925631139:=0
def tw34615596550242398:=0
def tw11323499648727075221:=0
def tw8671225120668069006:=0
def tw16411177558261750610:=0
def tw564840839104336895:=0
def tw15047081085073847404:=0
def tw4814839878228205414:=0
def tw13164689016924090714:=0
def tw4528964809687023568:=0
def tw14194694194417553308:=0
def tw11654648382767987640:=0
def tw10877106211068047085:=0
def tw14110725532295782709:=0
def tw17651232687052765284:=0
def tw7261806487542667014:=0
def tw18108075845037337990:=0
def tw10824414587435756271:=0
def tw16168292596761106422:=0
def tw9152507313133061107:=0
def tw13719062865703048937:=0
def tw18319096052291574763:=0
def tw6029589013386302846:=0
def tw863285107742736480:=0
def tw17754083739467457509:=0
def tw14927921474337514709:=0
def tw10448175791559194798:=0
def tw30149032884105474:=0
def tw17865069460850412993:=0
def tw13657849778028286590:=0
def tw12671615204818369427:=0
def tw7030759846483107798:=0
def tw13092424500780509648:=0
def tw8406745349854773690:=0
def tw4536720044142077131:=0
def tw7031387580610268991:=0
def tw2915436104254808035:=0
def tw17414577446532451742:=0
def tw12593504428936785655:=0
def tw2241039405392791265:=0
def tw10277811167355487571:=0
def tw13984219878374537772:=0
def tw5496575479238210388:=0
def tw442353294814223356:=0
def tw7931998538583360576:=0
def tw2320978660062034893:=0
def tw3498410064520253796:=0
def tw12117883329555205013:=0
def tw640529680817970911:=0
def tw16169477942239562212:=0
def tw655564621885980713:=0
def tw16221066952880783406:=0
def tw10784899735690190134:=0
def tw7769945418426625074:=0
def tw11990736608825362073:=0
def tw947152083865698419:=0
def tw5817638450573076420:=0
def tw6127665451417452363:=0
def tw1326888657130241783:=0
def tw12705726594721004933:=0
end PySem.W.Fast
set_option maxHeartbeats 4000000
abbrev QLs:=List (List Int)
abbrev QPs:=List (Int×Int)
abbrev QDr:=QLs×QPs
noncomputable section
section
set_option autoImplicit true
variable {M L B δ ρ ι ε α0 α1 α2 α3 α4 α5:Type}{K:PySem.W.Frag}{aa:List (PySem.Addr×PySem.Obj)}{E Q:PySem.Value->PySem.Shared->Prop}{s:PySem.Shared}{A:PySem.Around}{w:PySem.World}{P prog:PySem.Program}{mg:PySem.Str->Option PySem.Value}{R:PySem.Result->PySem.Shared->Prop}{a b p q y z d I S Lqz:PySem.Addr}{x:PySem.Str}{pos:PySem.Pos}{h' base:PySem.Heap}{n k j:Nat}{e tg:PySem.Expr}{u:PySem.Value}{us its:List PySem.Value}{ns:List Int}{as:List M}{es bf elts:List PySem.Expr}{caps:List (Nat×PySem.Str)}{ps N names:List PySem.Str}{F:M->L->Prop}{fd:PySem.FuncData}{scope:PySem.Scope}
namespace L2
open PySem PySem.Spec PyProof.Rows
abbrev Key:=Sum Int Str
def KZ:Key->Value->Bool
 | .inl k,v=>Value.isInt k v
 | .inr x,v=>Value.isStrOf x v
def qC (w:World):Key->Int
 | .inl k=>hashInt k
 | .inr x=>hashStr w x
def Yr:∀{k:Key}{v:Value},KZ k v=true->(∃i t,k=Sum.inl i/\v=Value.int i t)∨(∃x t,k=Sum.inr x/\v=Value.str x t)
 | .inl i,v,h=>by
  obtain⟨t,e⟩:=Value.isInt_shape (k:=i) (v:=v) h
  exact .inl ⟨i,t,rfl,e⟩
 | .inr x,v,h=>by
  obtain⟨t,e⟩:=Value.isStrOf_shape (x:=x) (v:=v) h
  exact .inr ⟨x,t,rfl,e⟩
def LI (i:Int)(t:Tok):KZ (.inl i) (.int i t)=true:=by simp[KZ,Value.isInt]
def IA (x:Str)(t:Tok):KZ (.inr x) (.str x t)=true:=by simp[KZ,Value.isStrOf]
def Ws (a b:Int):decide ((Sum.inl a:Key)=Sum.inl b)=(a==b):=by
 by_cases e:a=b
 ·subst e;simp
 ·have h:¬(Sum.inl a:Key)=Sum.inl b:=λq=>e (Sum.inl.inj q)
  rw[decide_eq_false h]
  exact(beq_eq_false_iff_ne.mpr e).symm
def Wa (a b:Str):decide ((Sum.inr a:Key)=Sum.inr b)=decide (a=b):=by
 by_cases e:a=b
 ·subst e;simp
 ·have h:¬(Sum.inr a:Key)=Sum.inr b:=λq=>e (Sum.inr.inj q)
  rw[decide_eq_false h,decide_eq_false e]
def T9 (a:Int)(b:Str):decide ((Sum.inl a:Key)=Sum.inr b)=false:=decide_eq_false (λq=>nomatch q)
def Wh (a:Str)(b:Int):decide ((Sum.inr a:Key)=Sum.inl b)=false:=decide_eq_false (λq=>nomatch q)
def Yt (prog:Program)(w:World):PySem.KeyKind prog w Key where
 is:=KZ
 hash:=qC w
 inj:=λv a b ha hb=>by
  rcases Yr ha with⟨i,t,rfl,rfl⟩ | ⟨x,t,rfl,rfl⟩
  ·rcases Yr hb with⟨j,u,rfl,e⟩ | ⟨y,u,rfl,e⟩
   ·injection e with e1 _;rw[e1]
   ·exact nomatch e
  ·rcases Yr hb with⟨j,u,rfl,e⟩ | ⟨y,u,rfl,e⟩
   ·exact nomatch e
   ·injection e with e1 _;rw[e1]
 byValue:=λk v h=>by
  rcases Yr h with⟨i,t,rfl,rfl⟩ | ⟨x,t,rfl,rfl⟩<;> rfl
 pyHash:=λhv h=>by
  rcases Yr hv with⟨i,t,rfl,rfl⟩ | ⟨x,t,rfl,rfl⟩
  ·exact wpAny_pyHash_int h
  ·exact wpAny_pyHash_str h
 eqBool:=λhu hv h=>by
  rcases Yr hu with⟨i,t,rfl,rfl⟩ | ⟨x,t,rfl,rfl⟩
  ·rcases Yr hv with⟨j,u,rfl,rfl⟩ | ⟨y,u,rfl,rfl⟩
   ·rw[Ws] at h;exact wpAny_eqBool_int h
   ·rw[T9] at h;exact SeqAt.EqAt.int_str i t y u _ _ _ _ h
  ·rcases Yr hv with⟨j,u,rfl,rfl⟩ | ⟨y,u,rfl,rfl⟩
   ·rw[Wh] at h;exact SeqAt.EqAt.str_int x t j u _ _ _ _ h
   ·rw[Wa] at h;exact wpAny_eqBool_str h
 «strs»:=λk x t v h=>by
  rcases Yr h with⟨i,u,rfl,e⟩ | ⟨y,u,rfl,e⟩
  ·exact nomatch e
  ·injection e with e1 _
   subst e1
   cases v<;> rfl
def Bf (prog:Program)(w:World)(i:Int)(t:Tok):(Yt prog w).is (.inl i) (.int i t)=true:=LI i t
def Bo (prog:Program)(w:World)(x:Str)(t:Tok):(Yt prog w).is (.inr x) (.str x t)=true:=IA x t
inductive V where
 |non |bl (b:Bool) |int (i:Int) |str (x:Str) |byt (b:Array UInt8) |flt (b:UInt64) |ref (a:Addr) |ty (n:String)
 deriving DecidableEq
def XW:V->Value->Prop
 | .non,u=>u=Value.none
 | .bl b,u=>u=Value.bool b
 | .int i,u=>∃ t,u=Value.int i t
 | .str x,u=>∃ t,u=Value.str x t
 | .byt b,u=>∃ t,u=Value.bytes b t
 | .flt b,u=>∃ t,u=Value.float b t
 | .ref a,u=>u=Value.ref a
 | .ty n,u=>u=Value.type n
abbrev X0:List V->List Value->Prop:=Paired XW
def X0.length (r:X0 xs us):xs.length=us.length:=Paired.length r
def X0.get:∀{xs:List V}{us:List Value}{i:Nat}{x:V},X0 xs us->xs[i]?=some x->∃u,us[i]?=some u/\XW x u
 |_,_,_,_, .nil,e=>by simp at e
 |_,_,0,_, .cons r _,e=>by simp at e;subst e;exact⟨_,rfl,r⟩
 |_,_,i+1,x, .cons _ t,e=>by
  obtain⟨u,h1,h2⟩:=X0.get (i:=i) (x:=x) t (by simpa using e)
  exact⟨u,by simpa using h1,h2⟩
def X0.set {x:V}(r:XW x u):∀{xs:List V}{us:List Value} (i:Nat),X0 xs us->X0 (xs.set i x) (us.set i u)
 |_,_,_, .nil=>.nil
 |_,_,0, .cons _ t=>.cons r t
 |_,_,i+1, .cons q t=>.cons q (X0.set r i t)
def X0.append:∀{xs ys:List V}{us ws:List Value},X0 xs us->X0 ys ws->X0 (xs++ys) (us++ws):=λp s=>by
 induction p with
 |nil=>exact s
 |cons r _ ih=>exact .cons r ih
def X0.take:∀{xs:List V}{us:List Value} (n:Nat),X0 xs us->X0 (xs.take n) (us.take n)
 |_,_,0,_=>.nil
 |_,_,_+1, .nil=>.nil
 |_,_,n+1, .cons r t=>.cons r (X0.take n t)
def X0.drop:∀{xs:List V}{us:List Value} (n:Nat),X0 xs us->X0 (xs.drop n) (us.drop n)
 |_,_,0,r=>r
 |_,_,_+1, .nil=>.nil
 |_,_,n+1, .cons _ t=>X0.drop n t
def Hx:Option V->Option Value->Prop
 |some v,some u=>XW v u
 |none,none=>True
 |_,_=>False
def KV:List (κ×V)->List (κ×Value)->Prop:=Paired λ(p:κ×V) (q:κ×Value)=>p.1=q.1/\XW p.2 q.2
def kV:Key->V
 | .inl i=>.int i
 | .inr x=>.str x
inductive HO where
 /-- a list -/
 |lst (xs:List V)
 /-- a tuple (never changes) -/
 |tup (xs:List V)
 /-- a dict whose gF are ints and texts; one whose gF are tuples of ints and texts (dB empty one is fF) -/
 |dK (kvs:List (Key×V)) |dT (kvs:List (List Key×V))
 /-- a set of ints: its members, its size -/
 |set (S:Int->Bool) (n:Nat)
 /-- an instance of dB class at C, its dict at dx, its attributes -/
 |ins (C dx:Addr) (fs:List (Str×V))
 /-- dB dict of dB instance at x -/
 |own (x:Addr)
 /-- dB dict of an exception -/
 |xd (fs:List (Str×V))
 /-- a bound method, f of x -/
 |met (f x:Addr)
 /-- a range object lo, lo + 1, .. below hi -/
 |rng (lo hi:Int)
 /-- a thing that is known to dB object (dB script; a dict while a df walks it): read, never written while it is so -/
 |frz (o:Obj) (u:HO)
 /-- a code object's table -/
 |tbl (ps:Array Value)
 /-- any other thing, by what is true of its one object (a def of one's own: SetO a S n:=HO.ext λh=>..) -/
 |ext (φ:Heap->Prop)
abbrev Hp:=Addr->Option HO
def upd (H:Hp)(a:Addr)(o:HO):Hp:=λb=>if b=a then some o else H b
def X9:upd H a o a=some o:=by unfold upd;rw[if_pos rfl]
def XH (h:b≠a):upd H a o b=H b:=by unfold upd;rw[if_neg h]
def Ag {H:Hp}{o u:HO}(h:H a=some o)(h':H b=some u)(d:o≠u):a≠b:=by
 intro e;subst e;rw[h] at h';exact d (Option.some.inj h')
def XQ {H:Hp}{o:HO}(h:H a=some o)(h':H b=none):a≠b:=by
 intro e;subst e;rw[h] at h';cases h'
def VF (h:Heap)(a:Addr)(items:Array Value):Prop:=∃ o,h.get? a=some o/\(o.cls= .type "tuple" /\o.dict=none)/\∃n,o.data= .seq items n
def VF.t (x:VF h a items):IsTup h a items:=let ⟨o,ho,c,r⟩:=x;⟨o,ho,c.1,r⟩
def VF.new (h:Heap)(items:Array Value):VF (h.push {cls:=.type "tuple",data:=.seq items}) h.objs.size items:=⟨_,Heap.get?_push_size _ rfl,⟨rfl,rfl⟩,_,rfl⟩
section
variable (P:Program)(w:World)
def YR (H:Hp)(h:Heap)(a:Addr):HO->Prop
 | .lst xs=>xs.length<=sizeLine/\∃(its:List Value) (n:Nat),X0 xs its/\h.get? a=some {cls:=.type "list",data:=.seq its.toArray n}
 | .tup xs=>xs.length<=sizeLine/\∃its:List Value,X0 xs its/\VF h a its.toArray
 | .dK kvs=>kvs.length<=sizeLine/\(a==sysModules)=false/\∃vs,KV kvs vs/\h.DictOf (Yt P w) a vs
 | .dT kvs=>kvs.length<=sizeLine/\(a==sysModules)=false/\∃xs:List (List Key×Addr×Value),
   Paired (λ(p:List Key×V) (q:List Key×Addr×Value)=>p.1=q.1/\H q.2.1=some (.tup (p.1.map kV))/\XW p.2 q.2.2) kvs xs/\
   ∃o es ep,h.get? a=some o/\o.ExactDict/\o.data= .dict es ep/\es.toList=xs.map (entryOfKey (tupleKind (Yt P w)))/\(xs.map (·.1)).Nodup
 | .set S n=>h.SetOf (intKind P w) a S n
 | .ins C dx fs=>H dx=some (.own a)/\fs.length<=1000/\dx≠a/\h.get? a=some (W.instObj C dx)/\
   ∃mA,h.Ns1 dx mA/\(∀f,Hx (fs.lookup f) (mA f))/\PySem.Within mA (fs.map (·.1))
 | .own _=>∃ o,h.get? a=some o
 | .xd fs=>∃ mA,h.Ns1 a mA/\∀f,Hx (fs.lookup f) (mA f)
 | .rng lo hi=>∃ t u v,h.get? a=some {cls:=.type "range",data:=.fields #[.int lo t, .int hi u, .int 1 v]}
 | .frz o u=>h.get? a=some o/\YR H h a u
 | .tbl ps=>h.get? a=some {cls:=.none,data:=.fields ps}
 | .met f x=>h.get? a=some (W.methodObj (.ref f) (.ref x))
 | .ext φ=>φ h/\(∃o,h.get? a=some o)/\∀h1 h2:Heap,φ h1->(∀o,h1.get? a=some o->h2.get? a=some o)->φ h2
def HOk (H:Hp)(h:Heap):Prop:=∀ a o,H a=some o->YR P w H h a o
end
section
variable {H H':Hp}{h:Heap}{o:HO}
def YR.lt (x:YR P w H h a o):a<h.objs.size:=by
 cases o with
 |lst xs=>obtain⟨_,_,_,_,e⟩:=x;exact Heap.lt_size e
 |tup xs=>obtain⟨_,_,_,p⟩:=x;exact p.t.lt
 |dK kvs=>obtain⟨_,_,_,_,o,_,_,e,_⟩:=x;exact Heap.lt_size e
 |dT kvs=>obtain⟨_,_,_,_,o,_,_,e,_⟩:=x;exact Heap.lt_size e
 |set S n=>obtain⟨o,_,_,_,e,_⟩:=x;exact Heap.lt_size e
 |ins C dx fs=>obtain⟨_,_,_,e,_⟩:=x;exact Heap.lt_size e
 |own y=>obtain⟨_,e⟩:=x;exact Heap.lt_size e
 |xd fs=>obtain⟨_,⟨_,_,_,e,_⟩,_⟩:=x;exact Heap.lt_size e
 |rng lo hi=>obtain⟨_,_,_,e⟩:=x;exact Heap.lt_size e
 |frz ob u=>obtain⟨e,_⟩:=x;exact Heap.lt_size e
 |tbl ps=>exact Heap.lt_size (show h.get? a=some _ from x)
 |met f y=>exact Heap.lt_size (show h.get? a=some _ from x)
 |ext φ=>obtain⟨_,⟨_,e⟩,_⟩:=x;exact Heap.lt_size e
def Paired.mapP:∀{l₁:List M}{l₂:List L},Paired F l₁ l₂->(∀a b,F a b->G a b)->Paired G l₁ l₂:=λp f=>by
 induction p with
 |nil=>exact .nil
 |cons r _ ih=>exact .cons (f _ _ r) ih
def YR.stay (x:YR P w H h a o)(k:∀b u,(b=a∨H b=some (.own a))->h.get? b=some u->h'.get? b=some u)
  (ho:∀b,H b=some (.own a)->H' b=some (.own a))(ht:∀b xs,H b=some (.tup xs)->H' b=some (.tup xs)):YR P w H' h' a o:=by
 induction o with
 |lst xs=>obtain⟨z,its,n,r,e⟩:=x;exact⟨z,its,n,r,k _ _ (.inl rfl) e⟩
 |tup xs=>obtain⟨z,its,r,ob,e,c⟩:=x;exact⟨z,its,r,ob,k _ _ (.inl rfl) e,c⟩
 |dK kvs=>obtain⟨z,y,vs,r,ob,es,ep,e,c⟩:=x;exact⟨z,y,vs,r,ob,es,ep,k _ _ (.inl rfl) e,c⟩
 |dT kvs=>
  obtain⟨z,y,xs,r,ob,es,ep,e,c⟩:=x
  exact⟨z,y,xs,Paired.mapP r λp q z=>⟨z.1,ht _ _ z.2.1,z.2.2⟩,ob,es,ep,k _ _ (.inl rfl) e,c⟩
 |set S n=>obtain⟨ob,es,ep,t,e,c⟩:=x;exact⟨ob,es,ep,t,k _ _ (.inl rfl) e,c⟩
 |ins C dx fs=>
  obtain⟨d,z,ne,e,mA,⟨od,es,ep,e2,c⟩,r⟩:=x
  exact⟨ho _ d,z,ne,k _ _ (.inl rfl) e,mA,⟨od,es,ep,k _ _ (.inr d) e2,c⟩,r⟩
 |own y=>obtain⟨ob,e⟩:=x;exact⟨ob,k _ _ (.inl rfl) e⟩
 |xd fs=>obtain⟨mA,⟨od,es,ep,e,c⟩,r⟩:=x;exact⟨mA,⟨od,es,ep,k _ _ (.inl rfl) e,c⟩,r⟩
 |rng lo hi=>obtain⟨t,u,v,e⟩:=x;exact⟨t,u,v,k _ _ (.inl rfl) e⟩
 |frz ob u ih=>obtain⟨e,q⟩:=x;exact⟨k _ _ (.inl rfl) e,ih q⟩
 |tbl ps=>
  have e:h.get? a=some {cls:=.none,data:=.fields ps}:=x
  show h'.get? a=some {cls:=.none,data:=.fields ps}
  exact k a _ (.inl rfl) e
 |met f y=>
  have e:h.get? a=some (W.methodObj (.ref f) (.ref y)):=x
  show h'.get? a=some (W.methodObj (.ref f) (.ref y))
  exact k a _ (.inl rfl) e
 |ext φ=>obtain⟨p,⟨o,e⟩,st⟩:=x;exact⟨st _ _ p λo q=>k _ _ (.inl rfl) q,⟨o,k _ _ (.inl rfl) e⟩,st⟩
def HOk.lt (x:HOk P w H h)(e:H a=some o):a<h.objs.size:=(x a o e).lt
def HOk.fresh (x:HOk P w H h)(e:h.objs.size<=a):H a=none:=by
 cases q:H a with
 |none=>rfl
 |some u=>exact absurd (Nat.lt_of_lt_of_le (x.lt q) e) (Nat.lt_irrefl _)
def HOk.kept (x:HOk P w H h)(k:∀b u,h.get? b=some u->h'.get? b=some u):HOk P w H h':=λa o e=>
 (x a o e).stay (λb u _ q=>k b u q) (λ_ q=>q) λ_ _ q=>q
def HOk.laid (x:HOk P w H h)(k:∀b u,h.get? b=some u->h'.get? b=some u)(hp:h.objs.size<=a)(new:YR P w (upd H a o) h' a o):HOk P w (upd H a o) h':=λb u e=>by
 have hn:=x.fresh hp
 by_cases hb:b=a
 ·subst hb;rw[X9] at e;cases e;exact new
 ·rw[XH hb] at e
  exact(x b u e).stay (λc v _ q=>k c v q) (λc q=>by rw[XH (XQ q hn)];exact q) λc xs q=>by rw[XH (XQ q hn)];exact q
end
def Rd (H:Hp)(a:Addr)(u:HO):Prop:=H a=some u∨∃o,H a=some (.frz o u)
def Rd.ok {u:HO}(r:Rd H a u)(x:HOk P w H h):YR P w H h a u:=by
 rcases r with r | ⟨o,r⟩
 ·exact x a u r
 ·obtain⟨_,q⟩:=x a _ r
  exact q
def Mut:Option HO->Prop
 |some (.lst _)=>True
 |some (.dK _)=>True
 |some (.dT _)=>True
 |some (.set _ _)=>True
 |some (.ins _ _ _)=>True
 |some (.ext _)=>True
 |_=>False
section
variable {H:Hp}{h:Heap}{x e:Addr}{o':HO}
def HOk.write (ok:HOk P w H h)(mu:Mut (H x))(he:e=x∨H e=some (.own x))(k:∀b u,b≠e->h.get? b=some u->h'.get? b=some u)(ir:∃u,h'.get? e=some u)
  (new:YR P w (upd H x o') h' x o'):HOk P w (upd H x o') h':=λb u q=>by
 have iV:∀c y,H c=some (.own y)->c≠x:=λc y r z=>by subst z;rw[r] at mu;exact mu
 have ntup:∀c xs,H c=some (.tup xs)->c≠x:=λc xs r z=>by subst z;rw[r] at mu;exact mu
 by_cases hb:b=x
 ·subst hb;rw[X9] at q;cases q;exact new
 ·rw[XH hb] at q
  by_cases gG:b=e
  ·have q':H b=some (.own x):=by
    rcases he with z |z
    ·exact absurd (gG.trans z) hb
    ·rw[gG];exact z
   rw[q] at q';cases q'
   obtain⟨v,hv⟩:=ir
   exact⟨v,by rw[gG];exact hv⟩
  ·refine(ok b u q).stay (λc v hc r=>k c v ?_ r) (λc r=>by rw[XH (iV c b r)];exact r) λc xs r=>by rw[XH (ntup c xs r)];exact r
   rcases hc with rfl |hc
   ·exact gG
   ·rintro rfl
    rcases he with z |z
    ·exact iV c b hc z
    ·rw[hc] at z;cases z;exact hb rfl
end
structure Un (fs ex:List Addr)(H H':Hp)(h h':Heap):Prop where
 keep:∀b o,h.get? b=some o->H b=none->b∉fs->b∉ex->h'.get? b=some o
 slot:∀b o,h.get? b=some o->H b=none->b∈fs->b∉ex->∃sl,h'.get? b=some {o with slots:=sl}
 free:∀b o,h.get? b=some o->H b=none->b∉ex->H' b=none
 there:∀b o,h.get? b=some o->b∉ex->∃o',h'.get? b=some o'
 tups:∀b xs,H b=some (.tup xs)->H' b=some (.tup xs)
 frzs:∀b o u,H b=some (.frz o u)->H' b=some (.frz o u)
 tbls:∀b ps,H b=some (.tbl ps)->∃more,H' b=some (.tbl (ps++more))
section
variable {fs fs' ex iu:List Addr}{H H1 H2:Hp}{h h1 h2:Heap}{x e:Addr}{o:HO}
def Un.any (u:Un fs ex H H1 h h1)(q:h.get? b=some ob)(n:H b=none)(hx:b∉ex):∃sl,h1.get? b=some {ob with slots:=sl}:=by
 by_cases hb:b∈fs
 ·exact u.slot b ob q n hb hx
 ·exact⟨ob.slots,u.keep b ob q n hb hx⟩
def Un.kept (k:∀b u,h.get? b=some u->h'.get? b=some u):Un fs ex H H h h':=
 ⟨λb ob q _ _ _=>k b ob q,λb ob q _ _ _=>⟨ob.slots,k b ob q⟩,λ_ _ _ n _=>n,λb ob q _=>⟨ob,k b ob q⟩,λ_ _ q=>q,λ_ _ _ q=>q,λ_ ps q=>⟨#[],by rw[q];simp⟩⟩
def Un.refl:Un fs ex H H h h:=Un.kept λ_ _ q=>q
def Un.laid (k:∀b u,h.get? b=some u->h'.get? b=some u)(hp:h.objs.size<=a)(hn:H a=none):Un fs ex H (upd H a o) h h' where
 keep:=λb u q _ _ _=>k b u q
 slot:=λb u q _ _ _=>⟨u.slots,k b u q⟩
 free:=λb u q n _=>by rw[XH (Nat.ne_of_lt (Nat.lt_of_lt_of_le (Heap.lt_size q) hp))];exact n
 there:=λb u q _=>⟨u,k b u q⟩
 tups:=λb xs q=>by rw[XH (XQ q hn)];exact q
 frzs:=λb u xs q=>by rw[XH (XQ q hn)];exact q
 tbls:=λb ps q=>⟨#[],by rw[XH (XQ q hn),q];simp⟩
def Un.write (mu:Mut (H x))(he:e=x∨H e=some (.own x))(k:∀b u,b≠e->h.get? b=some u->h'.get? b=some u)(ir:∃u,h'.get? e=some u):Un fs ex H (upd H x o) h h':=by
 have hx:∀b,H b=none->b≠x:=λb n z=>by subst z;rw[n] at mu;exact mu
 have hb:∀b,H b=none->b≠e:=λb n z=>by
  subst z
  rcases he with r |r
  ·exact hx b n r
  ·rw[n] at r;cases r
 have hm:∀b u,H b=some u->¬Mut (some u)->b≠x:=λb u q nm z=>by subst z;rw[q] at mu;exact nm mu
 refine⟨λb u q n _ _=>k b u (hb b n) q,λb u q n _ _=>⟨u.slots,k b u (hb b n) q⟩,λb u q n _=>by rw[XH (hx b n)];exact n,λb u q _=>?_,
  λb xs q=>by rw[XH (hm b _ q λz=>z)];exact q,λb u xs q=>by rw[XH (hm b _ q λz=>z)];exact q,λb ps q=>⟨#[],by rw[XH (hm b _ q λz=>z),q];simp⟩⟩
 by_cases gG:b=e
 ·subst gG;exact ir
 ·exact⟨u,k b u gG q⟩
end
def trk (h:Heap)(H:Hp):List Addr:=(List.range h.objs.size).filter λa=>(H a).isSome
def Nv (h:Heap)(H:Hp):Heap:=PySem.W.hideAll h (trk h H)
def IW (h:Heap)(H:Hp):(Nv h H).objs.size=h.objs.size:=PySem.W.hideAll_size _ _
def Nd (e:h.get? b=some o)(n:H b=none):(Nv h H).get? b=some o:=
 PySem.W.hideAll_get _ e λhm=>by
  have q:(H b).isSome=true:=(List.mem_filter.mp hm).2
  rw[n] at q;simp at q
def Rc (e:(Nv h H).get? b=some o):h.get? b=some o/\H b=none:=by
 have e':h.get? b=some o:=PySem.W.of_hideAll (trk h H) e
 refine⟨e',?_⟩
 cases q:H b with
 |none=>rfl
 |some x=>
  have hm:b∈trk h H:=List.mem_filter.mpr ⟨List.mem_range.mpr (Heap.lt_size e'),by simp[q]⟩
  have z:(Nv h H).get? b=none:=PySem.W.hideAll_none (trk h H) hm
  rw[z] at e;cases e
def PV (g h:Heap)(Lqz:Addr):List (Addr×Obj):=(List.range h.objs.size).filterMap λa=>if a=Lqz∨(g.get? a).isSome=true then none else(h.get? a).map λo=>(a,o)
def ZA (g h:Heap)(Lqz d:Addr):List (Addr×Obj):=(PV g h Lqz).filter λp=>decide (p.1≠d)
structure Mod (K:W.Frag)(mg:Str->Option Value)(base:Heap):Prop where
 kin:K.In base
 glob:base.Ns mainGlobals mg
 blt:∃mb,base.Ns builtinsNs mb/\∀x:Str,x≠ "__name__" ->mb x=bootBuiltins x
 nolimit:base.NoLimit
structure Cx where
 prog:Program
 w:World
 K:W.Frag
 mg:Str->Option Value
 base:Heap
 A:Around
 N:List Str
 s₀:Shared
 H₀:Hp
 env:Env
 outer:List Env
 stack:List Env
 ex:List Addr
 fn:Str->Bool
 calm:Bool
 pn:List (Addr×Obj)
 xe:Value->Shared->Prop
def frs (l:List Env):List Addr:=l.filterMap (·.frame)
abbrev Cx.fs (X:Cx):List Addr:=frs X.outer
def Vis (sc:Scope)(x:Str):Prop:=sc.names.lookup x=some .local∨sc.names.lookup x=some .cell∨sc.names.lookup x=some .free
def Loc (sc:Scope)(x:Str):Prop:=sc.names.lookup x=some .local∨sc.names.lookup x=some .cell
def qx (env:Env)(h:Heap)(m:Str->Option Value)(x:Str)(u:Value):Prop:=
 (env.kindOf x=some .local/\m x=some u)∨((env.kindOf x=some .cell∨env.kindOf x=some .free)/\∃c,env.cells.lookup x=some c/\h.IsCell c (some u))
structure Cx.Ok (X:Cx):Prop where
 mod:Mod X.K X.mg X.base
 kind:X.env.scope.kind= .function
 glob:X.env.globals=mainGlobals
 blt:X.env.builtins=builtinsNs
 above:X.s₀.heap.objs.size<=X.env.locals
 inj:∀x y c,X.env.cells.lookup x=some c->X.env.cells.lookup y=some c->x=y
 has:∀x,(X.env.kindOf x=some .cell∨X.env.kindOf x=some .free)->∃c,X.env.cells.lookup x=some c
 cab:∀x c,X.fn x=true->X.env.cells.lookup x=some c->X.s₀.heap.objs.size<=c
 hd:X.calm=true->X.A.handled=none
 frames:X.A.frames=some X.stack
 stk:X.stack=X.outer∨(X.stack=X.env::X.outer/\X.env.frame=some X.env.locals)
 exf:∀b∈X.ex,b≠X.env.locals/\∀x c,X.env.cells.lookup x=some c->c≠b
 bs:∀b o,X.base.get? b=some o->X.s₀.heap.get? b=some o/\X.H₀ b=none
 bsz:X.base.objs.size<=X.s₀.heap.objs.size
 noex:∀b o,X.base.get? b=some o->b∉X.ex
 exfs:∀b∈X.ex,b∉X.fs
 funs:X.s₀.heap.FunFrames X.base X.outer
 frf:∀b∈X.fs,X.H₀ b=none
structure Inv (X:Cx)(aa:List (Addr×Obj))(U:List (Option V))(H:Hp)(s:Shared):Prop where
 ok:X.Ok
 os:s.os=X.s₀.os
 bare:AllBare s.gens
 base:Un X.fs X.ex X.H₀ H X.s₀.heap s.heap
 loc:∃m,s.heap.Ns X.env.locals m/\∀(i:Nat) (x:Str) (v:V),X.N[i]?=some x->U[i]?=some (some v)->Vis X.env.scope x->∃u,XW v u/\qx X.env s.heap m x u
 cell:∀x c,X.env.cells.lookup x=some c->∃v,s.heap.IsCell c v
 free:H X.env.locals=none
 freeC:∀x c,X.env.cells.lookup x=some c->H c=none
 pin:∀p∈X.pn++aa,s.heap.get? p.1=some p.2/\H p.1=none/\p.1≠X.env.locals/\p.1∉X.fs/\∀v,p.2.data≠ .cell v
 hok:HOk X.prog X.w H s.heap
 len:U.length=X.N.length
section
variable {X:Cx}{U:List (Option V)}{H H':Hp}
def Cx.Ok.nofr (ok:X.Ok)(e:X.base.get? b=some o):b∉X.fs:=λhb=>by
 have:=(ok.funs.mem hb).1
 rw[e] at this;cases this
def Inv.bs (I:Inv X aa U H s):∀b o,X.base.get? b=some o->s.heap.get? b=some o/\H b=none:=λb o e=>
 ⟨I.base.keep b o (I.ok.bs b o e).1 (I.ok.bs b o e).2 (I.ok.nofr e) (I.ok.noex b o e),I.base.free b o (I.ok.bs b o e).1 (I.ok.bs b o e).2 (I.ok.noex b o e)⟩
def Inv.bk (I:Inv X aa U H s):∀b o,X.base.get? b=some o->s.heap.get? b=some o:=λb o e=>(I.bs b o e).1
def Inv.mod (I:Inv X aa U H s):Mod X.K X.mg X.base:=I.ok.mod
def Inv.kIn (I:Inv X aa U H s):X.K.In s.heap:=I.ok.mod.kin.keeps I.bk
def Inv.lt (I:Inv X aa U H s):X.env.locals<s.heap.objs.size:=let ⟨_,hn,_⟩:=I.loc;hn.lt
def Inv.sz (I:Inv X aa U H s):X.s₀.heap.objs.size<=s.heap.objs.size:=Nat.le_trans I.ok.above (Nat.le_of_lt I.lt)
def Inv.nofs (I:Inv X aa U H s)(h:s.heap.objs.size<=a):a∉X.fs:=λhb=>by
 obtain⟨_,o,ho,_⟩:=I.ok.funs.mem hb
 exact absurd (Nat.lt_of_lt_of_le (Heap.lt_size ho) (Nat.le_trans I.sz h)) (Nat.lt_irrefl _)
def Inv.cne (I:Inv X aa U H s):∀x c,X.env.cells.lookup x=some c->c≠X.env.locals:=λx c e z=>by
 obtain⟨v,o,ho,hd⟩:=I.cell x c e
 obtain⟨m,⟨o',es,ep,cI,hd',_⟩,_⟩:=I.loc
 rw[z,cI] at ho;cases ho;rw[hd'] at hd;cases hd
def Inv.funs (I:Inv X aa U H s):s.heap.FunFrames X.base X.outer:=by
 have all:∀(l:List Env),(∀b∈frs l,b∈X.fs)->X.s₀.heap.FunFrames X.base l->s.heap.FunFrames X.base l:=by
  intro l
  induction l with
  |nil=>intro _ _;trivial
  |cons env r ih=>
   intro hs hl
   obtain⟨hk,⟨Lqz,o,hf,hn,ho,hd⟩,hr⟩:=hl
   have hL:Lqz∈X.fs:=hs Lqz (by unfold frs;rw[List.filterMap_cons,hf];exact List.mem_cons_self)
   obtain⟨sl,e⟩:=I.base.slot Lqz o ho (I.ok.frf Lqz hL) hL λz=>I.ok.exfs Lqz z hL
   exact⟨hk,⟨Lqz,_,hf,hn,e,hd⟩,ih (λb hb=>hs b (by unfold frs;rw[List.filterMap_cons,hf];exact List.mem_cons_of_mem _ hb)) hr⟩
 exact all X.outer (λ_ hb=>hb) I.ok.funs
def Inv.stack (I:Inv X aa U H s):s.heap.FunFrames X.base X.stack:=by
 rcases I.ok.stk with e | ⟨e,hf⟩
 ·rw[e];exact I.funs
 ·rw[e]
  obtain⟨m,hn,_⟩:=I.loc
  refine .cons (by rw[I.ok.kind];decide) hf hn ?_ I.funs
  exact Heap.get?_none_of_le (Nat.le_trans I.ok.bsz I.ok.above)
def Inv.stkSub (I:Inv X aa U H s):∀b∈frs X.stack,b∈X.env.locals::X.fs:=λb hb=>by
 rcases I.ok.stk with e | ⟨e,hf⟩
 ·rw[e] at hb;exact List.mem_cons_of_mem _ hb
 ·rw[e] at hb
  unfold frs at hb
  rw[List.filterMap_cons,hf] at hb
  exact hb
def Inv.stkFree (I:Inv X aa U H s):∀b∈frs X.stack,H b=none:=λb hb=>by
 rcases List.mem_cons.mp (I.stkSub b hb) with e |hb
 ·rw[e];exact I.free
 ·obtain⟨_,o,ho,_⟩:=I.ok.funs.mem hb
  exact I.base.free b o ho (I.ok.frf b hb) λz=>I.ok.exfs b z hb
def Inv.step {g':Array GenState}{t':Nat}{d':Drawn}{ch:List Addr}(I:Inv X aa U H s)
  (fm:∀b∈ch,(b∈X.ex∨X.s₀.heap.objs.size<=b)/\b≠X.env.locals/\(∀x c,X.env.cells.lookup x=some c->c≠b)/\∀p∈X.pn++aa,p.1≠b)
  (keep:∀b o,b≠X.env.locals->b∉X.fs->b∉ch->s.heap.get? b=some o->H b=none->h'.get? b=some o)
  (slot:∀b o,b≠X.env.locals->b∈X.fs->b∉ch->s.heap.get? b=some o->H b=none->∃sl,h'.get? b=some {o with slots:=sl})(free:∀b o,b∉ch->s.heap.get? b=some o->H b=none->H' b=none)
  (there:∀b o,b∉ch->s.heap.get? b=some o->∃o',h'.get? b=some o')
  (tups:∀b xs,H b=some (.tup xs)->H' b=some (.tup xs))(frzs:∀b o u,H b=some (.frz o u)->H' b=some (.frz o u))(tbls:∀b ps,H b=some (.tbl ps)->∃more,H' b=some (.tbl (ps++more)))
  (ns:∀m,s.heap.Ns X.env.locals m->h'.Ns X.env.locals m)(hok:HOk X.prog X.w H' h')(hg:AllBare g'):
  Inv X aa U H' {s with heap:=h',gens:=g',drawn:=d',toks:=t'}:=by
 have neL:∀b o,X.s₀.heap.get? b=some o->b≠X.env.locals:=λb o e=>Nat.ne_of_lt (Nat.lt_of_lt_of_le (Heap.lt_size e) I.ok.above)
 have neC:∀b o,X.s₀.heap.get? b=some o->b∉X.ex->b∉ch:=λb o e hx hb=>by
  rcases(fm b hb).1 with z |z
  ·exact hx z
  ·exact absurd (Nat.lt_of_lt_of_le (Heap.lt_size e) z) (Nat.lt_irrefl _)
 have gf:∀x c,X.env.cells.lookup x=some c->∀v,s.heap.IsCell c v->h'.IsCell c v:=λx c e v ⟨o,ho,hd⟩=>by
  have iW:c∉ch:=λz=>(fm c z).2.2.1 x c e rfl
  by_cases hc:c∈X.fs
  ·obtain⟨sl,q⟩:=slot c o (I.cne x c e) hc iW ho (I.freeC x c e)
   exact⟨_,q,hd⟩
  ·exact⟨o,keep c o (I.cne x c e) hc iW ho (I.freeC x c e),hd⟩
 refine⟨I.ok,I.os,hg,⟨λb o e n hb hx=>?_,λb o e n hb hx=>?_,λb o e n hx=>?_,λb o e hx=>?_,λb xs e=>tups b xs (I.base.tups b xs e),λb o xs e=>frzs b o xs (I.base.frzs b o xs e),λb ps e=>?_⟩,?_,λx c e=>?_,?_,λx c e=>?_,λp hp=>?_,hok,I.len⟩
 ·exact keep b o (neL b o e) hb (neC b o e hx) (I.base.keep b o e n hb hx) (I.base.free b o e n hx)
 ·obtain⟨sl,e1⟩:=I.base.slot b o e n hb hx
  obtain⟨sl',e2⟩:=slot b _ (neL b o e) hb (neC b o e hx) e1 (I.base.free b o e n hx)
  exact⟨sl',e2⟩
 ·obtain⟨o',e1⟩:=I.base.there b o e hx
  exact free b o' (neC b o e hx) e1 (I.base.free b o e n hx)
 ·obtain⟨o',e1⟩:=I.base.there b o e hx
  exact there b o' (neC b o e hx) e1
 ·obtain⟨m1,e1⟩:=I.base.tbls b ps e
  obtain⟨m2,e2⟩:=tbls b _ e1
  exact⟨m1++m2,by rw[e2,Array.append_assoc]⟩
 ·obtain⟨m,hn,hl⟩:=I.loc
  refine⟨m,ns m hn,λi x v e1 e2 e3=>?_⟩
  obtain⟨u,r,l⟩:=hl i x v e1 e2 e3
  refine⟨u,r,?_⟩
  rcases l with l | ⟨k,c,e,z⟩
  ·exact .inl l
  ·exact .inr ⟨k,c,e,gf x c e _ z⟩
 ·obtain⟨v,z⟩:=I.cell x c e
  exact⟨v,gf x c e v z⟩
 ·obtain⟨m,⟨o,_,_,ho,_⟩,_⟩:=I.loc
  exact free _ o (λz=>(fm _ z).2.1 rfl) ho I.free
 ·obtain⟨v,o,ho,hd⟩:=I.cell x c e
  exact free c o (λz=>(fm c z).2.2.1 x c e rfl) ho (I.freeC x c e)
 ·obtain⟨e,n,ne,nf,d⟩:=I.pin p hp
  have iW:p.1∉ch:=λz=>(fm p.1 z).2.2.2 p hp rfl
  exact⟨keep p.1 p.2 ne nf iW e n,free p.1 p.2 iW e n,ne,nf,d⟩
def Inv.un {t':Nat}(I:Inv X aa U H s)(u:Un X.fs [] H H' s.heap h')(hok:HOk X.prog X.w H' h'):Inv X aa U H' {s with heap:=h',toks:=t'}:=by
 obtain⟨m,⟨o,es,ep,ho,r⟩,_⟩:=id I.loc
 obtain⟨sl,hL⟩:=u.any ho I.free (by simp)
 exact I.step (g':=s.gens) (d':=s.drawn) (ch:=[]) (λ_ z=>nomatch z) (λb o _ hb _ e n=>u.keep b o e n hb (by simp)) (λb o _ hb _ e n=>u.slot b o e n hb (by simp)) (λb o _ e n=>u.free b o e n (by simp)) (λb o _ e=>u.there b o e (by simp)) u.tups u.frzs u.tbls (λm' hm=>by
  obtain⟨o',es',ep',cI,r'⟩:=hm
  rw[ho] at cI;cases cI
  exact⟨_,es',ep',hL,r'⟩) hok I.bare
def Inv.call {g':Array GenState}{t':Nat}{d':Drawn}{ch:List Addr}(I:Inv X aa U H s)(u:Un (frs X.stack) ch H H' s.heap h')(hok:HOk X.prog X.w H' h')(hg:AllBare g')
  (fm:∀b∈ch,(b∈X.ex∨X.s₀.heap.objs.size<=b)/\b≠X.env.locals/\(∀x c,X.env.cells.lookup x=some c->c≠b)/\∀p∈X.pn++aa,p.1≠b):
  Inv X aa U H' {s with heap:=h',gens:=g',drawn:=d',toks:=t'}:=by
 obtain⟨m,⟨o,es,ep,ho,r⟩,_⟩:=id I.loc
 obtain⟨sl,hL⟩:=u.any ho I.free λz=>(fm _ z).2.1 rfl
 exact I.step (ch:=ch) fm (λb o hL hb hc e n=>u.keep b o e n (λz=>(List.mem_cons.mp (I.stkSub b z)).elim hL hb) hc) (λb o _ _ hc e n=>u.any e n hc) (λb o hc e n=>u.free b o e n hc) (λb o hc e=>u.there b o e hc) u.tups u.frzs u.tbls (λm' hm=>by
  obtain⟨o',es',ep',cI,r'⟩:=hm
  rw[ho] at cI;cases cI
  exact⟨_,es',ep',hL,r'⟩) hok hg
def Inv.turned {t':Nat}{it:Addr}(I:Inv X aa U H s)(k:∀b o,b≠it->s.heap.get? b=some o->h'.get? b=some o)(hn:H it=none)(hL:it≠X.env.locals)
  (h1:it∈X.ex∨X.s₀.heap.objs.size<=it)(h2:∀x c,X.env.cells.lookup x=some c->c≠it)(h3:∀p∈X.pn++aa,p.1≠it):Inv X aa U H {s with heap:=h',toks:=t'}:=by
 have gi:∀b u,H b=some u->b≠it:=λb u e z=>by rw[z,hn] at e;cases e
 refine I.step (g':=s.gens) (d':=s.drawn) (ch:=[it]) (λb hb=>?_) (λb o _ _ hc e _=>k b o (λz=>hc (by simp[z])) e) (λb o _ _ hc e _=>⟨o.slots,k b o (λz=>hc (by simp[z])) e⟩) (λ_ _ _ _ n=>n)
  (λb o hc e=>⟨o,k b o (λz=>hc (by simp[z])) e⟩) (λ_ _ e=>e) (λ_ _ _ e=>e) (λb ps e=>⟨#[],by rw[e];simp⟩) (λm hm=>?_) (λb u e=>?_) I.bare
 ·have e:b=it:=by simpa using hb
  subst e
  exact⟨h1,hL,h2,h3⟩
 ·obtain⟨o,es,ep,ho,r⟩:=hm
  exact⟨o,es,ep,k _ o (Ne.symm hL) ho,r⟩
 ·refine(I.hok b u e).stay (λc v hc q=>k c v ?_ q) (λ_ q=>q) λ_ _ q=>q
  rcases hc with z |z
  ·rw[z];exact gi b u e
  ·exact gi c _ z
def Inv.tok (I:Inv X aa U H s)(t:Nat):Inv X aa U H {s with toks:=t}:=I.un (h':=s.heap) (t':=t) Un.refl I.hok
def Inv.kept {t':Nat}(I:Inv X aa U H s)(k:∀b u,s.heap.get? b=some u->h'.get? b=some u):Inv X aa U H {s with heap:=h',toks:=t'}:=I.un (Un.kept k) (I.hok.kept k)
def Inv.laid {t':Nat}(I:Inv X aa U H s)(k:∀b u,s.heap.get? b=some u->h'.get? b=some u)(hp:s.heap.objs.size<=a)(new:YR X.prog X.w (upd H a o) h' a o):
  Inv X aa U (upd H a o) {s with heap:=h',toks:=t'}:=I.un (Un.laid k hp (I.hok.fresh hp)) (I.hok.laid k hp new)
def Inv.write {x e:Addr}{t':Nat}(I:Inv X aa U H s)(mu:Mut (H x))(he:e=x∨H e=some (.own x))(k:∀b u,b≠e->s.heap.get? b=some u->h'.get? b=some u)(ir:∃u,h'.get? e=some u)
  (new:YR X.prog X.w (upd H x o) h' x o):Inv X aa U (upd H x o) {s with heap:=h',toks:=t'}:=I.un (Un.write mu he k ir) (I.hok.write mu he k ir new)
def Inv.weak (I:Inv X aa U H s)(hl:U'.length=U.length)(w:∀(i:Nat) v,U'[i]?=some (some v)->U[i]?=some (some v)):Inv X aa U' H s:=
 ⟨I.ok,I.os,I.bare,I.base,let ⟨m,hn,iX⟩:=I.loc;⟨m,hn,λi x v e1 e2 e3=>iX i x v e1 (w i v e2) e3⟩,I.cell,I.free,I.freeC,I.pin,I.hok,hl.trans I.len⟩
def Inv.pins_of (I:Inv X aa U H s)(h:∀p∈pins',s.heap.get? p.1=some p.2/\H p.1=none/\p.1≠X.env.locals/\p.1∉X.fs/\∀v,p.2.data≠ .cell v):Inv X pins' U H s:=
 ⟨I.ok,I.os,I.bare,I.base,I.loc,I.cell,I.free,I.freeC,λp hp=>(List.mem_append.mp hp).elim (λz=>I.pin p (List.mem_append_left _ z)) (h p),I.hok,I.len⟩
def B1 (hN:N.Nodup)(a:N[i]?=some x)(b:N[j]?=some x):i=j:=by
 obtain⟨h1,e1⟩:=List.getElem?_eq_some_iff.mp a
 obtain⟨h2,e2⟩:=List.getElem?_eq_some_iff.mp b
 exact(List.getElem_inj hN).mp (e1.trans e2.symm)
def Dx {Q:Unit->Shared->Prop}(I:Inv X aa U H s)(hN:X.N.Nodup)(hi:X.N[i]?=some x)(hx:Loc X.env.scope x)(r:XW v u)
  (h:∀s',Inv X aa (U.set i (some v)) H s'->(∃a,Heap.SameBut a s.heap s'.heap/\(a=X.env.locals∨X.env.cells.lookup x=some a))->Q () s')(hf:X.fn x=true∨X.env.scope.names.lookup x=some .local:=by first |exact .inl rfl |exact .inr rfl |assumption):wpAny Mqz A (storeName X.env x u) Q E s:=by
 obtain⟨m,hn,hl⟩:=id I.loc
 have hcls:(X.env.scope.kind== .class || (X.env.scope.kind== .module&&X.env.locals !=X.env.globals))=false:=by rw[I.ok.kind];rfl
 have hiσ:i<U.length:=by rw[I.len];exact(List.getElem?_eq_some_iff.mp hi).1
 have cne:=I.cne
 have cw:∀{a:Addr}{h':Heap},(∃o,s.heap.get? a=some o/\H a=none)->Heap.SameBut a s.heap h'->HOk X.prog X.w H h':=fun {a h'} ha hs b ob e=>by
  obtain⟨_,_,cm⟩:=ha
  refine(I.hok b ob e).stay (λc w' hc q=>(hs.2 c ?_).trans q) (λ_ q=>q) λ_ _ q=>q
  rintro rfl
  rcases hc with rfl |hc
  ·rw[cm] at e;cases e
  ·rw[cm] at hc;cases hc
 rcases hx with hk |hk
 ·refine wpAny_storeName_local hk hn (λh' hn' hs=>?_) hcls
  obtain⟨oL,_,_,iY,_⟩:=id hn
  refine h _ ⟨I.ok,I.os,I.bare,⟨λb o e n hb hx=>?_,λb o e n hb hx=>?_,I.base.free,λb o e hx=>?_,I.base.tups,I.base.frzs,I.base.tbls⟩,⟨_,hn',λj y v' e1 e2 e3=>?_⟩,λy c e=>?_,I.free,I.freeC,λp hp=>?_,cw ⟨oL,iY,I.free⟩ hs,by simpa using I.len⟩ ⟨_,hs, .inl rfl⟩
  ·exact(hs.2 b (Nat.ne_of_lt (Nat.lt_of_lt_of_le (Heap.lt_size e) I.ok.above))).trans (I.base.keep b o e n hb hx)
  ·obtain⟨sl,e1⟩:=I.base.slot b o e n hb hx
   exact⟨sl,(hs.2 b (Nat.ne_of_lt (Nat.lt_of_lt_of_le (Heap.lt_size e) I.ok.above))).trans e1⟩
  ·obtain⟨o',e1⟩:=I.base.there b o e hx
   exact⟨o',(hs.2 b (Nat.ne_of_lt (Nat.lt_of_lt_of_le (Heap.lt_size e) I.ok.above))).trans e1⟩
  ·by_cases hj:j=i
   ·subst hj
    rw[hi] at e1;cases e1
    rw[List.getElem?_set_self hiσ] at e2
    cases e2
    exact⟨u,r, .inl ⟨hk,by simp⟩⟩
   ·rw[List.getElem?_set_ne (Ne.symm hj)] at e2
    obtain⟨u',r',q⟩:=hl j y v' e1 e2 e3
    refine⟨u',r',?_⟩
    rcases q with⟨k,e⟩ | ⟨k,c,e,z⟩
    ·refine .inl ⟨k,?_⟩
     have:y≠x:=λe=>hj (B1 hN e1 (e▸hi))
     simp[this,e]
    ·exact .inr ⟨k,c,e,z.sameBut hs (cne y c e)⟩
  ·obtain⟨w',z⟩:=I.cell y c e
   exact⟨w',z.sameBut hs (cne y c e)⟩
  ·obtain⟨e,n,ne,nf,d⟩:=I.pin p hp
   exact⟨(hs.2 p.1 ne).trans e,n,ne,nf,d⟩
 ·have hfn:X.fn x=true:=by
   rcases hf with z |z
   ·exact z
   ·rw[z] at hk;cases hk
  obtain⟨c,hc⟩:=I.ok.has x (.inl hk)
  obtain⟨w',z⟩:=I.cell x c hc
  refine wpAny_storeName_cell I.ok.kind hk hc z (λh' eM hs=>?_)
  obtain⟨oc,hoc,hocd⟩:=id z
  refine h {s with heap:=h'} ⟨I.ok,I.os,I.bare,⟨λb o e n hb hx=>?_,λb o e n hb hx=>?_,I.base.free,λb o e hx=>?_,I.base.tups,I.base.frzs,I.base.tbls⟩,⟨m,hn.sameBut hs (Ne.symm (cne x c hc)),λj y v' e1 e2 e3=>?_⟩,λy c' e=>?_,I.free,I.freeC,λp hp=>?_,cw ⟨oc,hoc,I.freeC x c hc⟩ hs,by simpa using I.len⟩ ⟨c,hs, .inr hc⟩
  ·exact(hs.2 b (Nat.ne_of_lt (Nat.lt_of_lt_of_le (Heap.lt_size e) (I.ok.cab x c hfn hc)))).trans (I.base.keep b o e n hb hx)
  ·obtain⟨sl,e1⟩:=I.base.slot b o e n hb hx
   exact⟨sl,(hs.2 b (Nat.ne_of_lt (Nat.lt_of_lt_of_le (Heap.lt_size e) (I.ok.cab x c hfn hc)))).trans e1⟩
  ·obtain⟨o',e1⟩:=I.base.there b o e hx
   exact⟨o',(hs.2 b (Nat.ne_of_lt (Nat.lt_of_lt_of_le (Heap.lt_size e) (I.ok.cab x c hfn hc)))).trans e1⟩
  ·by_cases hj:j=i
   ·subst hj
    rw[hi] at e1;cases e1
    rw[List.getElem?_set_self hiσ] at e2
    cases e2
    exact⟨u,r, .inr ⟨.inl hk,c,hc,eM⟩⟩
   ·rw[List.getElem?_set_ne (Ne.symm hj)] at e2
    obtain⟨u',r',q⟩:=hl j y v' e1 e2 e3
    refine⟨u',r',?_⟩
    rcases q with q | ⟨k,c',e,z'⟩
    ·exact .inl q
    ·refine .inr ⟨k,c',e,z'.sameBut hs ?_⟩
     rintro rfl
     exact hj (B1 hN e1 (I.ok.inj _ _ _ e hc▸hi))
  ·by_cases hcc:c'=c
   ·subst hcc;exact⟨_,eM⟩
   ·obtain⟨w2,z2⟩:=I.cell y c' e
    exact⟨w2,z2.sameBut hs hcc⟩
  ·obtain⟨e,n,ne,nf,d⟩:=I.pin p hp
   refine⟨(hs.2 p.1 ?_).trans e,n,ne,nf,d⟩
   intro q
   rw[q,hoc] at e
   have q':oc=p.2:=Option.some.inj e
   exact d w' (by rw[←q'];exact hocd)
def Z7 {Q:Unit->Shared->Prop}(I:Inv X aa U H s)(hN:X.N.Nodup)(hi:X.N[i]?=some x)(hx:Loc X.env.scope x)(r:XW v u)
  (h:∀s',Inv X aa (U.set i (some v)) H s'->Q () s')(hf:X.fn x=true∨X.env.scope.names.lookup x=some .local:=by first |exact .inl rfl |exact .inr rfl |assumption):wpAny Mqz A (storeName X.env x u) Q E s:=
 Dx I hN hi hx r (λs' I' _=>h s' I') hf
def Inv.call' (I:Inv X aa U H s)(ho:s'.os=s.os)(u:Un (frs X.stack) ch H H' s.heap s'.heap)(hok:HOk X.prog X.w H' s'.heap)(hg:AllBare s'.gens)
  (fm:∀b∈ch,(b∈X.ex∨X.s₀.heap.objs.size<=b)/\b≠X.env.locals/\(∀x c,X.env.cells.lookup x=some c->c≠b)/\∀p∈X.pn++aa,p.1≠b):Inv X aa U H' s':=by
 obtain⟨h',g',d',t',o'⟩:=s'
 have e:o'=s.os:=ho
 subst e
 exact I.call (g':=g') (t':=t') (d':=d') u hok hg fm
end
abbrev XK:=Value->Option Addr->Hp->Prop
abbrev St:=List (Option V)
abbrev VK:=V->Hp->Prop
abbrev TE:=St->Hp->VK->Prop
abbrev TT:=St->Hp->(Bool->Hp->Prop)->Prop
abbrev TA:=St->Hp->(List V->Hp->Prop)->Prop
structure Ends where
 nx:St->Hp->Prop
 rt:VK
 bk:St->Hp->Prop:=λ_ _=>False
 ct:St->Hp->Prop:=λ_ _=>False
abbrev TS:=Ends->St->Hp->Prop
def EP (X:Cx)(aa:List (Addr×Obj))(U:St)(Q:VK)(u:Value)(s':Shared):Prop:=∃ v H',Inv X aa U H' s'/\XW v u/\Q v H'
def TP (X:Cx)(aa:List (Addr×Obj))(U:St)(Q:Bool->Hp->Prop)(b:Bool)(s':Shared):Prop:=∃ H',Inv X aa U H' s'/\Q b H'
def AP (X:Cx)(aa:List (Addr×Obj))(U:St)(Q:List V->Hp->Prop)(us:List Value)(s':Shared):Prop:=∃ vs H',Inv X aa U H' s'/\X0 vs us/\Q vs H'
def SP (X:Cx)(aa:List (Addr×Obj))(D:Ends)(f:Flow)(s':Shared):Prop:=
 match f with
 | .next=>∃ U' H',Inv X aa U' H' s'/\D.nx U' H'
 | .brk=>∃ U' H',Inv X aa U' H' s'/\D.bk U' H'
 | .cont=>∃ U' H',Inv X aa U' H' s'/\D.ct U' H'
 | .ret u=>∃ v U' H',Inv X aa U' H' s'/\XW v u/\D.rt v H'
def PE (X:Cx)(e:Expr)(t:TE):Prop:=
 ∀(aa:List (Addr×Obj)) (s:Shared) (U:St) (H:Hp) (Q:VK),Inv X aa U H s->t U H Q->wpAny (model X.prog X.w) X.A (eval e X.env) (EP X aa U Q) X.xe s
def PT (X:Cx)(e:Expr)(t:TT):Prop:=
 ∀(aa:List (Addr×Obj)) (s:Shared) (U:St) (H:Hp) (Q:Bool->Hp->Prop),Inv X aa U H s->t U H Q->wpAny (model X.prog X.w) X.A (isTrue e X.env (eval e X.env)) (TP X aa U Q) X.xe s
def PW (X:Cx)(e:Expr)(t:TT):Prop:=
 ∀(dC:Sem Value) (aa:List (Addr×Obj)) (s:Shared) (U:St) (H:Hp) (Q:Bool->Hp->Prop),Inv X aa U H s->t U H Q->wpAny (model X.prog X.w) X.A (isTrue e X.env dC) (TP X aa U Q) X.xe s
def PW.pt (h:PW X e t):PT X e t:=h _
def PA (X:Cx)(es:List Expr)(t:TA):Prop:=
 ∀(pos:Pos) (aa:List (Addr×Obj)) (s:Shared) (U:St) (H:Hp) (Q:List V->Hp->Prop),Inv X aa U H s->t U H Q->wpAny (model X.prog X.w) X.A (spliced (backTo pos (starEach es X.env))) (AP X aa U Q) X.xe s
def PS (X:Cx)(st:Stmt)(t:TS):Prop:=
 ∀(aa:List (Addr×Obj)) (s:Shared) (U:St) (H:Hp) (D:Ends),Inv X aa U H s->t D U H->wpAny (model X.prog X.w) X.A (exec st X.env) (SP X aa D) X.xe s
def PSs (X:Cx)(st:List Stmt)(t:TS):Prop:=
 ∀(aa:List (Addr×Obj)) (s:Shared) (U:St) (H:Hp) (D:Ends),Inv X aa U H s->t D U H->wpAny (model X.prog X.w) X.A (execs st X.env) (SP X aa D) X.xe s
def thn {Q:M->Shared->Prop}(h:wpAny Mqz A t Q E s)(hQ:∀a s,Q a s->Q' a s):wpAny Mqz A t Q' E s:=wpAny_mono h hQ λ_ _ x=>x
end L2
variable {H H' H1 H2:L2.Hp}{X:L2.Cx}{U:L2.St}{ta tb tc td te:L2.TE}{xs:List L2.V}{kvs:List (L2.Key×L2.V)}{D:L2.Ends}{Fd:L2.Ends->L->L2.Hp->Prop}
namespace L2
open PySem PySem.Spec PyProof.Rows
section
def Q0 (i:Nat):TE:=λU H Q=>∃ v,U[i]?=some (some v)/\Q v H
def tC (v:V):TE:=λ_ H Q=>Q v H
def Tu (hN:X.N[i]?=some x)(hv:Vis X.env.scope x)(hd:(x==("__debug__":Str))=false:=by decide)(eN:(x==("__classdict__":Str))=false:=by decide):PE X (.Name x pos) (Q0 i):=by
 intro aa s U H Q I h
 obtain⟨v,e,h⟩:=h
 obtain⟨m,hn,hl⟩:=I.loc
 obtain⟨u,r,l⟩:=hl i x v hN e hv
 have fin:EP X aa U Q u s:=⟨v,H,I,r,h⟩
 rcases l with⟨hk,hm⟩ | ⟨hk,c,hc,bg⟩
 ·exact wpAny_Name (wpAny_loadName_local I.ok.kind hk hn hm fin) hd
 ·rcases hk with hk |hk
  ·exact wpAny_Name (wpAny_loadName_cell I.ok.kind hk hc bg fin) hd
  ·exact wpAny_Name (wpAny_loadName_free I.ok.kind hk hc bg fin eN) hd
def Xc {i j pos}:PE X (.Constant (.int i) j pos) (tC (.int i)):=λ_ _ _ H _ I h=>wpAny_Constant_int ⟨.int i,H,I.tok _,⟨_,rfl⟩,h⟩
def Up {b j pos}:PE X (.Constant (.bool b) j pos) (tC (.bl b)):=λ_ _ _ H _ I h=>Constant_bool ⟨.bl b,H,I,rfl,h⟩
def Zr {j pos}:PE X (.Constant .none j pos) (tC .non):=λ_ _ _ H _ I h=>Constant_none ⟨.non,H,I,rfl,h⟩
def Yy {x j pos}:PE X (.Constant (.str x) j pos) (tC (.str x)):=λ_ _ _ H _ I h=>Calls.Constant_str ⟨.str x,H,I.tok _,⟨_,rfl⟩,h⟩
def Gl (X:Cx)(x:Str):Prop:=X.env.kindOf x=some .globalImplicit
def IS (I:Inv X aa U H s)(hg:Gl X x)(hm:X.mg x=some u)(h:Q u s)
  (hd:(x==("__debug__":Str))=false:=by decide):wpAny (model X.prog X.w) X.A (eval (.Name x pos) X.env) Q E s:=
 Calls.Name_function_global I.ok.kind hg (Calls.loadGlobal_global (by rw[I.ok.glob];exact I.mod.glob.keeps I.bk) hm h) hd
def JP (I:Inv X aa U H s)(hg:Gl X x)(hm:X.mg x=none)(hv:bootBuiltins x=some u)(h:Q u s)
  (hn:x≠ "__name__":=by decide)(hd:(x==("__debug__":Str))=false:=by decide):wpAny (model X.prog X.w) X.A (eval (.Name x pos) X.env) Q E s:=by
 obtain⟨mb,h1,h2⟩:=I.mod.blt
 exact Calls.Name_function_global I.ok.kind hg (Calls.loadGlobal_builtin (by rw[I.ok.glob];exact I.mod.glob.keeps I.bk) hm (by rw[I.ok.blt];exact h1.keeps I.bk) ((h2 x hn).trans hv) h) hd
def PB (hg:Gl X x)(hm:X.mg x=some u)(r:XW v u)(hd:(x==("__debug__":Str))=false:=by decide):PE X (.Name x pos) (tC v):=
 λ_ _ _ H _ I h=>IS I hg hm ⟨v,H,I,r,h⟩ hd
def Ba (hg:Gl X x)(hm:X.mg x=none)(hv:bootBuiltins x=some u)(r:XW v u)(hn:x≠ "__name__":=by decide)(hd:(x==("__debug__":Str))=false:=by decide):PE X (.Name x pos) (tC v):=
 λ_ _ _ H _ I h=>JP I hg hm hv ⟨v,H,I,r,h⟩ hn hd
variable {a b:Expr}
def PC (X:Cx)(op:CmpOp)(a b:Expr)(t:TE):Prop:=
 ∀(aa:List (Addr×Obj)) (s:Shared) (U:St) (H:Hp) (Q:VK),Inv X aa U H s->t U H Q->
  wpAny (model X.prog X.w) X.A (eval a X.env) (λv s₁=>wpAny (model X.prog X.w) X.A (eval b X.env) (λu s₂=>wpAny (model X.prog X.w) X.A (compareOp op v u) (EP X aa U Q) X.xe s₂) X.xe s₁) X.xe s
def EN (b:Expr)(h:op≠ .In)(h2:op≠ .NotIn):behindInMarks op b=false:=by
 have e1:(op==CmpOp.In)=false:=by cases op<;> first |rfl |exact absurd rfl h
 have e2:(op==CmpOp.NotIn)=false:=by cases op<;> first |rfl |exact absurd rfl h2
 cases b<;> simp[behindInMarks,e1,e2]
def tB (t:TE):TT:=λU H Q=>t U H λx H1=>∃ c,x= .bl c/\Q c H1
def O2 (h:PC X op a b t)(h1:behindInMarks op b=false:=by first |exact EN _ (by decide) (by decide) |rfl):PE X (.Compare a [op] [b] pos) t:=λaa s U H Q I hw=>wpAny_Compare1 (h aa s U H Q I hw) h1
def T0 (h:PC X op a b t)(h1:behindInMarks op b=false:=by first |exact EN _ (by decide) (by decide) |rfl):PT X (.Compare a [op] [b] pos) (tB t):=by
 intro aa s U H Q I hw
 refine wpAny_isTrue_Compare1 (thn (h aa s U H _ I hw) λv s1 h1=>thn h1 λu s2 h2=>thn h2 λc s3 r9=>?_) h1
 obtain⟨x,H1,I1,r1,q1⟩:=r9
 obtain⟨d,rfl,q⟩:=q1
 cases r1
 exact wpAny_truthy_bool ⟨H1,I1,q⟩
def Ja (h:PE X e t)(he:∀dC,isTrue e X.env dC=(do let v ←dC;standAt e.pos;holding [v] (truthy v)):=by intro _;rfl):PT X e (tB t):=by
 intro aa s U H Q I hw
 refine isTrue_plain (thn (h aa s U H _ I hw) λv s1 r9=>?_) (he _)
 obtain⟨x,H1,I1,r1,q1⟩:=r9
 obtain⟨d,rfl,q⟩:=q1
 cases r1
 exact wpAny_truthy_bool ⟨H1,I1,q⟩
variable {tA tB':TT}{ZA:List Expr}
def Am (t u:TT):TT:=λU H Q=>t U H λc H1=>if c=true then u U H1 Q else Q false H1
def tOr (t u:TT):TT:=λU H Q=>t U H λc H1=>if c=true then Q true H1 else u U H1 Q
def AB (t:TT):TT:=λU H Q=>t U H λc H1=>Q (!c) H1
def BD (ha:PT X a tA):PW X (.BoolOp .And [a] pos) tA:=by
 intro wh aa s U H Q I h
 refine isTrue_and (thn (ha aa s U H Q I h) λc s1 e=>?_)
 cases c with
 |true=>exact isTrue_and_nil e
 |false=>exact e
def Gp (ha:PT X a tA):PW X (.BoolOp .Or [a] pos) tA:=by
 intro wh aa s U H Q I h
 refine isTrue_or (thn (ha aa s U H Q I h) λc s1 e=>?_)
 cases c with
 |false=>exact isTrue_or_nil e
 |true=>exact e
def HX (ha:PT X a tA)(hb:PW X (.BoolOp .And (b::ZA) pos) tB'):PW X (.BoolOp .And (a::b::ZA) pos) (Am tA tB'):=by
 intro wh aa s U H Q I h
 refine isTrue_and (thn (ha aa s U H _ I h) λc s1 r9=>?_)
 obtain⟨H1,I1,q1⟩:=r9
 cases c with
 |true=>exact hb wh aa s1 U H1 Q I1 q1
 |false=>exact⟨H1,I1,q1⟩
def Bg (ha:PT X a tA)(hb:PW X (.BoolOp .Or (b::ZA) pos) tB'):PW X (.BoolOp .Or (a::b::ZA) pos) (tOr tA tB'):=by
 intro wh aa s U H Q I h
 refine isTrue_or (thn (ha aa s U H _ I h) λc s1 r9=>?_)
 obtain⟨H1,I1,q1⟩:=r9
 cases c with
 |true=>exact⟨H1,I1,q1⟩
 |false=>exact hb wh aa s1 U H1 Q I1 q1
def K9 (ha:PT X a tA):PT X (.UnaryOp .Not a pos) (AB tA):=by
 intro aa s U H Q I h
 exact isTrue_not (ha aa s U H (λc H1=>Q (!c) H1) I h)
def RE (ta tb:TE):TE:=λU H Q=>ta U H λx H1=>∃ c,x= .bl c/\if c=true then tb U H1 Q else Q (.bl false) H1
def MR {op}(h:PE X a t):PE X (.BoolOp op [a] pos) t:=λaa s U H Q I hw=>BoolOp_one (h aa s U H Q I hw)
def MH (ha:PE X a ta)(hb:PE X (.BoolOp .And (b::ZA) pos) tb):PE X (.BoolOp .And (a::b::ZA) pos) (RE ta tb):=by
 intro aa s U H Q I h
 refine BoolOp_and (thn (ha aa s U H _ I h) λv s1 r9=>?_)
 obtain⟨x,H1,I1,r1,q1⟩:=r9
 obtain⟨c,rfl,q1⟩:=q1
 cases r1
 refine wpAny_truthy_bool ?_
 cases c with
 |true=>exact hb aa s1 U H1 Q I1 q1
 |false=>exact⟨.bl false,H1,I1,rfl,q1⟩
def tIf (t:TT)(ta tb:TE):TE:=λU H Q=>t U H λc H1=>if c=true then ta U H1 Q else tb U H1 Q
def N1 (hc:PT X c tA)(ha:PE X a ta)(hb:PE X b tb):PE X (.IfExp c a b pos) (tIf tA ta tb):=by
 intro aa s U H Q I h
 refine wpAny_IfExp (thn (hc aa s U H _ I h) λd s1 r9=>?_)
 obtain⟨H1,I1,q1⟩:=r9
 cases d with
 |true=>exact ha aa s1 U H1 Q I1 q1
 |false=>exact hb aa s1 U H1 Q I1 q1
end
def SqL (K:W.Frag)(H:Hp)(a:Addr)(xs:List V):Prop:=
 Rd H a (.lst xs)∨
  ∃(o:Obj) (its:Array Value) (n:Nat),K.lookup a=some o/\o.cls= .type "list" /\o.dict=none/\o.data= .seq its n/\its.size<=sizeLine/\X0 xs its.toList
def SqT (K:W.Frag)(H:Hp)(a:Addr)(xs:List V):Prop:=
 Rd H a (.tup xs)∨
  ∃(o:Obj) (its:Array Value) (n:Nat),K.lookup a=some o/\o.cls= .type "tuple" /\o.data= .seq its n/\its.size<=sizeLine/\X0 xs its.toList
def qT:Value->Option V
 | .none=>some .non
 | .bool b=>some (.bl b)
 | .int i _=>some (.int i)
 | .str x _=>some (.str x)
 | .bytes b _=>some (.byt b)
 | .float b _=>some (.flt b)
 | .ref a=>some (.ref a)
 | .type n=>some (.ty n)
 |_=>none
def XW.abs {x:V}(r:XW x u):qT u=some x:=by
 cases x with
 |non=>cases r;rfl
 |bl _=>cases r;rfl
 |int _=>obtain⟨t,rfl⟩:=r;rfl
 |str _=>obtain⟨t,rfl⟩:=r;rfl
 |byt _=>obtain⟨t,rfl⟩:=r;rfl
 |flt _=>obtain⟨t,rfl⟩:=r;rfl
 |ref _=>cases r;rfl
 |ty _=>cases r;rfl
def XW.inj {x y:V}(r:XW x u)(q:XW y u):x=y:=Option.some.inj (r.abs.symm.trans q.abs)
def X0.inj:∀{xs ys:List V}{us:List Value},X0 xs us->X0 ys us->xs=ys:=fun {xs ys us} p=>by
 induction p generalizing ys with
 |nil=>intro q;cases q;rfl
 |cons r _ ih=>intro q;cases q with |cons r' t'=>rw[r.inj r',ih t']
section
variable {ys:List V}
def SqL.of (h:H a=some (.lst xs)):SqL K H a xs:=.inl (.inl h)
def SqT.of (h:H a=some (.tup xs)):SqT K H a xs:=.inl (.inl h)
def Inv.list (I:Inv X aa U H s)(h:SqL X.K H a xs):∃its:List Value,X0 xs its/\PlainL s.heap a its.toArray/\xs.length<=sizeLine:=by
 rcases h with h | ⟨o,its,n,hk,hc,hd,hs,hz,r⟩
 ·obtain⟨z,its,n,r,e⟩:=h.ok I.hok
  exact⟨its,r,⟨_,n,e,rfl,rfl,rfl⟩,z⟩
 ·refine⟨its.toList,r,⟨o,n,I.kIn a o hk,hc,hd,by simpa using hs⟩,?_⟩
  have e:=r.length
  simp only[Array.length_toList] at e
  omega
def Inv.tuple (I:Inv X aa U H s)(h:SqT X.K H a xs):∃its:List Value,X0 xs its/\IsTup s.heap a its.toArray/\xs.length<=sizeLine:=by
 rcases h with h | ⟨o,its,n,hk,hc,hs,hz,r⟩
 ·obtain⟨z,its,r,p⟩:=h.ok I.hok
  exact⟨its,r,p.t,z⟩
 ·refine⟨its.toList,r,⟨o,I.kIn a o hk,hc,n,by simpa using hs⟩,?_⟩
  have e:=r.length
  simp only[Array.length_toList] at e
  omega
def Inv.list_inj (I:Inv X aa U H s)(h:SqL X.K H a xs)(h':SqL X.K H a ys):xs=ys:=by
 obtain⟨its,r,⟨o,n,e,_,_,d⟩,_⟩:=I.list h
 obtain⟨its',r',⟨o',n',e',_,_,d'⟩,_⟩:=I.list h'
 rw[e] at e';cases e'
 rw[d] at d'
 injection d' with d1 _
 have:its=its':=by simpa using congrArg Array.toList d1
 subst this
 exact r.inj r'
def Inv.tuple_inj (I:Inv X aa U H s)(h:SqT X.K H a xs)(h':SqT X.K H a ys):xs=ys:=by
 obtain⟨its,r,⟨o,e,_,n,d⟩,_⟩:=I.tuple h
 obtain⟨its',r',⟨o',e',_,n',d'⟩,_⟩:=I.tuple h'
 rw[e] at e';cases e'
 rw[d] at d'
 injection d' with d1 _
 have:its=its':=by simpa using congrArg Array.toList d1
 subst this
 exact r.inj r'
end
abbrev Cx.wish (X:Cx)(E:Value->Shared->Prop):Cx:={X with xe:=E}
abbrev Cx.nox (X:Cx):Cx:=X.wish λ_ _=>False
def Cx.Ok.wish (ok:X.Ok)(E:Value->Shared->Prop):(X.wish E).Ok:=
 ⟨ok.mod,ok.kind,ok.glob,ok.blt,ok.above,ok.inj,ok.has,ok.cab,ok.hd,ok.frames,ok.stk,ok.exf,ok.bs,ok.bsz,ok.noex,ok.exfs,ok.funs,ok.frf⟩
def Cx.Ok.unwish (ok:(X.wish E).Ok):X.Ok:=
 ⟨ok.mod,ok.kind,ok.glob,ok.blt,ok.above,ok.inj,ok.has,ok.cab,ok.hd,ok.frames,ok.stk,ok.exf,ok.bs,ok.bsz,ok.noex,ok.exfs,ok.funs,ok.frf⟩
section
def Inv.wish (I:Inv X aa U H s)(E:Value->Shared->Prop):Inv (X.wish E) aa U H s:=⟨I.ok.wish E,I.os,I.bare,I.base,I.loc,I.cell,I.free,I.freeC,I.pin,I.hok,I.len⟩
def Inv.unwish (I:Inv (X.wish E) aa U H s):Inv X aa U H s:=⟨I.ok.unwish,I.os,I.bare,I.base,I.loc,I.cell,I.free,I.freeC,I.pin,I.hok,I.len⟩
def SP.unwish (h:SP (X.wish E) aa D f s'):SP X aa D f s':=by
 cases f with
 |next=>obtain⟨U',H',I,q⟩:=h;exact⟨U',H',I.unwish,q⟩
 |brk=>obtain⟨U',H',I,q⟩:=h;exact⟨U',H',I.unwish,q⟩
 |cont=>obtain⟨U',H',I,q⟩:=h;exact⟨U',H',I.unwish,q⟩
 |ret u=>obtain⟨v,U',H',I,r,q⟩:=h;exact⟨v,U',H',I.unwish,r,q⟩
def PSs.nox {st:List Stmt}{t:TS}(h:PSs X.nox st t):PSs X st t:=λaa s U H D I hw=>
 wpAny_mono (h aa s U H D (I.wish _) hw) (λ_ _ q=>q.unwish) λ_ _ z=>False.elim z
end
section
variable {st:Stmt}{ZA:List Stmt}{t u:TS}
def GC:TS:=λD U H=>D.nx U H
def Zd (t u:TS):TS:=λD U H=>t {D with nx:=u D} U H
def Xe:PSs X [] GC:=λ_ _ U H _ I h=>wpAny_execs_nil ⟨U,H,I,h⟩
def Xb (h1:PS X st t)(h2:PSs X ZA u):PSs X (st::ZA) (Zd t u):=by
 intro aa s U H D I h
 refine wpAny_execs_cons (thn (h1 aa s U H {D with nx:=u D} I h) λf s1 q=>?_)
 cases f with
 |next=>
  obtain⟨U',H',I',q⟩:=q
  exact h2 aa s1 U' H' D I' q
 |ret v=>exact q
 |brk=>exact q
 |cont=>exact q
def Inv.quiet (I:Inv X aa U H s):interactive X.env=false:=by simp[interactive,I.ok.kind]
def JJ (te:TE):TS:=λD U H=>te U H λ_ H1=>D.nx U H1
def XA (he:PE X e te)(hs:swapsWith e none pos.line X.env=pure false:=by rfl):PS X (.Expr e pos) (JJ te):=by
 intro aa s U H D I h
 exact wpAny_Expr_any (thn (he aa s U H _ I h) λv s1 r9=>by obtain⟨x,H1,I1,r1,q1⟩:=r9;exact⟨U,H1,I1,q1⟩) I.quiet hs
def W9 (te:TE):TS:=λD U H=>te U H D.rt
def Xu (he:PE X e te):PS X (.Return (some e) pos) (W9 te):=by
 intro aa s U H D I h
 exact wpAny_Return_some (thn (he aa s U H _ I h) λv s1 r9=>by obtain⟨x,H1,I1,r1,q1⟩:=r9;exact⟨x,U,H1,I1,r1,q1⟩)
def Tc (c:TT)(t u:TS):TS:=λD U H=>c U H λb H1=>if b=true then t D U H1 else u D U H1
def XU {a b:List Stmt}{tc:TT}(hc:PT X c tc)(ha:PSs X a t)(hb:PSs X b u):PS X (.If c a b pos) (Tc tc t u):=by
 intro aa s U H D I h
 refine wpAny_If (thn (hc aa s U H _ I h) λd s1 r9=>?_)
 obtain⟨H1,I1,q1⟩:=r9
 cases d with
 |true=>exact ha aa s1 U H1 D I1 q1
 |false=>exact hb aa s1 U H1 D I1 q1
def Wu:TS:=λ_ _ _=>False
def Ff:PS X st Wu:=λ_ _ _ _ _ _ h=>h.elim
end
abbrev TG:=V->St->Hp->(St->Hp->Prop)->Prop
abbrev TGs:=List V->St->Hp->(St->Hp->Prop)->Prop
def PG (X:Cx)(cx:Expr)(t:TG):Prop:=
 ∀(aa:List (Addr×Obj)) (s:Shared) (U:St) (H:Hp) (v:V) (u:Value) (Q:St->Hp->Prop),Inv X aa U H s->XW v u->t v U H Q->
  wpAny (model X.prog X.w) X.A (assign cx X.env u) (λ_ s'=>∃ U' H',Inv X aa U' H' s'/\Q U' H') X.xe s
def PGs (X:Cx)(ts:List Expr)(t:TGs):Prop:=
 ∀(aa:List (Addr×Obj)) (s:Shared) (U:St) (H:Hp) (vs:List V) (us:List Value) (Q:St->Hp->Prop),Inv X aa U H s->X0 vs us->t vs U H Q->
  wpAny (model X.prog X.w) X.A (assignInOrder ((assignEach ts X.env).map (·.2)) us) (λ_ s'=>∃ U' H',Inv X aa U' H' s'/\Q U' H') X.xe s
abbrev qm:=V->V->V->Hp->(Hp->Prop)->Prop
def A6 (X:Cx)(t:qm):Prop:=
 ∀(aa:List (Addr×Obj)) (s:Shared) (U:St) (H:Hp) (o i v:V) (ov iv u:Value) (Q:Hp->Prop),Inv X aa U H s->XW o ov->XW i iv->XW v u->t o i v H Q->
  wpAny (model X.prog X.w) X.A (setItem ov iv u) (λ_ s'=>∃ H',Inv X aa U H' s'/\Q H') X.xe s
abbrev TIp:=V->V->Hp->VK->Prop
def PIp (X:Cx)(op:Operator)(t:TIp):Prop:=
 ∀(aa:List (Addr×Obj)) (s:Shared) (U:St) (H:Hp) (x y:V) (v u:Value) (Q:VK),Inv X aa U H s->XW x v->XW y u->t x y H Q->
  wpAny (model X.prog X.w) X.A (inplaceOp op v u) (EP X aa U Q) X.xe s
section
def YI (i:Nat):TG:=λv U H Q=>Q (U.set i (some v)) H
def XC (hN:X.N.Nodup)(hi:X.N[i]?=some x)(hx:Loc X.env.scope x)(hf:X.fn x=true∨X.env.scope.names.lookup x=some .local:=by first |exact .inl rfl |exact .inr rfl |assumption):PG X (.Name x pos) (YI i):=by
 intro aa s U H v u Q I r h
 exact wpAny_assign_Name (Z7 I hN hi hx r (λs' I'=>⟨_,H,I',h⟩) hf)
def ON:TGs:=λvs U H Q=>vs=[]/\Q U H
def Z0 (t:TG)(u:TGs):TGs:=λvs U H Q=>∃ v r,vs=v::r/\t v U H λU' H'=>u r U' H' Q
def YD:PGs X [] ON:=by
 intro aa s U H vs us Q I r h
 obtain⟨e,h⟩:=h
 subst e
 cases r
 exact assignInOrder_nil ⟨U,H,I,h⟩
def Xs {u:TGs}(h1:PG X e t)(h2:PGs X es u)
  (hs:(assignEach (e::es) X.env).map (·.2)=assign e X.env::(assignEach es X.env).map (·.2):=by rfl):PGs X (e::es) (Z0 t u):=by
 intro aa s U H vs us Q I r h
 obtain⟨v,vr,e1,h⟩:=h
 subst e1
 cases r with
 |cons r rr=>
  rw[hs]
  refine assignInOrder_cons (thn (h1 aa s U H _ _ _ I r h) λ_ s1 r9=>?_)
  obtain⟨σ1,H1,I1,q1⟩:=r9
  exact h2 aa s1 σ1 H1 _ _ Q I1 rr q1
def Oq (K:W.Frag)(n:Nat)(t:TGs):TG:=λv U H Q=>∃ a xs,v= .ref a/\SqT K H a xs/\xs.length=n/\t xs U H Q
def ZJ (hc:X.calm=true)(h:PGs X es t)
  (hn:(assignEach es X.env).length=n:=by rfl)(gj:(assignEach es X.env).findIdx? (·.1)=none:=by rfl):PG X (.Tuple es k pos) (Oq X.K n t):=by
 intro aa s U H v u Q I r hw
 obtain⟨a,xs,e1,hq,hl,hw⟩:=hw
 subst e1
 cases r
 obtain⟨its,rv,ht,hz⟩:=I.tuple hq
 refine assign_Tuple_tuple (I.ok.hd hc) ht (by simp[hn, ←hl,rv.length]) gj λh' hx=>?_
 have I1:Inv X aa U H {s with heap:=h'}:=I.kept (t':=s.toks) λb o e=>hx b o (Nat.ne_of_lt (Heap.lt_size e)) e
 exact h aa _ U H xs _ Q I1 (by simpa using rv) hw
def W8 (to ti:TE)(t:qm):TG:=λv U H Q=>to U H λo H1=>ti U H1 λi H2=>t o i v H2 λH3=>Q U H3
def Um (ho:PE X o to)(hi:PE X i ti)(hs:A6 X t)
  (ha:∀v,assign (.Subscript o i pos) X.env v=(do
   let ov ←holding [v] (eval o X.env)
   let iv ←holding [v,ov] (eval i X.env)
   standAt pos
   holding [v,ov,iv] (setItem ov iv v)
   release [v,ov,iv] []):=by intro _;rfl):PG X (.Subscript o i pos) (W8 to ti t):=by
 intro aa s U H v u Q I r h
 rw[ha]
 refine wpAny_bind (wpAny_holding (thn (ho aa s U H _ I h) λov s1 r9=>?_))
 obtain⟨x,H1,I1,r1,q1⟩:=r9
 refine wpAny_bind (wpAny_holding (thn (hi aa s1 U H1 _ I1 q1) λiv s2 r9=>?_))
 obtain⟨y,H2,I2,r2,q2⟩:=r9
 refine wpAny_bind (wpAny_standAt (wpAny_bind (wpAny_holding (thn (hs aa s2 U H2 x y v ov iv u _ I2 r1 r2 r q2) λ_ s3 r9=>?_))))
 obtain⟨H3,I3,q3⟩:=r9
 exact wpAny_release ⟨U,H3,I3,q3⟩
def BG (te:TE)(g:TG):TS:=λD U H=>te U H λx H1=>g x U H1 D.nx
def Q1 (he:PE X e te)(hg:PG X tg g)(hs:swapsWithSole [tg] e pos.line X.env=pure false:=by rfl)(hw:swappedStores [tg] e X.env=pure none:=by rfl)
  (h1:(assignEach [tg] X.env).map (·.2)=[assign tg X.env]:=by rfl):PS X (.Assign [tg] e pos) (BG te g):=by
 intro aa s U H D I h
 refine wpAny_Assign_stores (thn (he aa s U H _ I h) λv s1 r9=>?_) hs hw
 obtain⟨x,H1,I1,r1,q1⟩:=r9
 rw[h1]
 exact thn (hg aa s1 U H1 x v _ I1 r1 q1) λ_ s2 q=>q
def Ud (hN:X.N.Nodup)(hi:X.N[i]?=some x)(hx:Loc X.env.scope x)(he:PE X e te)(hs:swapsWith e (some (.Name x cy)) pos.line X.env=pure false:=by rfl)(hf:X.fn x=true∨X.env.scope.names.lookup x=some .local:=by first |exact .inl rfl |exact .inr rfl |assumption):
  PS X (.Assign [.Name x cy] e pos) (BG te (YI i)):=by
 intro aa s U H D I h
 refine wpAny_Assign_Name (thn (he aa s U H _ I h) λv s1 r9=>?_) hs
 obtain⟨y,H1,I1,r1,q1⟩:=r9
 exact Z7 I1 hN hi hx r1 (λs2 I2=>⟨_,H1,I2,q1⟩) hf
def A3 (i j:Nat)(ta:TA):TS:=λD U H=>ta U H λvs H1=>∃ v w,vs=[v,w]/\D.nx ((U.set i (some v)).set j (some w)) H1
def Ec {y:Str}{a b:Expr}{ta:TA}{kt k2 pt2}(hc:X.calm=true)(hN:X.N.Nodup)(hi:X.N[i]?=some x)(hj:X.N[j]?=some y)(cQ:i≠j)
  (hx:X.env.scope.names.lookup x=some .local)(hy:X.env.scope.names.lookup y=some .local)(ha:PA X [a,b] ta)
  (hw:swappedStores [.Tuple [.Name x px, .Name y py] kt pt] (.Tuple [a,b] k2 pt2) X.env=pure (some [x,y]))
  (hs:swapsWithSole [.Tuple [.Name x px, .Name y py] kt pt] (.Tuple [a,b] k2 pt2) pos.line X.env=pure false:=by rfl):
  PS X (.Assign [.Tuple [.Name x px, .Name y py] kt pt] (.Tuple [a,b] k2 pt2) pos) (A3 i j ta):=by
 intro aa s U H D I h
 rw[exec_Assign_arm]
 refine wpAny_bind (wpAny_standAt ?_)
 rw[hs]
 refine wpAny_bind (wpAny_pure ?_)
 rw[if_neg (by decide)]
 refine wpAny_bind (Tuple_ (thn (ha _ aa s U H _ I h) λus s1 r9=>?_))
 obtain⟨vs,H1,I1,r1,q1⟩:=r9
 obtain⟨v,w,e1,q1⟩:=q1
 subst e1
 obtain⟨u1,u2,rfl,rv,cz⟩:∃u1 u2,us=[u1,u2]/\XW v u1/\XW w u2:=by
  cases r1 with
  |cons p q=>
   cases q with
   |cons p' q'=>
    cases q'
    exact⟨_,_,rfl,p,p'⟩
 refine wpAny_newObj_type ?_ (by show 2<=sizeLine;decide)
 have I2:Inv X aa U H1 {s1 with heap:=s1.heap.push {cls:=.type "tuple",data:=.seq [u1,u2].toArray}}:=I1.kept (t':=s1.toks) λb o e=>Heap.get?_push_of_some _ e
 rw[hw]
 refine wpAny_bind (wpAny_pure ?_)
 show wpAny (model X.prog X.w) X.A (do rule "assign.swapped-stores";let items ←unpackItems (.ref s1.heap.objs.size) 2 none;assignInOrder [λv=>bindName X.env y v,λv=>bindName X.env x v] items.reverse;pure Flow.next) _ _ _
 refine wpAny_bind (wpAny_rule (wpAny_bind (unpackItems_tuple (items:=#[u1,u2]) (I.ok.hd hc) (IsTup.new s1.heap _) λh' dF=>?_)))
 have I3:=I2.kept (h':=h') (t':=s1.toks) λb o e=>dF b o (Nat.ne_of_lt (Heap.lt_size e)) e
 show wpAny _ _ (assignInOrder [λv=>bindName X.env y v,λv=>bindName X.env x v] [u2,u1] >>= λ_=>pure Flow.next) _ _ _
 refine wpAny_bind (assignInOrder_cons (wpAny_bindName (Z7 I3 hN hj (.inl hy) cz (λs2 I4=>?_) (.inr hy))))
 refine assignInOrder_cons (wpAny_bindName (Z7 I4 hN hi (.inl hx) rv (λs3 I5=>assignInOrder_nil (wpAny_pure ?_)) (.inr hx)))
 rw[List.set_comm _ _ (Ne.symm cQ)] at I5
 exact⟨_,H1,I5,q1⟩
def W3 (i:Nat)(te:TE)(ti:TIp):TS:=λD U H=>∃ x,U[i]?=some (some x)/\te U H λy H1=>ti x y H1 λz H2=>D.nx (U.set i (some z)) H2
def IB (hN:X.N.Nodup)(hi:X.N[i]?=some x)(hx:Loc X.env.scope x)(he:PE X e te)(ho:PIp X op ti)(hf:X.fn x=true∨X.env.scope.names.lookup x=some .local:=by first |exact .inl rfl |exact .inr rfl |assumption):
  PS X (.AugAssign (.Name x cy) op e pos) (W3 i te ti):=by
 intro aa s U H D I h
 obtain⟨v,e1,h⟩:=h
 obtain⟨m,hn,hl⟩:=I.loc
 have vis:Vis X.env.scope x:=by rcases hx with k |k;exact .inl k;exact .inr (.inl k)
 obtain⟨u,r,l⟩:=hl i x v hi e1 vis
 refine wpAny_AugAssign_Name ?_
 have go:wpAny (model X.prog X.w) X.A (eval e X.env) (λw s₂=>wpAny (model X.prog X.w) X.A (inplaceOp op u w) (λr s₃=>wpAny (model X.prog X.w) X.A (storeName X.env x r) (λ_=>SP X aa D .next) X.xe s₃) X.xe s₂) X.xe s:=by
  refine thn (he aa s U H _ I h) λw s1 r9=>?_
  obtain⟨y,H1,I1,r1,q1⟩:=r9
  refine thn (ho aa s1 U H1 v y u w _ I1 r r1 q1) λz s2 r9=>?_
  obtain⟨zv,H2,I2,r2,q2⟩:=r9
  exact Z7 I2 hN hi hx r2 (λs3 I3=>⟨_,H2,I3,q2⟩) hf
 rcases l with⟨hk,hm⟩ | ⟨hk,c,hc,bg⟩
 ·exact wpAny_loadName_local I.ok.kind hk hn hm go
 ·rcases hk with hk |hk
  ·exact wpAny_loadName_cell I.ok.kind hk hc bg go
  ·rcases hx with k |k
   ·have:X.env.scope.names.lookup x=some .free:=hk
    rw[k] at this;cases this
   ·have:X.env.scope.names.lookup x=some .free:=hk
    rw[k] at this;cases this
def ipI (f:Int->Int->Int):TIp:=λx y H Q=>∃ i j,x= .int i/\y= .int j/\Q (.int (f i j)) H
def OP:PIp X .Add (ipI λi j=>i+j):=by
 intro aa s U H x y v u Q I r1 r2 h
 obtain⟨i,j,e1,e2,q⟩:=h
 subst e1;subst e2
 obtain⟨t,rfl⟩:=r1
 obtain⟨t',rfl⟩:=r2
 exact iadd_int ⟨.int _,H,I.tok _,⟨_,rfl⟩,q⟩
end
section
def HV (c:TT)(tb:TS):TS:=λD U H=>∃ W:Nat->St->Hp->Prop,(∃m,W m U H)/\∀m U H,W m U H->
 c U H λb H1=>if b=true then ∃N:St->Hp->Prop,(∀U' H',N U' H'->∃m',m'<m/\W m' U' H')/\tb {D with nx:=N,ct:=N,bk:=D.nx} U H1 else D.nx U H1
def EB {tc:TT}{tb:TS}(hp:PassesOwn (model X.prog X.w) X.A X.env X.xe)(hc:PT X c tc)(hb:PSs X body tb):PS X (.While c body [] pos) (HV tc tb):=by
 intro aa s U H D I h
 obtain⟨W,⟨m0,w0⟩,turn⟩:=h
 refine wpAny_While (codeAny_whileLoop (λn s'=>∃ U' H',Inv X aa U' H' s'/\W n U' H') ?_ m0 ⟨U,H,I,w0⟩)
 rintro n s1 ⟨σ1,H1,I1,w1⟩
 refine wpAny_passesOwn hp (thn (hc aa s1 σ1 H1 _ I1 (turn n σ1 H1 w1)) λb s2 r9=>?_)
 obtain⟨H2,I2,q2⟩:=r9
 cases b with
 |true=>
  obtain⟨N,hN,q2⟩:=q2
  rw[if_pos rfl]
  refine wpAny_passesOwn hp (thn (hb aa s2 σ1 H2 _ I2 q2) λf s3 q3=>?_)
  cases f with
  |next=>
   obtain⟨σ3,H3,I3,n3⟩:=q3
   obtain⟨m',hm,w3⟩:=hN σ3 H3 n3
   exact⟨m',hm,σ3,H3,I3,w3⟩
  |cont=>
   obtain⟨σ3,H3,I3,n3⟩:=q3
   obtain⟨m',hm,w3⟩:=hN σ3 H3 n3
   exact⟨m',hm,σ3,H3,I3,w3⟩
  |brk=>exact q3
  |ret v=>exact q3
 |false=>
  rw[if_neg Bool.false_ne_true]
  exact wpAny_execs_nil ⟨σ1,H2,I2,q2⟩
end
structure It where
 go:Nat->Hp->Prop
 yld:Nat->Hp->V->Hp->Prop
 stop:Nat->Hp->Prop
def DZ (X:Cx)(aa:List (Addr×Obj))(H:Hp)(b:Addr):Prop:=
 H b=none/\b≠X.env.locals/\b∉X.fs/\(b∈X.ex∨X.s₀.heap.objs.size<=b)/\(∀x c,X.env.cells.lookup x=some c->c≠b)/\∀p∈X.pn++aa,p.1≠b
def Inv.fpOk (I:Inv X aa U H s)(hb:s.heap.objs.size<=b)(hn:H' b=none):DZ X aa H' b:=by
 refine⟨hn,Nat.ne_of_gt (Nat.lt_of_lt_of_le I.lt hb),I.nofs hb, .inr (Nat.le_trans I.sz hb),λx c e z=>?_,λp hp z=>?_⟩
 ·obtain⟨v,q⟩:=I.cell x c e
  exact absurd (Nat.lt_of_lt_of_le q.lt (by rw[z];exact hb)) (Nat.lt_irrefl _)
 ·exact absurd (Nat.lt_of_lt_of_le (Heap.lt_size (I.pin p hp).1) (by rw[z];exact hb)) (Nat.lt_irrefl _)
structure Turn (P:Program)(w:World)(K:W.Frag)(tg:Expr)(J:It)(fp:List Addr)(it:Addr)(tn:Nat->Heap->Prop):Prop where
 mem:it∈fp
 obj:∀i h,tn i h->∀b∈fp,∃o,h.get? b=some o/\∀v,o.data≠ .cell v
 keep:∀i h h',tn i h->(∀b∈fp,∀o,h.get? b=some o->h'.get? b=some o)->tn i h'
 item:∀(X:Cx),X.prog=P->X.w=w->X.K=K->X.calm=true->∀(i:Nat) (aa:List (Addr×Obj)) (s:Shared) (U:St) (H:Hp) (E:Value->Shared->Prop),Inv X aa U H s->(∀b∈fp,DZ X aa H b)->tn i s.heap->J.go i H->
  wpAny (model P w) X.A (pyNext (.ref it)) (λr s1=>∃ u,r=some u/\
   wpAny (model P w) X.A (letOwnedTupleGo tg (.ref it) u) (λ_ s2=>∃ x H',Inv X aa U H' s2/\XW x u/\J.yld i H x H'/\tn (i+1) s2.heap/\∀b∈fp,H' b=none) E s1) E s
 done:∀(X:Cx),X.prog=P->X.w=w->X.K=K->X.calm=true->∀(i:Nat) (aa:List (Addr×Obj)) (s:Shared) (U:St) (H:Hp) (E:Value->Shared->Prop),Inv X aa U H s->(∀b∈fp,DZ X aa H b)->tn i s.heap->J.stop i H->
  wpAny (model P w) X.A (pyNext (.ref it)) (λr s1=>r=none/\Inv X aa U H s1) E s
 self:∀(A:Around) (i:Nat) (s:Shared) (Q:Value->Shared->Prop) (E:Value->Shared->Prop),tn i s.heap->Q (.ref it) s->wpAny (model P w) A (pyIter (.ref it)) Q E s
abbrev TI:=St->Hp->(It->Hp->Prop)->Prop
def PIE (X:Cx)(aa:List (Addr×Obj))(U:St)(tg:Expr)(R:It->Hp->Prop)(gH:Value)(s2:Shared):Prop:=
 ∃(it:Addr) (fp:List Addr) (tn:Nat->Heap->Prop) (J:It) (H':Hp),gH= .ref it/\Inv X aa U H' s2/\Turn X.prog X.w X.K tg J fp it tn/\tn 0 s2.heap/\(∀b∈fp,DZ X aa H' b)/\R J H'
def PI (X:Cx)(tg iter:Expr)(wi:TI):Prop:=
 ∀(aa:List (Addr×Obj)) (s:Shared) (U:St) (H:Hp) (R:It->Hp->Prop),Inv X aa U H s->wi U H R->
  wpAny (model X.prog X.w) X.A (eval iter X.env) (λv s1=>wpAny (model X.prog X.w) X.A (pyIter v) (PIE X aa U tg R) X.xe s1) X.xe s
def Rl {n:String}{Q:Unit->Shared->Prop}(ho:s.heap.get? it=some o)(hc:o.cls= .type n)(hd:o.data= .fields vs)
    (hn: ["enumerate","zip","dict_itemiterator","dict_reverseitemiterator","odict_iterator","itertools.zip_longest","itertools.pairwise"].contains n=false)(hQ:Q () s):wpAny Mqz A (letOwnedTupleGo tg (.ref it) u) Q E s:=by
  unfold letOwnedTupleGo
  cases tg<;> first
    |exact wpAny_pure hQ
    | (cases u<;> first
        |exact wpAny_pure hQ
        | (refine wpAny_bind (wpAny_load ho ?_)
           rw[hc,hd]
           show wpAny Mqz A (if(["enumerate","zip","dict_itemiterator","dict_reverseitemiterator","odict_iterator","itertools.zip_longest","itertools.pairwise"].contains n&&vs[0]?==some (rawInt _))=true then _ else _) Q E s
           rw[if_neg (by intro h;rw[hn,Bool.false_and] at h;cases h)]
           exact wpAny_pure hQ))
def Itl (K:W.Frag)(a:Addr):It:=
 ⟨λi H=>∃ xs x,SqL K H a xs/\xs[i]?=some x,λi H x H'=>H'=H/\∀xs,SqL K H a xs->xs[i]?=some x,λi H=>∃ xs,SqL K H a xs/\xs.length<=i⟩
def Itt (K:W.Frag)(a:Addr):It:=
 ⟨λi H=>∃ xs x,SqT K H a xs/\xs[i]?=some x,λi H x H'=>H'=H/\∀xs,SqT K H a xs->xs[i]?=some x,λi H=>∃ xs,SqT K H a xs/\xs.length<=i⟩
def Itr (lo:Int)(n:Nat):It:=⟨λi _=>i<n,λi H x H'=>H'=H/\x= .int (lo+i),λi _=>n<=i⟩
def Ik (a it:Addr):Turn P w K tg (Itl K a) [it] it (λi h=>h.IsListIter it a i) where
 mem:=by simp
 obj:=λi h st b hb=>by
  have e:b=it:=by simpa using hb
  subst e
  obtain⟨o,e,c,d⟩:=st
  exact⟨o,e,λv z=>by rw[d] at z;cases z⟩
 keep:=λi h h' st k=>st.at λo e=>k it (by simp) o e
 item:=by
  intro X hP hw hK hc i aa s U H E I hf st hg
  subst hP hw hK
  obtain⟨xs,x,hq,hx⟩:=hg
  obtain⟨its,rv,p,hz⟩:=I.list hq
  obtain⟨u,hu,ru⟩:=rv.get hx
  obtain⟨f0,f1,f2,f3,f4,f5⟩:=hf it (by simp)
  refine wpAny_pyNext_list_item st p.isList (x:=u) (by simpa using hu) λh' fo sb=>?_
  have I1:Inv X aa U H {s with heap:=h'}:=I.turned (t':=s.toks) (λb o hb e=>(sb.2 b hb).trans e) f0 f1 f3 f4 f5
  obtain⟨o,e,c,d⟩:=id fo
  exact⟨u,rfl,Rl (s:={s with heap:=h'}) e c d (by decide) ⟨x,H,I1,ru,⟨rfl,λys hy=>by rw[I.list_inj hy hq];exact hx⟩,fo,λb hb=>(hf b hb).1⟩⟩
 done:=by
  intro X hP hw hK hc i aa s U H E I hf st hg
  subst hP hw hK
  obtain⟨xs,hq,hx⟩:=hg
  obtain⟨its,rv,p,hz⟩:=I.list hq
  obtain⟨f0,f1,f2,f3,f4,f5⟩:=hf it (by simp)
  have hl:=rv.length
  exact wpAny_pyNext_list_end (I.ok.hd hc) st p.isList (by simp;omega) λh' eb=>⟨rfl,I.turned (t':=s.toks) (λb o hb e=>eb b o hb e) f0 f1 f3 f4 f5⟩
 self:=λ_ _ _ _ _ st h=>wpAny_pyIter_listiter st h
def Hm (a it:Addr):Turn P w K tg (Itt K a) [it] it (λi h=>h.IsTupleIter it a i) where
 mem:=by simp
 obj:=λi h st b hb=>by
  have e:b=it:=by simpa using hb
  subst e
  obtain⟨o,e,c,d⟩:=st
  exact⟨o,e,λv z=>by rw[d] at z;cases z⟩
 keep:=λi h h' st k=>st.at λo e=>k it (by simp) o e
 item:=by
  intro X hP hw hK hc i aa s U H E I hf st hg
  subst hP hw hK
  obtain⟨xs,x,hq,hx⟩:=hg
  obtain⟨its,rv,p,hz⟩:=I.tuple hq
  obtain⟨u,hu,ru⟩:=rv.get hx
  obtain⟨f0,f1,f2,f3,f4,f5⟩:=hf it (by simp)
  refine wpAny_pyNext_tuple_item st (show s.heap.IsTuple a its.toArray from p) (x:=u) (by simpa using hu) λh' fo sb=>?_
  have I1:Inv X aa U H {s with heap:=h'}:=I.turned (t':=s.toks) (λb o hb e=>(sb.2 b hb).trans e) f0 f1 f3 f4 f5
  obtain⟨o,e,c,d⟩:=id fo
  exact⟨u,rfl,Rl (s:={s with heap:=h'}) e c d (by decide) ⟨x,H,I1,ru,⟨rfl,λys hy=>by rw[I.tuple_inj hy hq];exact hx⟩,fo,λb hb=>(hf b hb).1⟩⟩
 done:=by
  intro X hP hw hK hc i aa s U H E I hf st hg
  subst hP hw hK
  obtain⟨xs,hq,hx⟩:=hg
  obtain⟨its,rv,p,hz⟩:=I.tuple hq
  obtain⟨f0,f1,f2,f3,f4,f5⟩:=hf it (by simp)
  have hl:=rv.length
  exact wpAny_pyNext_tuple_end (I.ok.hd hc) st (show s.heap.IsTuple a its.toArray from p) (by simp;omega) λh' eb=>⟨rfl,I.turned (t':=s.toks) (λb o hb e=>eb b o hb e) f0 f1 f3 f4 f5⟩
 self:=λ_ _ _ _ _ st h=>wpAny_pyIter_tupleiter st h
def Hj (it:Addr)(lo:Int)(n:Nat):Turn P w K tg (Itr lo n) [it] it (λi h=>IsRangeIter h it (lo+(i:Nat)*1) ((n:Int)-(i:Nat)) 1) where
 mem:=by simp
 obj:=λi h st b hb=>by
  have e:b=it:=by simpa using hb
  subst e
  exact⟨_,st,λv z=>by
   have z':Data.fields _=Data.cell v:=z
   cases z'⟩
 keep:=λi h h' st k=>k it (by simp) _ st
 item:=by
  intro X hP hw hK hc i aa s U H E I hf st hg
  subst hP hw hK
  obtain⟨f0,f1,f2,f3,f4,f5⟩:=hf it (by simp)
  have W:=Walks.range (prog:=X.prog) (w:=X.w) (I.ok.hd hc) it lo 1 n
  refine W.item i s _ _ hg st λv h' tk hv fo kk=>?_
  obtain⟨t,rfl⟩:=hv
  have I1:Inv X aa U H {s with heap:=h',toks:=tk}:=I.turned (λb o hb e=>kk b o (by simpa using hb) e) f0 f1 f3 f4 f5
  refine⟨_,rfl,Rl (s:={s with heap:=h',toks:=tk}) (n:="range_iterator") fo rfl rfl (by decide) ⟨.int (lo+i),H,I1,⟨t,?_⟩,⟨rfl,rfl⟩,fo,λb hb=>(hf b hb).1⟩⟩
  rw[Int.mul_one]
 done:=by
  intro X hP hw hK hc i aa s U H E I hf st hg
  subst hP hw hK
  obtain⟨f0,f1,f2,f3,f4,f5⟩:=hf it (by simp)
  exact wpAny_pyNext_range_end (I.ok.hd hc) st (by have:n<=i:=hg;omega) λh' eb=>⟨rfl,I.turned (t':=s.toks) (λb o hb e=>eb b o hb e) f0 f1 f3 f4 f5⟩
 self:=λ_ _ _ _ _ st h=>wpAny_pyIter_rangeiter st h
section
def FE (K:W.Frag)(tl:TE):TI:=λU H R=>tl U H λx H1=>∃ a,x= .ref a/\(∃xs,SqL K H1 a xs)/\R (Itl K a) H1
def WZ (K:W.Frag)(tl:TE):TI:=λU H R=>tl U H λx H1=>∃ a,x= .ref a/\(∃xs,SqT K H1 a xs)/\R (Itt K a) H1
def RG (hl:PE X l tl):PI X tg l (FE X.K tl):=by
 intro aa s U H R I h
 refine thn (hl aa s U H _ I h) λv s1 r9=>?_
 obtain⟨x,H1,I1,r1,q1⟩:=r9
 obtain⟨a,e,⟨xs,hq⟩,q⟩:=q1
 subst e
 cases r1
 obtain⟨its,rv,p,hz⟩:=I1.list hq
 refine wpAny_pyIter_list p.isList ?_
 refine⟨s1.heap.objs.size,[s1.heap.objs.size],_,_,H1,rfl,I1.kept (t':=s1.toks) λb o e=>Heap.get?_push_of_some _ e,Ik a _,⟨_,Heap.get?_push_size _ rfl,rfl,rfl⟩,λb hb=>?_,q⟩
 have e:b=s1.heap.objs.size:=by simpa using hb
 subst e
 exact I1.fpOk (Nat.le_refl _) (I1.hok.fresh (Nat.le_refl _))
def Tz (hl:PE X l tl):PI X tg l (WZ X.K tl):=by
 intro aa s U H R I h
 refine thn (hl aa s U H _ I h) λv s1 r9=>?_
 obtain⟨x,H1,I1,r1,q1⟩:=r9
 obtain⟨a,e,⟨xs,hq⟩,q⟩:=q1
 subst e
 cases r1
 obtain⟨its,rv,p,hz⟩:=I1.tuple hq
 refine wpAny_pyIter_tuple (show s1.heap.IsTuple a its.toArray from p) ?_
 refine⟨s1.heap.objs.size,[s1.heap.objs.size],_,_,H1,rfl,I1.kept (t':=s1.toks) λb o e=>Heap.get?_push_of_some _ e,Hm a _,⟨_,Heap.get?_push_size _ rfl,rfl,rfl⟩,λb hb=>?_,q⟩
 have e:b=s1.heap.objs.size:=by simpa using hb
 subst e
 exact I1.fpOk (Nat.le_refl _) (I1.hok.fresh (Nat.le_refl _))
def Eh {R:It->Hp->Prop}{lo hi:Int}{t u v:Tok}{tk:Nat}(I:Inv X aa U H s)(h1: -(2^62)<=lo)(h2:lo<2^62)(h3: -(2^62)<=hi)(h4:hi<2^62)
  (q:R (Itr lo (hi-lo).toNat) H):wpAny (model X.prog X.w) X.A (pyIter (.ref s.heap.objs.size)) (PIE X aa U tg R) E {s with heap:=s.heap.push {cls:=.type "range",data:=.fields #[.int lo t, .int hi u, .int 1 v]},toks:=tk}:=by
 refine wpAny_pyIter_range (IsRange.new ..) (small_one h1 h2 h3 h4) ?_
 have I1:Inv X aa U H {s with heap:=s.heap.push {cls:=.type "range",data:=.fields #[.int lo t, .int hi u, .int 1 v]},toks:=tk}:=I.kept λb o e=>Heap.get?_push_of_some _ e
 refine⟨(s.heap.push {cls:=.type "range",data:=.fields #[.int lo t, .int hi u, .int 1 v]}).objs.size,[(s.heap.push {cls:=.type "range",data:=.fields #[.int lo t, .int hi u, .int 1 v]}).objs.size],_,_,H,rfl,
  I1.kept (t':=tk) λb o e=>Heap.get?_push_of_some _ e,Hj _ lo (hi-lo).toNat,?_,λb hb=>?_,q⟩
 ·have e1:lo+((0:Nat):Int)*1=lo:=by simp
  have e2:(((hi-lo).toNat:Nat):Int)-((0:Nat):Int)=Builtin.Range.rangeSize lo hi 1:=by rw[rangeSize_one];split<;> omega
  show IsRangeIter _ _ (lo+((0:Nat):Int)*1) ((((hi-lo).toNat:Nat):Int)-((0:Nat):Int)) 1
  rw[e1,e2]
  exact Heap.get?_push_size _ rfl
 ·have e:b=(s.heap.push {cls:= .type "range",data:= .fields #[.int lo t, .int hi u, .int 1 v]}).objs.size:=by simpa using hb
  subst e
  exact I1.fpOk (Nat.le_refl _) (I1.hok.fresh (Nat.le_refl _))
def Sk (ta:TA):TI:=λU H R=>ta U H λvs H1=>∃ j:Int,vs=[.int j]/\ -(2^62)<=j/\j<2^62/\R (Itr 0 j.toNat) H1
def Ps (ta:TA):TI:=λU H R=>ta U H λvs H1=>∃ i j:Int,vs=[.int i, .int j]/\(-(2^62)<=i/\i<2^62/\ -(2^62)<=j/\j<2^62)/\R (Itr i (j-i).toNat) H1
def Xy {a:Expr}{ta:TA}{p:Pos}(hg:Gl X "range")(hm:X.mg "range" =none)(ha:PA X [a] ta)(hs:starEach [a] X.env=[(false,eval a X.env)]:=by rfl):PI X tg (.Call (.Name "range" p) [a] [] pos) (Sk ta):=by
 intro aa s U H R I h
 refine Call_ (JP I hg hm boot_range (callWith_type1 (thn (ha pos aa s U H _ I h) λus s1 r9=>?_) hs rfl))
 obtain⟨vs,H1,I1,r1,q1⟩:=r9
 obtain⟨j,e,q1,q2,q⟩:=q1
 subst e
 cases r1 with
 |cons r rr=>
  cases rr
  obtain⟨t,rfl⟩:=r
  exact call_range_1 (Eh I1 (by omega) (by omega) q1 q2 (by simpa using q))
def Ki {a b:Expr}{ta:TA}{p:Pos}(hg:Gl X "range")(hm:X.mg "range" =none)(ha:PA X [a,b] ta)(hs:starEach [a,b] X.env=[(false,eval a X.env),(false,eval b X.env)]:=by rfl)(gI:starEach [b] X.env=[(false,eval b X.env)]:=by rfl):
  PI X tg (.Call (.Name "range" p) [a,b] [] pos) (Ps ta):=by
 intro aa s U H R I h
 refine Call_ (JP I hg hm boot_range (callWith_type1 (thn (ha pos aa s U H _ I h) λus s1 r9=>?_) (by rw[hs,gI]) (by rw[gI];rfl)))
 obtain⟨vs,H1,I1,r1,q1⟩:=r9
 obtain⟨i,j,e,⟨q1,q2,q3,q4⟩,q⟩:=q1
 subst e
 cases r1 with
 |cons r rr=>
  cases rr with
  |cons r' rr=>
   cases rr
   obtain⟨t,rfl⟩:=r
   obtain⟨t',rfl⟩:=r'
   exact call_range_2 (Eh I1 q1 q2 q3 q4 q)
def Hv (wi:TI)(g:TG)(tb:TS):TS:=λD U H=>wi U H λJ H1=>∃ W:Nat->Nat->St->Hp->Prop,(∃m,W 0 m U H1)/\∀i m U H,W i m U H->
 (J.stop i H/\D.nx U H)∨(J.go i H/\∃N:St->Hp->Prop,(∀U' H',N U' H'->∃m',m'<m/\W (i+1) m' U' H')/\∀x H',J.yld i H x H'->g x U H' λσ2 H2=>tb {D with nx:=N,ct:=N,bk:=D.nx} σ2 H2)
def DQ (fp:List Addr)(h:Heap):List (Addr×Obj):=fp.filterMap λb=>(h.get? b).map λo=>(b,o)
def V7 (hb:b∈fp)(e:h.get? b=some o):(b,o)∈DQ fp h:=List.mem_filterMap.mpr ⟨b,hb,by rw[e];rfl⟩
def Ms {p:Addr×Obj}(hp:p∈DQ fp h):p.1∈fp/\h.get? p.1=some p.2:=by
 obtain⟨b,hb,e⟩:=List.mem_filterMap.mp hp
 cases q:h.get? b with
 |none=>rw[q] at e;cases e
 |some o=>
  rw[q] at e
  have e':(b,o)=p:=Option.some.inj e
  subst e'
  exact⟨hb,q⟩
def Inv.pinned (I:Inv X aa U H s)(hf:∀b∈fp,DZ X aa H b)(ho:∀b∈fp,∃o,s.heap.get? b=some o/\∀v,o.data≠ .cell v):Inv X (aa++DQ fp s.heap) U H s:=
 I.pins_of λp hp=>(List.mem_append.mp hp).elim (λz=>I.pin p (List.mem_append_right _ z)) λz=>by
  obtain⟨hb,e⟩:=Ms z
  obtain⟨f0,f1,f2,_⟩:=hf p.1 hb
  obtain⟨o,e',d⟩:=ho p.1 hb
  rw[e] at e';cases e'
  exact⟨e,f0,f1,f2,d⟩
def Inv.unpinned (I:Inv X (aa++pl) U H s):Inv X aa U H s:=I.pins_of λp hp=>I.pin p (List.mem_append_right _ (List.mem_append_left _ hp))
def Tg {tb:TS}(hp:PassesOwn (model X.prog X.w) X.A X.env X.xe)(hc:X.calm=true)(hi:PI X tg iter wi)(hg:PG X tg g)(hb:PSs X body tb)
  (hs:∀x,foldedSetIterable iter X.env x=pure x:=by intro _;rfl):PS X (.For tg iter body [] pos) (Hv wi g tb):=by
 intro aa s U H D I h
 refine wpAny_For (thn (hi aa s U H _ I h) λv s1 h1=>thn h1 λgH s2 h2=>?_) hs
 obtain⟨it,fp,tn,J,H2,e,I2,T,iZ,f2,W,⟨m0,w0⟩,turn⟩:=h2
 subst e
 -- what stays true of dB iterator's objects through dB df
 have gJ:∀{H':Hp},(∀b∈fp,H' b=none)->∀b∈fp,DZ X aa H' b:=λhn b hb=>⟨hn b hb,(f2 b hb).2⟩
 refine codeAny_forLoop_any (λn s'=>∃ i U' H',Inv X aa U' H' s'/\tn i s'.heap/\(∀b∈fp,H' b=none)/\W i n U' H') ?_ m0 ⟨0,U,H2,I2,iZ,λb hb=>(f2 b hb).1,w0⟩
 rintro n s3 ⟨i,σ3,H3,I3,st3,fr3,w3⟩
 rcases turn i n σ3 H3 w3 with⟨stop,qn⟩ | ⟨go,N,hN,step⟩
 ·refine wpAny_passesOwn hp (thn (T.done X rfl rfl rfl hc i aa s3 σ3 H3 X.xe I3 (gJ fr3) st3 stop) λr s4 r9=>?_)
  obtain⟨hr,I4⟩:=r9
  subst hr
  exact wpAny_execs_nil ⟨σ3,H3,I4,qn⟩
 ·refine wpAny_passesOwn hp (thn (T.item X rfl rfl rfl hc i aa s3 σ3 H3 X.xe I3 (gJ fr3) st3 go) λr s4 r9=>?_)
  obtain⟨u,hr,h4⟩:=r9
  subst hr
  refine wpAny_passesOwn hp (thn h4 λ_ s5 r9=>?_)
  obtain⟨x,H5,I5,r5,y5,st5,fr5⟩:=r9
  have I5':=I5.pinned (gJ fr5) (T.obj _ _ st5)
  refine wpAny_passesOwn hp (thn (hg _ s5 σ3 H5 x u _ I5' r5 (step x H5 y5)) λ_ s6 r9=>?_)
  obtain⟨σ6,H6,I6,q6⟩:=r9
  refine wpAny_passesOwn hp (thn (hb _ s6 σ6 H6 _ I6 q6) λf s7 q7=>?_)
  have again:∀{σ7:St}{H7:Hp},Inv X (aa++DQ fp s5.heap) σ7 H7 s7->N σ7 H7->∃m,m<n/\∃i U' H',Inv X aa U' H' s7/\tn i s7.heap/\(∀b∈fp,H' b=none)/\W i m U' H':=fun {σ7 H7} I7 n7=>by
   obtain⟨m',hm,w7⟩:=hN σ7 H7 n7
   refine⟨m',hm,i+1,σ7,H7,I7.unpinned,T.keep _ _ _ st5 λb hb o e=>(I7.pin (b,o) (List.mem_append_right _ (List.mem_append_right _ (V7 hb e)))).1,λb hb=>?_,w7⟩
   obtain⟨o,e,d⟩:=T.obj _ _ st5 b hb
   exact(I7.pin (b,o) (List.mem_append_right _ (List.mem_append_right _ (V7 hb e)))).2.1
  cases f with
  |next=>obtain⟨σ7,H7,I7,n7⟩:=q7;exact again I7 n7
  |cont=>obtain⟨σ7,H7,I7,n7⟩:=q7;exact again I7 n7
  |brk=>obtain⟨σ7,H7,I7,q7⟩:=q7;exact⟨σ7,H7,I7.unpinned,q7⟩
  |ret v=>obtain⟨x7,σ7,H7,I7,r7,q7⟩:=q7;exact⟨x7,σ7,H7,I7.unpinned,r7,q7⟩
end
abbrev R2:=V->V->Hp->VK->Prop
def OpR (X:Cx)(f:Value->Value->Sem Value)(r:R2):Prop:=
 ∀(aa:List (Addr×Obj)) (s:Shared) (U:St) (H:Hp) (x y:V) (v u:Value) (Q:VK),Inv X aa U H s->XW x v->XW y u->r x y H Q->
  wpAny (model X.prog X.w) X.A (f v u) (EP X aa U Q) X.xe s
def UnR (X:Cx)(f:Value->Sem Value)(r:V->Hp->VK->Prop):Prop:=
 ∀(aa:List (Addr×Obj)) (s:Shared) (U:St) (H:Hp) (x:V) (v:Value) (Q:VK),Inv X aa U H s->XW x v->r x H Q->
  wpAny (model X.prog X.w) X.A (f v) (EP X aa U Q) X.xe s
def ZM (X:Cx)(f:Value)(r:List V->Hp->VK->Prop):Prop:=
 ∀(aa:List (Addr×Obj)) (s:Shared) (U:St) (H:Hp) (xs:List V) (us:List Value) (Q:VK),Inv X aa U H s->X0 xs us->r xs H Q->
  wpAny (model X.prog X.w) X.A (call f us) (EP X aa U Q) X.xe s
def tOp (r:R2)(ta tb:TE):TE:=λU H Q=>ta U H λx H1=>tb U H1 λy H2=>r x y H2 Q
def tUn (r:V->Hp->VK->Prop)(ta:TE):TE:=λU H Q=>ta U H λx H1=>r x H1 Q
def rI (C:Int->Int->Prop)(g:Int->Int->V):R2:=λx y H Q=>∃ i j,x= .int i/\y= .int j/\C i j/\Q (g i j) H
def rI0 (g:Int->Int->V):R2:=λx y H Q=>∃ i j,x= .int i/\y= .int j/\Q (g i j) H
def rU (g:Int->V):V->Hp->VK->Prop:=λx H Q=>∃ i,x= .int i/\Q (g i) H
section
variable {a b c:Expr}
def Ao (ha:PE X a ta)(hb:PE X b tb){R:V->V->Hp->Prop}(I:Inv X aa U H s)
  (h:ta U H λx H1=>tb U H1 λy H2=>R x y H2){f:Value->Value->Sem Value}
  (hf:∀v u s2 x y H2,Inv X aa U H2 s2->XW x v->XW y u->R x y H2->wpAny (model X.prog X.w) X.A (f v u) Q X.xe s2):
  wpAny (model X.prog X.w) X.A (eval a X.env) (λv s₁=>wpAny (model X.prog X.w) X.A (eval b X.env) (λu s₂=>wpAny (model X.prog X.w) X.A (f v u) Q X.xe s₂) X.xe s₁) X.xe s:=by
 refine thn (ha aa s U H _ I h) λv s1 r9=>?_
 obtain⟨x,H1,I1,r1,q1⟩:=r9
 refine thn (hb aa s1 U H1 _ I1 q1) λu s2 r9=>?_
 obtain⟨y,H2,I2,r2,q2⟩:=r9
 exact hf v u s2 x y H2 I2 r1 r2 q2
def Xj (ho:OpR X (binaryOp op) r)(ha:PE X a ta)(hb:PE X b tb):PE X (.BinOp a op b pos) (tOp r ta tb):=by
 intro aa s U H Q I h
 exact wpAny_BinOp (Ao ha hb I h λv u s2 x y H2 I2 rx ry q=>ho aa s2 U H2 x y v u Q I2 rx ry q)
def ZE (ho:UnR X (unaryOp op) r)(ha:PE X a ta):PE X (.UnaryOp op a pos) (tUn r ta):=by
 intro aa s U H Q I h
 exact UnaryOp_ (thn (ha aa s U H _ I h) λv s1 r9=>by obtain⟨x,H1,I1,r1,q1⟩:=r9;exact ho aa s1 U H1 x v Q I1 r1 q1)
def opI {f:Value->Value->Sem Value}{C:Int->Int->Prop}{g:Int->Int->Int}
  (rule:∀(i j:Int) (t u:Tok) (s:Shared) (Q:Value->Shared->Prop) (E:Value->Shared->Prop),C i j->Q (.int (g i j) s.toks) {s with toks:=s.toks+1}->wpAny (model X.prog X.w) X.A (f (.int i t) (.int j u)) Q E s):
  OpR X f (rI C λi j=>.int (g i j)):=by
 intro aa s U H x y v u Q I rx ry h
 obtain⟨i,j,rfl,rfl,hc,q⟩:=h
 obtain⟨t,rfl⟩:=rx
 obtain⟨t',rfl⟩:=ry
 exact rule i j t t' s _ _ hc ⟨.int (g i j),H,I.tok _,⟨_,rfl⟩,q⟩
def A2 {f:Value->Value->Sem Value}{g:Int->Int->Int}
  (rule:∀(i j:Int) (t u:Tok) (s:Shared) (Q:Value->Shared->Prop) (E:Value->Shared->Prop),Q (.int (g i j) s.toks) {s with toks:=s.toks+1}->wpAny (model X.prog X.w) X.A (f (.int i t) (.int j u)) Q E s):
  OpR X f (rI0 λi j=>.int (g i j)):=by
 intro aa s U H x y v u Q I rx ry h
 obtain⟨i,j,rfl,rfl,q⟩:=h
 obtain⟨t,rfl⟩:=rx
 obtain⟨t',rfl⟩:=ry
 exact rule i j t t' s _ _ ⟨.int (g i j),H,I.tok _,⟨_,rfl⟩,q⟩
def AK {f:Value->Value->Sem Value}{g:Int->Int->Bool}
  (rule:∀(i j:Int) (t u:Tok) (s:Shared) (Q:Value->Shared->Prop) (E:Value->Shared->Prop),Q (.bool (g i j)) s->wpAny (model X.prog X.w) X.A (f (.int i t) (.int j u)) Q E s):
  OpR X f (rI0 λi j=>.bl (g i j)):=by
 intro aa s U H x y v u Q I rx ry h
 obtain⟨i,j,rfl,rfl,q⟩:=h
 obtain⟨t,rfl⟩:=rx
 obtain⟨t',rfl⟩:=ry
 exact rule i j t t' s _ _ ⟨.bl (g i j),H,I,rfl,q⟩
def AC (i j:Int):Prop:=0<=j/\j<=1000000/\i.natAbs<2^64
def Tb (i j:Int):Prop:=(-(2^64)<i/\i<2^64)∨(-(2^64)<j/\j<2^64)
def Tb.ok {j:Int}(h:Tb i j):IntMulOk i j:=by
 rcases h with⟨h1,h2⟩ | ⟨h1,h2⟩
 ·exact .of_left (intBits_le_64 h1 h2)
 ·exact .of_right (intBits_le_64 h1 h2)
def Xz:OpR X (binaryOp .Add) (rI0 λi j=>.int (i+j)):=A2 λ_ _ _ _ _ _ _ q=>add_int q
def Qu:OpR X (binaryOp .Sub) (rI0 λi j=>.int (i-j)):=A2 λ_ _ _ _ _ _ _ q=>sub_int q
def Ya:OpR X (binaryOp .Mult) (rI Tb λi j=>.int (i*j)):=opI λ_ _ _ _ _ _ _ hc q=>mul_int q hc.ok
def Yb:OpR X (binaryOp .Mod) (rI (λ_ j=>0<j) λi j=>.int (i % j)):=opI λi j _ _ _ _ _ hc q=>by
 have h1:(0:Int)<j:=hc
 exact mod_int' (by omega) (by rw[Int.fmod_eq_emod_of_nonneg i (by omega)];exact q)
def VC:OpR X (binaryOp .Pow) (rI AC λi j=>.int (i^j.toNat)):=opI λ_ _ _ _ _ _ _ hc q=>pow_int_small hc.1 hc.2.1 hc.2.2 q
def unI {f:Value->Sem Value}{g:Int->Int}
  (rule:∀(i:Int) (t:Tok) (s:Shared) (Q:Value->Shared->Prop) (E:Value->Shared->Prop),Q (.int (g i) s.toks) {s with toks:=s.toks+1}->wpAny (model X.prog X.w) X.A (f (.int i t)) Q E s):
  UnR X f (rU λi=>.int (g i)):=by
 intro aa s U H x v Q I rx h
 obtain⟨i,rfl,q⟩:=h
 obtain⟨t,rfl⟩:=rx
 exact rule i t s _ _ ⟨.int (g i),H,I.tok _,⟨_,rfl⟩,q⟩
def YG:UnR X (unaryOp .USub) (rU λi=>.int (-i)):=unI λ_ _ _ _ _ q=>neg_int q
end
def AG:V->V->Bool
 | .non, .non=>true | .non, .int _=>true | .int _, .non=>true | .non, .bl _=>true | .bl _, .non=>true | .non, .str _=>true | .str _, .non=>true
 | .int _, .int _=>true | .bl _, .bl _=>true | .str _, .str _=>true | .byt _, .byt _=>true
 | .int _, .str _=>true | .str _, .int _=>true | .bl _, .str _=>true | .str _, .bl _=>true
 |_,_=>false
def rEq:R2:=λx y H Q=>AG x y=true/\Q (.bl (decide (x=y))) H
def rNe:R2:=λx y H Q=>AG x y=true/\Q (.bl (!decide (x=y))) H
def LA {j:Int}:decide (V.int i=V.int j)=(i==j):=by
 rw[Bool.eq_iff_iff]
 simp
def Pg {j:Bool}:decide (V.bl i=V.bl j)=(i==j):=by
 rw[Bool.eq_iff_iff]
 simp
def Li {j:Str}:decide (V.str i=V.str j)=(i==j):=by
 rw[Bool.eq_iff_iff]
 simp
def Iy {j:Array UInt8}:decide (V.byt i=V.byt j)=(i.toList==j.toList):=by
 rw[Bool.eq_iff_iff]
 cases i
 cases j
 simp
section
variable {a b c:Expr}
def X3 {Q:VK}{k:Bool}(I:Inv X aa U H s)(q:Q (.bl k) H)(e:k=k'):EP X aa U Q (.bool k') s:=by
 subst e
 exact⟨.bl k,H,I,rfl,q⟩
def YT:OpR X (compareOp .Eq) rEq:=by
 intro aa s U H x y v u Q I rx ry h
 obtain⟨hs,q⟩:=h
 cases x with
 |non=>
  cases rx
  cases y with
  |non=>cases ry;exact PySem.EqNone.eq_none_none (X3 I q (by simp))
  |bl j=>cases ry;exact PySem.EqNone.eq_none_bool (X3 I q (by simp))
  |int j=>obtain⟨t',rfl⟩:=ry;exact PySem.EqNone.eq_none_int (X3 I q (by simp))
  |str j=>obtain⟨t',rfl⟩:=ry;exact PySem.EqNone.eq_none_str (X3 I q (by simp))
  |_=>exact absurd (show false=true from hs) Bool.false_ne_true
 |bl i=>
  cases rx
  cases y with
  |non=>cases ry;exact PySem.EqNone.eq_bool_none (X3 I q (by simp))
  |bl j=>cases ry;exact eq_bool (X3 I q Pg)
  |str j=>obtain⟨t',rfl⟩:=ry;exact PySem.EqMixed.eq_bool_str (X3 I q (by simp))
  |_=>exact absurd (show false=true from hs) Bool.false_ne_true
 |int i=>
  obtain⟨t,rfl⟩:=rx
  cases y with
  |non=>cases ry;exact PySem.EqNone.eq_int_none (X3 I q (by simp))
  |int j=>obtain⟨t',rfl⟩:=ry;exact eq_int (X3 I q LA)
  |str j=>obtain⟨t',rfl⟩:=ry;exact PySem.EqMixed.eq_int_str (X3 I q (by simp))
  |_=>exact absurd (show false=true from hs) Bool.false_ne_true
 |str i=>
  obtain⟨t,rfl⟩:=rx
  cases y with
  |non=>cases ry;exact PySem.EqNone.eq_str_none (X3 I q (by simp))
  |bl j=>cases ry;exact PySem.EqMixed.eq_str_bool (X3 I q (by simp))
  |int j=>obtain⟨t',rfl⟩:=ry;exact PySem.EqMixed.eq_str_int (X3 I q (by simp))
  |str j=>obtain⟨t',rfl⟩:=ry;exact eq_str (X3 I q Li)
  |_=>exact absurd (show false=true from hs) Bool.false_ne_true
 |byt i=>
  obtain⟨t,rfl⟩:=rx
  cases y with
  |byt j=>obtain⟨t',rfl⟩:=ry;exact PySem.W.eq_bytes (X3 I q Iy)
  |_=>exact absurd (show false=true from hs) Bool.false_ne_true
 |_=>cases y<;> exact absurd (show false=true from hs) Bool.false_ne_true
def Do:OpR X (compareOp .NotEq) rNe:=by
 intro aa s U H x y v u Q I rx ry h
 obtain⟨hs,q⟩:=h
 cases x with
 |non=>
  cases rx
  cases y with
  |non=>cases ry;exact PySem.EqNone.ne_none_none (X3 I q (by simp))
  |bl j=>cases ry;exact PySem.EqNone.ne_none_bool (X3 I q (by simp))
  |int j=>obtain⟨t',rfl⟩:=ry;exact PySem.EqNone.ne_none_int (X3 I q (by simp))
  |str j=>obtain⟨t',rfl⟩:=ry;exact PySem.EqNone.ne_none_str (X3 I q (by simp))
  |_=>exact absurd (show false=true from hs) Bool.false_ne_true
 |bl i=>
  cases rx
  cases y with
  |non=>cases ry;exact PySem.EqNone.ne_bool_none (X3 I q (by simp))
  |bl j=>cases ry;exact ne_bool (X3 I q (congrArg not Pg))
  |str j=>obtain⟨t',rfl⟩:=ry;exact PySem.EqMixed.ne_bool_str (X3 I q (by simp))
  |_=>exact absurd (show false=true from hs) Bool.false_ne_true
 |int i=>
  obtain⟨t,rfl⟩:=rx
  cases y with
  |non=>cases ry;exact PySem.EqNone.ne_int_none (X3 I q (by simp))
  |int j=>obtain⟨t',rfl⟩:=ry;exact ne_int (X3 I q (congrArg not LA))
  |str j=>obtain⟨t',rfl⟩:=ry;exact PySem.EqMixed.ne_int_str (X3 I q (by simp))
  |_=>exact absurd (show false=true from hs) Bool.false_ne_true
 |str i=>
  obtain⟨t,rfl⟩:=rx
  cases y with
  |non=>cases ry;exact PySem.EqNone.ne_str_none (X3 I q (by simp))
  |bl j=>cases ry;exact PySem.EqMixed.ne_str_bool (X3 I q (by simp))
  |int j=>obtain⟨t',rfl⟩:=ry;exact PySem.EqMixed.ne_str_int (X3 I q (by simp))
  |str j=>obtain⟨t',rfl⟩:=ry;exact ne_str (X3 I q (congrArg not Li))
  |_=>exact absurd (show false=true from hs) Bool.false_ne_true
 |byt i=>
  obtain⟨t,rfl⟩:=rx
  cases y with
  |byt j=>obtain⟨t',rfl⟩:=ry;exact PySem.W.ne_bytes (X3 I q (congrArg not Iy))
  |_=>exact absurd (show false=true from hs) Bool.false_ne_true
 |_=>cases y<;> exact absurd (show false=true from hs) Bool.false_ne_true
def US:OpR X (compareOp .Lt) (rI0 λi j=>.bl (decide (i<j))):=AK λ_ _ _ _ _ _ _ q=>lt_int q
def Tp:OpR X (compareOp .LtE) (rI0 λi j=>.bl (decide (i<=j))):=AK λ_ _ _ _ _ _ _ q=>le_int q
def FX:OpR X (compareOp .Gt) (rI0 λi j=>.bl (decide (j<i))):=AK λ_ _ _ _ _ _ _ q=>gt_int q
def Ky:OpR X (compareOp .Is) (λx y H Q=>y= .non/\Q (.bl (decide (x= .non))) H):=by
 intro aa s U H x y v u Q I rx ry h
 obtain⟨rfl,q⟩:=h
 cases ry
 refine is_none_gen (X3 I q ?_)
 cases x<;> first
  | (cases rx;rfl)
  | (obtain⟨t,rfl⟩:=rx;rfl)
def Bj:OpR X (compareOp .IsNot) (λx y H Q=>y= .non/\Q (.bl (!decide (x= .non))) H):=by
 intro aa s U H x y v u Q I rx ry h
 obtain⟨rfl,q⟩:=h
 cases ry
 refine isnot_none_gen (X3 I q ?_)
 cases x<;> first
  | (cases rx;rfl)
  | (obtain⟨t,rfl⟩:=rx;rfl)
def Xr (b:Expr)(h:op≠ .In:=by decide)(h2:op≠ .NotIn:=by decide):behindInMarks op b=false:=by
 have e1:(op==CmpOp.In)=false:=by cases op<;> first |rfl |exact absurd rfl h
 have e2:(op==CmpOp.NotIn)=false:=by cases op<;> first |rfl |exact absurd rfl h2
 cases b<;> simp[behindInMarks,e1,e2]
def Zg (ho:OpR X (compareOp op) r)(ha:PE X a ta)(hb:PE X b tb)(hm:behindInMarks op b=false):PE X (.Compare a [op] [b] pos) (tOp r ta tb):=by
 intro aa s U H Q I h
 exact wpAny_Compare1 (Ao ha hb I h λv u s2 x y H2 I2 rx ry q=>ho aa s2 U H2 x y v u Q I2 rx ry q) hm
def HK (t:TE):TT:=λU H Q=>t U H λx H'=>∃ k,x= .bl k/\Q k H'
def Xk (ho:OpR X (compareOp op) r)(ha:PE X a ta)(hb:PE X b tb)(hm:behindInMarks op b=false):PT X (.Compare a [op] [b] pos) (HK (tOp r ta tb)):=by
 intro aa s U H Q I h
 refine wpAny_isTrue_Compare1 (thn (ha aa s U H _ I h) λv s1 ⟨x,H1,I1,r1,q1⟩=>thn (hb aa s1 U H1 _ I1 q1) λu s2 ⟨y,H2,I2,r2,q2⟩=>
  thn (ho aa s2 U H2 x y v u _ I2 r1 r2 q2) λc s3 ⟨z,H3,I3,r3,k,e,q3⟩=>?_) hm
 subst e
 cases r3
 exact wpAny_truthy_bool ⟨H3,I3,q3⟩
def OY (r r':R2)(ta tb tc:TE):TE:=λU H Q=>ta U H λx H1=>tb U H1 λy H2=>r x y H2 λz H3=>∃ k,z= .bl k/\
 (if k=true then tc U H3 λw' H4=>r' y w' H4 Q else Q (.bl false) H3)
def Of (ho:OpR X (compareOp op) r)(cI:OpR X (compareOp op') r')(ha:PE X a ta)(hb:PE X b tb)(hc:PE X c tc)
  (hm:lastMarks [op,op'] [b,c]=false:=by with_unfolding_all rfl):PT X (.Compare a [op,op'] [b,c] pos) (HK (OY r r' ta tb tc)):=by
 intro aa s U H Q I h
 refine isTrue_chain (thn (ha aa s U H _ I h) λv s1 ⟨x,H1,I1,r1,q1⟩=>test_link (thn (hb aa s1 U H1 _ I1 q1) λu s2 ⟨y,H2,I2,r2,q2⟩=>
  thn (ho aa s2 U H2 x y v u _ I2 r1 r2 q2) λd s3 ⟨z,H3,I3,r3,k,e,q3⟩=>?_)) hm
 subst e
 cases r3
 refine wpAny_truthy_bool ?_
 cases k with
 |false=>
  obtain⟨k',e',q'⟩:=q3
  cases e'
  exact ite_ff ⟨H3,I3,q'⟩
 |true=>
  refine ite_tt (test_last (thn (hc aa s3 U H3 _ I3 q3) λw' s4 ⟨z',H4,I4,r4,q4⟩=>thn (cI aa s4 U H4 y z' u w' _ I4 r2 r4 q4) λd' s5 r9=>?_))
  obtain⟨z2,H5,I5,r5,k2,e2,q5⟩:=r9
  subst e2
  cases r5
  exact wpAny_truthy_bool ⟨H5,I5,q5⟩
def EH:(sizeLine:Nat)<2^63:=by rw[sizeLine_eq];decide
def VI {x:V}(r:X0 [x] us):∃u,us=[u]/\XW x u:=by
 cases r with
 |cons r1 r2=>cases r2;exact⟨_,rfl,r1⟩
def Wx {x y:V}(r:X0 [x,y] us):∃u w',us=[u,w']/\XW x u/\XW y w':=by
 cases r with
 |cons r1 r2=>
  cases r2 with
  |cons r3 r4=>cases r4;exact⟨_,_,rfl,r1,r3⟩
def Ol:ZM X (.builtin "abs") (λxs H Q=>∃ i,xs=[.int i]/\Q (.int (if i<0 then-i else i)) H):=by
 intro aa s U H xs us Q I r h
 obtain⟨i,rfl,q⟩:=h
 obtain⟨u,rfl,t,rfl⟩:=VI r
 exact call_abs_int λu tk=>⟨.int (if i<0 then-i else i),H,I.tok _,⟨_,rfl⟩,q⟩
def Kt (hc:X.calm=true):ZM X (.builtin "max") (λxs H Q=>∃ i j,xs=[.int i, .int j]/\Q (.int (if j > i then j else i)) H):=by
 intro aa s U H xs us Q I r h
 obtain⟨i,j,rfl,q⟩:=h
 obtain⟨u,w',rfl,⟨t,rfl⟩,⟨t',rfl⟩⟩:=Wx r
 refine max_two_ints (I.ok.hd hc) λh' tk k=>⟨_,H,I.kept k,?_,q⟩
 by_cases hj:j > i
 ·rw[if_pos hj,if_pos hj];exact⟨_,rfl⟩
 ·rw[if_neg hj,if_neg hj];exact⟨_,rfl⟩
def UR (hc:X.calm=true):ZM X (.builtin "min") (λxs H Q=>∃ i j,xs=[.int i, .int j]/\Q (.int (if j<i then j else i)) H):=by
 intro aa s U H xs us Q I r h
 obtain⟨i,j,rfl,q⟩:=h
 obtain⟨u,w',rfl,⟨t,rfl⟩,⟨t',rfl⟩⟩:=Wx r
 refine min_two_ints (I.ok.hd hc) λh' tk k=>⟨_,H,I.kept k,?_,q⟩
 by_cases hj:j<i
 ·rw[if_pos hj,if_pos hj];exact⟨_,rfl⟩
 ·rw[if_neg hj,if_neg hj];exact⟨_,rfl⟩
def Qw:ZM X (.type "int") (λxs H Q=>(∃i,xs=[.int i]/\Q (.int i) H)∨∃k,xs=[.bl k]/\Q (.int (if k then 1 else 0)) H):=by
 intro aa s U H xs us Q I r h
 rcases h with⟨i,rfl,q⟩ | ⟨k,rfl,q⟩
 ·obtain⟨u,rfl,t,rfl⟩:=VI r
  exact call_int_int ⟨.int i,H,I,⟨_,rfl⟩,q⟩
 ·obtain⟨u,rfl,r1⟩:=VI r
  cases r1
  exact call_int_bool ⟨.int (if k then 1 else 0),H,I.tok _,⟨_,rfl⟩,q⟩
end
structure ObjM (h:Heap)(x dx C:Addr)(mA:Str->Option Value):Prop where
 obj:h.get? x=some (W.instObj C dx)
 ns:h.Ns1 dx mA
 ne:dx≠x
def ME {h:Heap}{dx:Addr}{mA:Str->Option Value}(n:h.Ns1 dx mA):∃od,h.get? dx=some od/\∀name,W.lookIn name od=some (mA name):=by
 obtain⟨o,es,ep,ho,hd,hk,_,hm⟩:=n
 refine⟨o,ho,λname=>?_⟩
 have e:=hm name
 unfold nsFind findBy at e
 rw[←Array.find?_toList] at e
 unfold W.lookIn
 rw[hd]
 dsimp only
 split
 ·rename_i y q
  rw[q] at e
  exact congrArg some e
 ·rename_i q
  rw[q] at e
  have a:es.toList.any (·.refKey)=false:=by
   rw[List.any_eq_false]
   intro y hy
   obtain⟨z,t,gK⟩:=hk y (Array.mem_toList_iff.mp hy)
   simp[DictEntry.refKey,gK]
  have a':¬es.toList.any (·.refKey)=true:=by rw[a];exact Bool.false_ne_true
  rw[if_neg a']
  exact congrArg some e
def ObjM.look {x:Addr}(I:ObjM h x dx C mA):∃od,PySem.W.InstAt h x (W.instObj C dx) C (some od)/\∀name,W.lookIn name od=some (mA name):=
 let ⟨od,ho,hl⟩:=ME I.ns
 ⟨od,⟨I.obj,rfl,rfl,ho⟩,hl⟩
section
variable {x dx C f:Addr}{mA:Str->Option Value}{name:Str}{v:Value}
end
def Hx.some_of (r:Hx (some v) o):∃u,o=some u/\XW v u:=by
 cases o with
 |none=>exact(show False from r).elim
 |some u=>exact⟨u,rfl,r⟩
section
variable {h:Heap}{C dx:Addr}{fs fs':List (Str×V)}
def Rf (hok:HOk P w H h)(e:H a=some (.ins C dx fs)):∃mA,ObjM h a dx C mA/\(∀f,Hx (fs.lookup f) (mA f))/\PySem.Within mA (fs.map (·.1))/\fs.length<=1000/\H dx=some (.own a):=by
 obtain⟨d,z,ne,ob,mA,n,r,q⟩:=(show YR P w H h a (.ins C dx fs) from hok a _ e)
 exact⟨mA,⟨ob,n,ne⟩,r,q,z,d⟩
end
structure Cls (K:W.Frag)(C:Addr):Prop where
 pg:W.plainGet K C Str.empty=true
 hd:PySem.W.hasDictIn K C=true
 po:PySem.W.plainOver K C=true
 sa:W.findIn K (.ref C) "__setattr__" =some (some (.builtin "object.__setattr__"))
def Cls.get (c:Cls K C)(f:Str):W.plainGet K C f=true:=c.pg
section
variable {C dx:Addr}{fs:List (Str×V)}{f:Str}{v:V}
end
section
variable {o value:Expr}{f:Str}{cy tpos:Pos}{tv:TE}
end
section
variable {c:Value}{b:Bool}
inductive TyOf (K:W.Frag)(H:Hp):V->Value->Prop where
 |non:TyOf K H .non (.type "NoneType")
 |bl (x:Bool):TyOf K H (.bl x) (.type "bool")
 |int (i:Int):TyOf K H (.int i) (.type "int")
 |str (x:Str):TyOf K H (.str x) (.type "str")
 |flt (x:UInt64):TyOf K H (.flt x) (.type "float")
 |lst {a:Addr}{xs:List V} (e:H a=some (.lst xs)):TyOf K H (.ref a) (.type "list")
 |frz {a:Addr}{o:Obj}{xs:List V} (e:H a=some (.frz o (.lst xs))):TyOf K H (.ref a) (.type "list")
 |tup {a:Addr}{xs:List V} (e:H a=some (.tup xs)):TyOf K H (.ref a) (.type "tuple")
 |dK {a:Addr}{kvs:List (Key×V)} (e:H a=some (.dK kvs)):TyOf K H (.ref a) (.type "dict")
 |dT {a:Addr}{kvs:List (List Key×V)} (e:H a=some (.dT kvs)):TyOf K H (.ref a) (.type "dict")
 |ins {a C dx:Addr}{fs:List (Str×V)} (e:H a=some (.ins C dx fs)) (cl:Cls K C) (ha:W.findIn K (.ref C) "__class__" =some (some (.builtin "object.__class__")))
   (hn:PySem.W.specialIn K (.builtin "object.__class__") "__get__" =some (some (.builtin "getset_descriptor.__get__"))) (htk:PySem.W.takesIn K (.builtin "object.__class__")=some true)
   (hm:PySem.W.mroIn K C (.type "object")=some true):TyOf K H (.ref a) (.ref C)
def LO {x:V}(I:Inv X aa U H s)(rx:XW x u)(ty:TyOf X.K H x t)(e:W.kitOne X.K t c=some b)(h:∀tk,Q (.bool b) {s with toks:=tk}):
  wpAny (model X.prog X.w) A (call (.builtin "isinstance") [u,c]) Q E s:=by
 cases ty with
 |non=>cases(show u=Value.none from rx);exact W.kia_one PySem.W.kitx_none I.kIn True.intro e (λz=>nomatch z) h
 |bl y=>cases(show u=Value.bool y from rx);exact W.kia_one PySem.W.kitx_bool I.kIn True.intro e (λz=>nomatch z) h
 |int i=>obtain⟨t,q⟩:=(show ∃t,u=Value.int i t from rx);cases q;exact W.kia_one PySem.W.kitx_int I.kIn True.intro e (λz=>nomatch z) h
 |str y=>obtain⟨t,q⟩:=(show ∃t,u=Value.str y t from rx);cases q;exact W.kia_one PySem.W.kitx_str I.kIn True.intro e (λz=>nomatch z) h
 |flt y=>obtain⟨t,q⟩:=(show ∃t,u=Value.float y t from rx);cases q;exact W.kia_one PySem.W.kitx_float I.kIn True.intro e (λz=>nomatch z) h
 | @lst a xs ea=>
  cases(show u=Value.ref a from rx)
  obtain⟨_,_,n,_,h1⟩:=(show YR X.prog X.w H s.heap a (.lst xs) from I.hok a _ ea)
  exact W.kia_one PySem.W.kitx_list I.kIn ⟨_,h1,rfl⟩ e (λz=>nomatch z) h
 | @frz a ob xs ea=>
  cases(show u=Value.ref a from rx)
  obtain⟨_,_,_,n,_,h1⟩:=(show YR X.prog X.w H s.heap a (.frz ob (.lst xs)) from I.hok a _ ea)
  exact W.kia_one PySem.W.kitx_list I.kIn ⟨_,h1,rfl⟩ e (λz=>nomatch z) h
 | @tup a xs ea=>
  cases(show u=Value.ref a from rx)
  obtain⟨_,_,_,p⟩:=(show YR X.prog X.w H s.heap a (.tup xs) from I.hok a _ ea)
  obtain⟨o,h1,h2,_⟩:=p
  exact W.kia_one PySem.W.kitx_tuple I.kIn ⟨o,h1,h2.1⟩ e (λz=>nomatch z) h
 | @dK a kvs ea=>
  cases(show u=Value.ref a from rx)
  obtain⟨_,_,vs,_,p⟩:=(show YR X.prog X.w H s.heap a (.dK kvs) from I.hok a _ ea)
  obtain⟨o,es,ep,h1,h2,_⟩:=p
  exact W.kia_one PySem.W.kitx_dict I.kIn ⟨o,h1,h2.1⟩ e (λz=>nomatch z) h
 | @dT a kvs ea=>
  cases(show u=Value.ref a from rx)
  obtain⟨_,_,xs,_,o,es,ep,h1,h2,_⟩:=(show YR X.prog X.w H s.heap a (.dT kvs) from I.hok a _ ea)
  exact W.kia_one PySem.W.kitx_dict I.kIn ⟨o,h1,h2.1⟩ e (λz=>nomatch z) h
 | @ins a C dx fs ea cl ha hn htk hm=>
  cases(show u=Value.ref a from rx)
  obtain⟨mA,O,_⟩:=Rf I.hok ea
  obtain⟨od,J,_⟩:=O.look
  exact W.kia_one (PySem.W.kitx_own (cl.get _) cl.hd ha hn htk hm) I.kIn J e (λz=>nomatch z) h
end
structure Room (k:Nat)(A:Around):Prop where
 hd:A.handled=none
 dp:A.depth+3*k+5<recursionLimit
 un:A.units+16*k+200<cLine
def Room.mono (r:Room k A)(h:j<=k):Room j A:=⟨r.hd,by have:=r.dp;omega,by have:=r.un;omega⟩
def Room.deeper (r:Room (k+1) A)(env:Env):Room k (A.deeper env):=
 ⟨r.hd,by have:=r.dp;show A.depth+1+3*k+5<_;omega,by have:=r.un;show A.units+3+16*k+200<_;omega⟩
def Room.depth (r:Room k A):A.depth<recursionLimit:=by have:=r.dp;omega
def Room.units (r:Room k A):A.units+64<cLine:=by have:=r.un;omega
def Yo:TA:=λ_ H Q=>Q [] H
def Xm (ta:TE)(tr:TA):TA:=λU H Q=>ta U H λx H1=>tr U H1 λxs H2=>Q (x::xs) H2
section
variable {t:TA}
def Xd:PA X [] Yo:=λ_ _ _ _ H Q I h=>Calls.spliced_nil ⟨[],H,I, .nil,h⟩
def Xa (ha:PE X e te)(hr:PA X es t)(hs:starEach (e::es) X.env=(false,eval e X.env)::starEach es X.env:=by rfl):PA X (e::es) (Xm te t):=by
 intro pos aa s U H Q I h
 rw[hs]
 show wpAny _ _ (spliced ((false,eval e X.env)::backTo pos (starEach es X.env))) _ _ s
 refine Calls.spliced_cons (thn (ha aa s U H _ I h) λu s1 r9=>?_)
 obtain⟨x,H1,I1,r1,q1⟩:=r9
 exact thn (hr pos aa s1 U H1 _ I1 q1) λus s2 r9=>by obtain⟨xs,H2,I2,r2,q2⟩:=r9;exact⟨x::xs,H2,I2, .cons r1 r2,q2⟩
def Pa (t:TA):TE:=λU H Q=>t U H λxs H1=>xs.length<=sizeLine/\∀p,H1 p=none->Q (.ref p) (upd H1 p (.tup xs))
def Hd (t:TA):TE:=λU H Q=>t U H λxs H1=>xs.length<=sizeLine/\∀p,H1 p=none->Q (.ref p) (upd H1 p (.lst xs))
def Yn {x1}(h:PA X es t):PE X (.Tuple es x1 pos) (Pa t):=by
 intro aa s U H Q I hq
 refine wpAny_Tuple_spliced (thn (h pos aa s U H _ I hq) λus s1 ⟨xs,H1,I1,r,z,q⟩=>⟨by rw[←r.length];exact z,?_⟩)
 have hf:H1 s1.heap.objs.size=none:=I1.hok.fresh (Nat.le_refl _)
 refine⟨.ref s1.heap.objs.size,upd H1 s1.heap.objs.size (.tup xs),I1.laid (t':=s1.toks) (λb u e=>Heap.get?_push_of_some _ e) (Nat.le_refl _) ?_,rfl,q _ hf⟩
 exact⟨z,us,r,⟨_,Heap.get?_push_size _ rfl,⟨rfl,rfl⟩,_,rfl⟩⟩
def Xt (h:PA X es t):PE X (.List es pos) (Hd t):=by
 intro aa s U H Q I hq
 refine wpAny_List_spliced (thn (h pos aa s U H _ I hq) λus s1 ⟨xs,H1,I1,r,z,q⟩=>⟨by rw[←r.length];exact z,?_⟩)
 have hf:H1 s1.heap.objs.size=none:=I1.hok.fresh (Nat.le_refl _)
 refine⟨.ref s1.heap.objs.size,upd H1 s1.heap.objs.size (.lst xs),I1.laid (t':=s1.toks) (λb u e=>Heap.get?_push_of_some _ e) (Nat.le_refl _) ?_,rfl,q _ hf⟩
 exact⟨z,us,0,r,Heap.get?_push_size _ rfl⟩
end
abbrev Sp:=List V->Hp->VK->XK->Prop
abbrev CXT:=List Env->Hp->Shared->XK->Value->Shared->Prop
structure Env0 (P:Program)(w:World)(K:W.Frag)(mg:Str->Option Value)(base:Heap)(A:Around)(outer:List Env)(s:Shared)(H:Hp):Prop where
 frames:A.frames=some outer
 mod:Mod K mg base
 bs:∀b o,base.get? b=some o->s.heap.get? b=some o/\H b=none
 bsz:base.objs.size<=s.heap.objs.size
 funs:s.heap.FunFrames base outer
 frf:∀b∈frs outer,H b=none
 hok:HOk P w H s.heap
 bare:AllBare s.gens
def CE (outer:List Env)(P:Program)(w:World)(H:Hp)(s:Shared)(Q:VK)(u:Value)(s':Shared):Prop:=
 ∃v H',s'.os=s.os/\AllBare s'.gens/\Un (frs outer) [] H H' s.heap s'.heap/\HOk P w H' s'.heap/\XW v u/\Q v H'
def CR (CX:CXT)(outer:List Env)(P:Program)(w:World)(H:Hp)(s:Shared)(Q:VK)(E:XK)(r:Result)(s':Shared):Prop:=
 match r with
 | .ok (.ret u)=>CE outer P w H s Q u s'
 | .ok _=>False
 | .error e=>CX outer H s E e s'
structure FnOk (P:Program)(w:World)(K:W.Frag)(mg:Str->Option Value)(base:Heap)(CX:CXT)(k:Nat)(f:Addr)(fd:FuncData)(ps:List Str)(sp:Sp):Prop where
 len:∀vs H Q E,sp vs H Q E->vs.length=ps.length
 run:∀(A:Around) (outer:List Env) (s:Shared) (H:Hp) (args:Args) (us:List Value) (vs:List V) (Q:VK) (E:XK),Room k A->Env0 P w K mg base A outer s H->BindsTo s fd args (ps.zip us)->X0 vs us->sp vs H Q E->
  codeAny (model P w) A (.call (.ref f) args) (CR CX outer P w H s Q E) s
section
variable {s':Shared}
def Inv.env0 (I:Inv X aa U H s):Env0 X.prog X.w X.K X.mg X.base X.A X.stack s H:=
 ⟨I.ok.frames,I.ok.mod,I.bs,Nat.le_trans I.ok.bsz I.sz,I.stack,I.stkFree,I.hok,I.bare⟩
def Inv.after {Q:VK}(I:Inv X aa U H s)(h:CE X.stack X.prog X.w H s Q u s'):EP X aa U Q u s':=by
 obtain⟨v,H',os,bare,un,hok,r,q⟩:=h
 obtain⟨hh,g,d,t,os'⟩:=s'
 obtain rfl:os'=s.os:=os
 exact⟨v,H',I.call (h':=hh) (g':=g) (d':=d) (t':=t) (ch:=[]) un hok bare (λb z=>absurd z (by simp)),r,q⟩
end
def Q6 (sp:Sp)(gk:List V)(E:XK)(t:TA):TE:=λU H Q=>t U H λvs H1=>sp (vs++gk) H1 Q E
def Ce (K:W.Frag)(fd:FuncData)(ps:List Str)(ds:List Value):Prop:=
 ∀(s:Shared) (us:List Value),K.In s.heap->(us++ds).length=ps.length->BindsTo s fd ⟨us,[]⟩ (ps.zip (us++ds))
def Ce.all (h:∀us:List Value,us.length=ps.length->bindArgs fd ⟨us,[]⟩=pure (ps.zip us)):Ce K fd ps []:=λs us _ hl=>by
 rw[List.append_nil] at hl⊢
 exact .of_eq (h us hl)
def Ig (CX:CXT)(X:Cx)(E:XK):Prop:=∀ (aa:List (Addr×Obj)) (U:St) (H:Hp) (s:Shared) (e:Value) (s':Shared),Inv X aa U H s->CX X.stack H s E e s'->X.xe e s'
section
variable {CX:CXT}{f C:Addr}{sp:Sp}{gk:List V}{ds:List Value}{E:XK}{m:Str}{p aI:Pos}{o:Expr}{t:TA}
def Tr {Q:VK}(F:FnOk X.prog X.w X.K X.mg X.base CX k f fd ps sp)(hr:Room k X.A)(hb:Ce X.K fd ps ds)(hd:X0 gk ds)(hx:Ig CX X E)
  (I:Inv X aa U H s)(r:X0 vs us)(h:sp (vs++gk) H Q E):wpAny (model X.prog X.w) X.A (call (.ref f) us) (EP X aa U Q) X.xe s:=by
 have r2:X0 (vs++gk) (us++ds):=r.append hd
 have hl:(us++ds).length=ps.length:=by rw[←r2.length];exact F.len _ _ _ _ h
 refine wpAny_call (codeAny_mono (F.run X.A X.stack s H ⟨us,[]⟩ (us++ds) (vs++gk) Q E hr I.env0 (hb s us I.kIn hl) r2 h) λr s' hq=>?_)
 cases r with
 |error e=>exact hx aa U H s e s' I hq
 |ok fl=>
  cases fl with
  |ret u=>exact I.after hq
  |next=>exact False.elim hq
  |brk=>exact False.elim hq
  |cont=>exact False.elim hq
def Sx (F:FnOk X.prog X.w X.K X.mg X.base CX k f fd ps sp)(hr:Room k X.A)(hg:Gl X x)(hm:X.mg x=some (.ref f))(hk:W.keepIn X.K (.ref f)=true)(hb:Ce X.K fd ps ds)(hd:X0 gk ds)(hx:Ig CX X E)
  (ha:PA X (e::es) t)(fG:(x==("__debug__":Str))=false:=by decide)(he:starEach (e::es) X.env=(false,eval e X.env)::starEach es X.env:=by rfl)(hpl:(backTo pos (starEach es X.env)).any (·.1)=false:=by rfl):
  PE X (.Call (.Name x p) (e::es) [] pos) (Q6 sp gk E t):=by
 intro aa s U H Q I h
 refine wpAny_Call_Name_kw (IS I hg hm ?_ fG)
 refine PySem.W.callWith_K (h₀:=X.base) I.ok.mod.kin hk (thn (ha pos aa s U H _ I h) λus s1 ⟨vs,H1,I1,r,q⟩=>⟨I1.kIn,?_⟩) he hpl
 exact Tr F hr hb hd hx I1 r q
end
section
variable {CX:CXT}{f C:Addr}{ks:List Str}{sp:Sp}{E:XK}{m:Str}{p aI kpos:Pos}{o:Expr}{kws:List Keyword}{t tk:TA}{nm:Option Str}
variable {g:List Value->List Value->List Value}{gV:List V->List V->List V}
end
structure FnScope (N P:List Str)(sc:Scope):Prop where
 kind:sc.kind= .function:=by rfl
 co:sc.isCoroutine=false:=by rfl
 gen:sc.isGenerator=false:=by rfl
 nd:N.Nodup:=by decide+kernel
 pre:N.take P.length=P:=by rfl
 par:∀x∈P,sc.names.lookup x=some .local∨sc.names.lookup x=some .cell:=by decide+kernel
 nofree:∀y∈sc.names,y.2≠ .free:=by decide+kernel
def F3 {kindOf:Str->Option NameKind}:∀{binds:List (Str×Value)}{m:Str->Option Value},(∀v,(x,v)∉binds)->bindL kindOf binds m x=m x
 | [],_,_=>rfl
 | (n,v)::r,m,h=>by
  unfold bindL
  rw[F3 λw hw=>h w (List.mem_cons_of_mem _ hw)]
  split
  ·have:x≠n:=by rintro rfl;exact h v List.mem_cons_self
   simp[this]
  ·rfl
def FM {kindOf:Str->Option NameKind}:∀{binds:List (Str×Value)}{m:Str->Option Value},(∀v,(x,v)∉binds)->bindC kindOf binds m x=m x
 | [],_,_=>rfl
 | (n,v)::r,m,h=>by
  unfold bindC
  rw[FM λw hw=>h w (List.mem_cons_of_mem _ hw)]
  split
  ·rfl
  ·have:x≠n:=by rintro rfl;exact h v List.mem_cons_self
   simp[this]
def F4 {kindOf:Str->Option NameKind}{v:Value}:∀{P:List Str}{vs:List Value}{i:Nat}{m:Str->Option Value},P.Nodup->P[i]?=some x->vs[i]?=some v->kindOf x=some .local->
  bindL kindOf (P.zip vs) m x=some v
 | [],_,_,_,_,h,_,_=>by simp at h
 |_::_,[],_,_,_,_,h,_=>by simp at h
 |p::P,w::vs,0,m,nd,h1,h2,hk=>by
  simp at h1 h2;subst h1;subst h2
  show bindL kindOf ((p,w)::P.zip vs) m p=_
  unfold bindL
  rw[F3 λv hv=>(List.nodup_cons.mp nd).1 (List.of_mem_zip hv).1,if_pos hk]
  simp
 |p::P,w::vs,i+1,m,nd,h1,h2,hk=>by
  show bindL kindOf ((p,w)::P.zip vs) m x=_
  unfold bindL
  exact F4 (i:=i) (List.nodup_cons.mp nd).2 (by simpa using h1) (by simpa using h2) hk
def DC {kindOf:Str->Option NameKind}{v:Value}:∀{P:List Str}{vs:List Value}{i:Nat}{m:Str->Option Value},P.Nodup->P[i]?=some x->vs[i]?=some v->kindOf x≠some .local->
  bindC kindOf (P.zip vs) m x=some v
 | [],_,_,_,_,h,_,_=>by simp at h
 |_::_,[],_,_,_,_,h,_=>by simp at h
 |p::P,w::vs,0,m,nd,h1,h2,hk=>by
  simp at h1 h2;subst h1;subst h2
  show bindC kindOf ((p,w)::P.zip vs) m p=_
  unfold bindC
  rw[FM λv hv=>(List.nodup_cons.mp nd).1 (List.of_mem_zip hv).1,if_neg hk]
  simp
 |p::P,w::vs,i+1,m,nd,h1,h2,hk=>by
  show bindC kindOf ((p,w)::P.zip vs) m x=_
  unfold bindC
  exact DC (i:=i) (List.nodup_cons.mp nd).2 (by simpa using h1) (by simpa using h2) hk
def Kp (N:List Str)(vs:List V):St:=vs.map some++List.replicate (N.length-vs.length) none
def Hw (CX:CXT)(P:Program)(w:World)(K:W.Frag)(mg:Str->Option Value)(base:Heap)(N:List Str)(qual:Str)(scope:Scope)(f:Addr)(cd:Value)(A:Around)(outer:List Env)(s:Shared)(H:Hp)(E:XK):Cx where
 prog:=P
 w:=w
 K:=K
 mg:=mg
 base:=base
 A:=A.deeper (envOfC qual scope s.heap.objs.size f cd)
 N:=N
 s₀:=s
 H₀:=H
 env:=envOfC qual scope s.heap.objs.size f cd
 outer:=outer
 stack:=envOfC qual scope s.heap.objs.size f cd::outer
 ex:=[]
 calm:=true
 fn:=λ_=>true
 pn:=[]
 xe:=λe s'=>wpAny (model P w) (A.deeper (envOfC qual scope s.heap.objs.size f cd)) (leaving (envOfC qual scope s.heap.objs.size f cd) e) (λ_ s''=>CX outer H s E e s'') (λe' s''=>CX outer H s E e' s'') s'
def Ed {sc:Scope}(h:sc.names.lookup x=some .cell):∃c,(cellsFrom n sc.names []).lookup x=some c:=by
 have q:=PySem.W.cellsFrom_some sc.names n [] (.inl h)
 exact Option.isSome_iff_exists.mp q
def Mq {CX:CXT}{qual:Str}{f:Addr}{cd:Value}{outer:List Env}{s1:Shared}{E:XK}{vs:List V}
  (S:FnScope N ps scope)(hd:A.handled=none)(e0:Env0 P w K mg base A outer s H)(hl:vs.length=ps.length)(r:X0 vs us)
  (x:InCallC s s.heap.objs.size (bindL (envOfC qual scope s.heap.objs.size f cd).kindOf (ps.zip us) λ_=>none) (cellsFrom (s.heap.objs.size+1) scope.names []) (bindC (envOfC qual scope s.heap.objs.size f cd).kindOf (ps.zip us) λ_=>none) s1):
  Inv (Hw CX P w K mg base N qual scope f cd A outer s H E) [] (Kp N vs) H s1:=by
 have hpl:ps.length<=N.length:=by have:=congrArg List.length S.pre;rw[List.length_take] at this;omega
 obtain⟨h1,tk,rfl,hk⟩:=x.done
 have i0:∀b:Addr,b∉(Hw CX P w K mg base N qual scope f cd A outer s H E).ex:=λb z=>absurd (show b∈([]:List Addr) from z) (by simp)
 refine⟨⟨e0.mod,S.kind,rfl,rfl,Nat.le_refl _,λy z c h1 h2=>?_,λy hy=>?_,λy c _ h=>?_,λ_=>hd,Around.frames_deeper e0.frames, .inr ⟨rfl,rfl⟩,λb z=>absurd z (i0 b),e0.bs,e0.bsz,λb _ _=>i0 b,λb z=>absurd z (i0 b),e0.funs,e0.frf⟩,
  rfl,e0.bare,Un.kept hk,⟨_,x.toInCall.ns,λi y v h1 h2 h3=>?_⟩,λy c h=>⟨_,x.cell y c h⟩,e0.hok.fresh (Nat.le_refl _),λy c h=>?_,λp hp=>absurd (show p∈([]:List (Addr×Obj)) from hp) (by simp),e0.hok.kept hk,?_⟩
 ·exact name_of_addr x.apart (mem_of_lookup h1) (mem_of_lookup h2)
 ·have hy:scope.names.lookup y=some .cell∨scope.names.lookup y=some .free:=hy
  rcases hy with hy |hy
  ·exact Ed hy
  ·exact absurd rfl (S.nofree _ (mem_of_lookup hy))
 ·exact Nat.le_of_lt (x.above y c (mem_of_lookup h))
 ·have hi:i<vs.length:=by
   unfold Kp at h2
   by_cases hi:i<vs.length
   ·exact hi
   ·rw[List.getElem?_append_right (by simpa using hi)] at h2
    rw[List.getElem?_replicate] at h2
    split at h2<;> cases h2
  have ha:vs[i]?=some v:=by
   unfold Kp at h2
   rw[List.getElem?_append_left (by simpa using hi),List.getElem?_map] at h2
   cases e:vs[i]? with
   |none=>rw[e] at h2;cases h2
   |some a=>rw[e] at h2;cases h2;rfl
  obtain⟨u,hu,rv⟩:=r.get ha
  have hp:ps[i]?=some y:=by
   rw[←S.pre,List.getElem?_take_of_lt (by omega)];exact h1
  have ndP:ps.Nodup:=by rw[←S.pre];exact S.nd.sublist (List.take_sublist _ _)
  refine⟨u,rv,?_⟩
  rcases S.par y (List.mem_of_getElem? hp) with k |k
  ·exact .inl ⟨k,F4 ndP hp hu k⟩
  ·obtain⟨c,e⟩:=Ed (n:=s.heap.objs.size+1) k
   refine .inr ⟨.inl k,c,e,?_⟩
   have q:=x.cell y c e
   rw[DC ndP hp hu (by show scope.names.lookup y≠_;rw[k];decide)] at q
   exact q
 ·exact e0.hok.fresh (Nat.le_of_lt (x.above y c (mem_of_lookup h)))
 ·unfold Kp
  show _=N.length
  rw[List.length_append,List.length_map,List.length_replicate]
  omega
def Ap {CX:CXT}{f:Addr}{name qual:Str}{params:Arguments}{body:List Stmt}{dV kV doc pm aj ct oc:Value}{an od:Option Addr}
  {cJ:Array (Option Value)}{sp:Sp}(lk:K.lookup f=some ⟨oc,od, .func (W.fnOf name qual params body scope dV kV doc pm an aj ct),cJ⟩)(eN:W.codeIn K aj qual=true)(S:FnScope N ps scope)
  (len:∀vs H Q E,sp vs H Q E->vs.length=ps.length)
  (cR:∀(A:Around) (outer:List Env) (s:Shared) (H:Hp) (vs:List V) (Q:VK) (E:XK),Room k (A.deeper (envOfC qual scope s.heap.objs.size f aj))->sp vs H Q E->
   ∃t,PSs (Hw CX P w K mg base N qual scope f aj A outer s H E) body t/\t {nx:=λ_ H'=>Q .non H',rt:=Q} (Kp N vs) H):
  FnOk P w K mg base CX (k+1) f (W.fnOf name qual params body scope dV kV doc pm an aj ct) ps sp:=by
 refine⟨len,λA outer s H args us vs Q E hr e0 hb r cS=>?_⟩
 have hl:=len _ _ _ _ cS
 have KX:K.In s.heap:=e0.mod.kin.keeps λb o e=>(e0.bs b o e).1
 have lim:s.heap.NoLimit:=e0.mod.nolimit.keeps λb o e=>(e0.bs b o e).1
 have eO:∀y∈ps.zip us,scope.names.lookup y.1=some .local∨(scope.names.lookup y.1=some .cell/\((cellsFrom (s.heap.objs.size+1) scope.names []).lookup y.1).isSome=true):=λ⟨n,v⟩ hy=>by
  rcases S.par n (List.of_mem_zip hy).1 with q |q
  ·exact .inl q
  ·exact .inr ⟨q,PySem.W.cellsFrom_some _ _ _ (.inl q)⟩
 refine codeAny_call_function hr.depth (KX _ _ lk) rfl S.co S.gen rfl (PySem.W.codeRec_of KX eN) (hb _ _ _ _ ?_)
 refine wpAny_newFunctionEnv_cells S.kind eO λenv he s1 x=>?_
 subst he
 refine⟨lim.keeps x.toInCall.keep,codeAny_func ?_⟩
 obtain⟨t,ht,hq⟩:=cR A outer s H vs Q E (hr.deeper _) cS
 have I:Inv (Hw CX P w K mg base N qual scope f aj A outer s H E) [] (Kp N vs) H s1:=Mq S hr.hd e0 hl r x
 refine wpAny_mono (ht [] s1 (Kp N vs) H _ I hq) (λfl s' hs=>?_) λe s' hs=>hs
 have fin:∀{U':St}{H':Hp}{v:V}{u:Value},Inv (Hw CX P w K mg base N qual scope f aj A outer s H E) [] U' H' s'->XW v u->Q v H'->CE outer P w H s Q u s':=
  fun {U' H' v u} J rv q=>⟨v,H',J.os,J.bare,J.base,J.hok,rv,q⟩
 cases fl with
 |ret u=>
  obtain⟨v,U',H',J,rv,q⟩:=hs
  exact fin J rv q
 |next=>
  obtain⟨U',H',J,q⟩:=hs
  exact fin (v:=V.non) (u:=Value.none) J rfl q
 |brk=>
  obtain⟨_,_,_,q⟩:=hs
  exact False.elim q
 |cont=>
  obtain⟨_,_,_,q⟩:=hs
  exact False.elim q
section
variable {p:Pos}{t:TA}{id T:String}{r:List V->Hp->VK->Prop}
def tCB (r:List V->Hp->VK->Prop)(t:TA):TE:=λU H Q=>t U H λvs H1=>r vs H1 Q
def XG (hc:ZM X (.builtin id) r)(hg:Gl X x)(hm:X.mg x=none)(hv:bootBuiltins x=some (.builtin id))(ha:PA X (e::es) t)(hn:x≠ "__name__":=by decide)(fG:(x==("__debug__":Str))=false:=by decide)
  (he:starEach (e::es) X.env=(false,eval e X.env)::starEach es X.env:=by rfl)(hpl:(backTo pos (starEach es X.env)).any (·.1)=false:=by rfl):PE X (.Call (.Name x p) (e::es) [] pos) (tCB r t):=by
 intro aa s U H Q I h
 refine wpAny_Call_Name_kw (JP I hg hm hv ?_ hn fG)
 exact callWith_builtin1 (thn (ha pos aa s U H _ I h) λus s1 r9=>by obtain⟨vs,H1,I1,r1,q1⟩:=r9;exact hc aa s1 U H1 vs us Q I1 r1 q1) he hpl
def Yj (hc:ZM X (.type T) r)(hg:Gl X x)(hm:X.mg x=none)(hv:bootBuiltins x=some (.type T))(ha:PA X (e::es) t)(hn:x≠ "__name__":=by decide)(fG:(x==("__debug__":Str))=false:=by decide)
  (he:starEach (e::es) X.env=(false,eval e X.env)::starEach es X.env:=by rfl)(hpl:(backTo pos (starEach es X.env)).any (·.1)=false:=by rfl):PE X (.Call (.Name x p) (e::es) [] pos) (tCB r t):=by
 intro aa s U H Q I h
 refine wpAny_Call_Name_kw (JP I hg hm hv ?_ hn fG)
 exact callWith_type1 (thn (ha pos aa s U H _ I h) λus s1 r9=>by obtain⟨vs,H1,I1,r1,q1⟩:=r9;exact hc aa s1 U H1 vs us Q I1 r1 q1) he hpl
end
end L2
namespace HT
open PySem PyProof.Rows
section
open PySem.SeqAt
open PySem.AutoSeq1 (wpAny_loadPart')
open PySem.MeetsSeq PySem.MeetsSeq2 PySem.MeetsSeq3
end
section
def cat_tup (ht:IsTup s.heap t vs.toArray)(hb:IsTup s.heap b ws.toArray)(hv:vs≠ [])
  (h1:ws=[]->Q (.ref t) s)(h2:ws≠ []->Q (.ref s.heap.objs.size) {s with heap:=s.heap.push {cls:=.type "tuple",data:=.seq (vs++ws).toArray}})
  (hsz:vs.length+ws.length<=sizeLine):wpAny (model prog w) A (binaryOp .Add (.ref t) (.ref b)) Q E s:=by
 obtain⟨⟨cls,dd,data,sl⟩,ho,hc,n,hd⟩:=id ht
 obtain⟨⟨cls2,dd2,data2,sl2⟩,eA,eP,n2,fH⟩:=id hb
 simp only at hc hd eP fH
 subst hc hd eP fH
 have e:vs.toArray++ws.toArray=(vs++ws).toArray:=by simp
 by_cases hw:ws=[]
 ·exact concat_meets ⟨_,ho,rfl⟩ ⟨_,eA,rfl⟩ noFill_tuple_add seq_tuple_add PySem.F.slot_tuple_add PySem.F.entry_tuple_add (PySem.F.args_tuple_add_2 _ _)
   (tuple_addW1 t b vs.toArray ws.toArray n n2 dd dd2 sl sl2 (by simpa using hv) (by simp[hw])) ⟨ho,eA,h1 hw⟩
 ·refine concat_meets ⟨_,ho,rfl⟩ ⟨_,eA,rfl⟩ noFill_tuple_add seq_tuple_add PySem.F.slot_tuple_add PySem.F.entry_tuple_add (PySem.F.args_tuple_add_2 _ _)
   (tuple_addW2 t b vs.toArray ws.toArray n n2 dd dd2 sl sl2 (by simpa using hv) (by simpa using hw) (by rw[List.size_toArray,List.size_toArray];exact hsz)) ⟨ho,eA,?_⟩
  rw[e]
  exact h2 hw
def sIx (n d:Nat):Option Int->Nat
 |none=>d
 |some v=>if v<0 then(v+(n:Int)).toNat else min v.toNat n
def sIx_none (n d:Nat):sIx n d none=d:=rfl
def sIx_nat (n d k:Nat):sIx n d (some (k:Int))=min k n:=by
 show(if(k:Int)<0 then((k:Int)+(n:Int)).toNat else min (k:Int).toNat n)=min k n
 rw[if_neg (by omega),Int.toNat_natCast]
def sIx_le (n d:Nat)(hd:d<=n)(o:Option Int):sIx n d o<=n:=by
 cases o with
 |none=>exact hd
 |some v=>
  show(if v<0 then(v+(n:Int)).toNat else min v.toNat n)<=n
  by_cases hv:v<0
  ·rw[if_pos hv];omega
  ·rw[if_neg hv];exact Nat.min_le_right _ _
def Iq (v:Int)(n d:Nat):(if v<0 then max (v+(n:Int)) 0 else min v (n:Int))=((sIx n d (some v):Nat):Int):=by
 show(if v<0 then max (v+(n:Int)) 0 else min v (n:Int))=(((if v<0 then(v+(n:Int)).toNat else min v.toNat n):Nat):Int)
 by_cases hv:v<0
 ·simp only[if_pos hv];omega
 ·simp only[if_neg hv];omega
def EX (lo hi:Option Int)(n:Nat):Builtin.Slice.sliceAdjust lo hi 1 (n:Int)=(((sIx n 0 lo:Nat):Int),((sIx n n hi:Nat):Int)):=by
 have h1:¬((1:Int)<0):=by omega
 unfold Builtin.Slice.sliceAdjust
 simp only[h1,if_false]
 refine Prod.ext ?_ ?_
 ·cases lo with
  |none=>rfl
  |some v=>exact Iq v n 0
 ·cases hi with
  |none=>rfl
  |some v=>exact Iq v n n
def Hh (i j:Nat):Builtin.Slice.slicePlaces (i:Int) (j:Int) 1=j-i:=by
 unfold Builtin.Slice.slicePlaces
 have h1:(1:Int) > 0:=by omega
 simp only[h1,if_true,Int.ediv_one]
 split<;> omega
def Gh {Q:Option Int->Shared->Prop}(p:IsPart v o)(h:Q o s):wpAny (model prog w) A (Builtin.Slice.slicePartIndex v) Q E s:=by
 cases p with
 |none=>exact slicePart_none h
 |int i t=>exact slicePart_int h
def Uo {sl:Addr}{vl vu:Value}{lo hi:Option Int}{Q:Int×Int×Nat->Shared->Prop}(hs:s.heap.IsSliceOf sl vl vu .none)(pl:IsPart vl lo)(pu:IsPart vu hi)
  (h:Q (((sIx n 0 lo:Nat):Int),1,sIx n n hi-sIx n 0 lo) s):wpAny (model prog w) A (Builtin.Slice.sliceApplied (.ref sl) (pure (n:Int))) Q E s:=by
 obtain⟨os,eB,fq,gl⟩:=id hs
 unfold Builtin.Slice.sliceApplied Builtin.Slice.sliceFields
 refine wpAny_bind (wpAny_bind (wpAny_field eB gl (x:=vl) rfl (wpAny_bind (wpAny_field eB gl (x:=vu) rfl (wpAny_bind (wpAny_field eB gl (x:=.none) rfl (wpAny_pure ?_)))))))
 refine wpAny_bind (slicePart_none ?_)
 show wpAny _ _ (if((1:Int)==0)=true then _ else _) _ _ s
 rw[if_neg (by decide)]
 refine wpAny_bind (Gh pl (wpAny_bind (Gh pu (wpAny_bind (wpAny_pure ?_)))))
 show wpAny _ _ (match Builtin.Slice.sliceAdjust lo hi 1 (n:Int) with | (lo,hi)=>pure (lo,(1:Int),Builtin.Slice.slicePlaces lo hi 1)) _ _ s
 rw[EX lo hi n]
 show wpAny _ _ (pure (((sIx n 0 lo:Nat):Int),(1:Int),Builtin.Slice.slicePlaces ((sIx n 0 lo:Nat):Int) ((sIx n n hi:Nat):Int) 1)) _ _ s
 rw[Hh]
 exact wpAny_pure h
def Nu (xs:Array Value)(i k:Nat):((List.range k).filterMap λ(m:Nat)=>xs[((i:Int)+(m:Int)*1).toNat]?).toArray=((xs.toList.drop i).take k).toArray:=by
 have e:(λ(m:Nat)=>xs[((i:Int)+(m:Int)*1).toNat]?)=λm=>xs[i+m]?:=by
  funext m
  have:((i:Int)+(m:Int)*1).toNat=i+m:=by omega
  rw[this]
 rw[e]
 have:=pick_run xs i k
 rw[List.filterMap_map] at this
 have e2:((λx=>xs[x]?)∘λx=>i+x)=λm=>xs[i+m]?:=rfl
 rw[e2] at this
 rw[this]
def getItem_tuple_cut {t sl:Addr}{items:Array Value}{vl vu:Value}{lo hi:Option Int}(ht:IsTup s.heap t items)(hs:s.heap.IsSliceOf sl vl vu .none)(pl:IsPart vl lo)(pu:IsPart vu hi)
  (hw:¬(sIx items.size 0 lo=0/\sIx items.size items.size hi=items.size))
  (h:Q (.ref s.heap.objs.size) {s with heap:=s.heap.push {cls:=.type "tuple",data:=.seq ((items.toList.drop (sIx items.size 0 lo)).take (sIx items.size items.size hi-sIx items.size 0 lo)).toArray}})
  (hsz:items.size<=sizeLine):wpAny (model prog w) A (getItem (.ref t) (.ref sl)) Q E s:=by
 have dG:sizeOk (.seq ((items.toList.drop (sIx items.size 0 lo)).take (sIx items.size items.size hi-sIx items.size 0 lo)).toArray):=by
  show((items.toList.drop (sIx items.size 0 lo)).take (sIx items.size items.size hi-sIx items.size 0 lo)).toArray.size<=sizeLine
  rw[List.size_toArray,List.length_take,List.length_drop,Array.length_toList]
  omega
 have hj:sIx items.size items.size hi<=items.size:=sIx_le _ _ (Nat.le_refl _) hi
 obtain⟨os,eB,fq,gl⟩:=id hs
 have hTs:s.TypeIs (.ref sl) "slice":=⟨os,eB,fq⟩
 unfold getItem
 try with_reducible refine wpAny_holding ?_
 first |refine wpAny_bind (wpAny_pure ?_) |skip
 refine wpAny_bind (wpAny_sequenceKey ht.typeIs (by decide) ?_)
 refine wpAny_bind (wpAny_callSpecial?_slot (name:=Str.ofString "__getitem__") ht.typeIs PyProof.Rows.slot_tuple_getitem
  (wpAny_call_entry PyProof.Rows.slot_tuple_getitem ht.typeIs entry_tuple_getitem ?_ (args_tuple_getitem _ _)))
 show wpAny _ _ (Builtin.Tuple.tupleItemsOf (.ref t) >>= _) _ _ s
 refine wpAny_bind (tupleItemsOf_ ht ?_)
 refine wpAny_bind (wpAny_typeOf hTs ?_)
 rw[if_pos (by decide)]
 refine wpAny_bind (Uo hs pl pu ?_)
 have hno:¬((((sIx items.size 0 lo:Nat):Int)==0&&(1:Int)==1&&(sIx items.size items.size hi-sIx items.size 0 lo)==items.size)=true):=by
  intro q
  rw[Bool.and_eq_true,Bool.and_eq_true] at q
  have q1:((sIx items.size 0 lo:Nat):Int)=0:=eq_of_beq q.1.1
  have q2:sIx items.size items.size hi-sIx items.size 0 lo=items.size:=eq_of_beq q.2
  exact hw ⟨by omega,by omega⟩
 show wpAny _ _ (if(((sIx items.size 0 lo:Nat):Int)==0&&(1:Int)==1&&(sIx items.size items.size hi-sIx items.size 0 lo)==items.size)=true then _ else _) _ _ s
 rw[if_neg hno,Nu]
 first
  |exact wpAny_bind (m:=Builtin.Tuple.tupleExact _) (wpAny_newObj_type (wpAny_pure ⟨_,rfl,wpAny_pure h⟩) dG)
  |exact wpAny_bind (m:=Builtin.Tuple.tupleExact _) (wpAny_newObj_type (wpAny_bind (wpAny_pure (wpAny_pure ⟨_,rfl,wpAny_pure h⟩))) dG)
  |exact wpAny_bind (wpAny_bind (m:=Builtin.Tuple.tupleExact _) (wpAny_newObj_type (wpAny_pure (wpAny_pure ⟨_,rfl,wpAny_pure h⟩)) dG))
  |exact wpAny_bind (wpAny_bind (m:=Builtin.Tuple.tupleExact _) (wpAny_newObj_type (wpAny_pure ⟨_,rfl,wpAny_pure h⟩) dG))
end
end HT
namespace L2
open PySem PySem.Spec PyProof.Rows
abbrev TO:=St->Hp->(Option Int->Hp->Prop)->Prop
def PO (X:Cx)(e:Option Expr)(t:TO):Prop:=
 ∀(aa:List (Addr×Obj)) (s:Shared) (U:St) (H:Hp) (Q:Option Int->Hp->Prop),Inv X aa U H s->t U H Q->
  wpAny (model X.prog X.w) X.A (evalPart e X.env) (λu s'=>∃ o H',Inv X aa U H' s'/\IsPart u o/\Q o H') X.xe s
def Fv:TO:=λ_ H Q=>Q none H
def Nt (t:TE):TO:=λU H Q=>t U H λx H1=>∃ i,x= .int i/\Q (some i) H1
def EZ:∀{us:List Value},X0 (ns.map V.int) us->IntsAre us ns:=by
 induction ns with
 |nil=>intro us r;rw[List.map_nil] at r;cases r;exact .nil
 |cons n ns ih=>
  intro us r
  rw[List.map_cons] at r
  cases r with
  |cons r1 r2=>
   obtain⟨t,e⟩:=r1
   subst e
   exact .cons n t (ih r2)
section
variable {lo hi:Option Expr}{tl th:TO}{p2:Pos}
def Yd:PO X none Fv:=by
 intro aa s U H Q I h
 rw[evalPart_none]
 exact wpAny_pure ⟨none,H,I, .none,h⟩
def XJ (h:PE X e te):PO X (some e) (Nt te):=by
 intro aa s U H Q I hw
 rw[evalPart_some]
 refine thn (h aa s U H _ I hw) λu s1 r9=>?_
 obtain⟨x,H1,I1,r1,q1⟩:=r9
 obtain⟨i,rfl,q⟩:=q1
 obtain⟨t,rfl⟩:=r1
 exact⟨some i,H1,I1, .int i t,q⟩
def SlR (X:Cx)(r:V->Option Int->Option Int->Hp->VK->Prop):Prop:=
 ∀(aa:List (Addr×Obj)) (s:Shared) (U:St) (H:Hp) (x:V) (v vl vu:Value) (lo hi:Option Int) (sl:Addr) (Q:VK),Inv X aa U H s->XW x v->s.heap.IsSliceOf sl vl vu .none->IsPart vl lo->IsPart vu hi->r x lo hi H Q->
  ∃T id,typeLookup (.type T) "__getitem__" =pure (some (.builtin id))/\s.TypeIs v T/\wpAny (model X.prog X.w) X.A (getItem v (.ref sl)) (EP X aa U Q) X.xe s
def tSl (r:V->Option Int->Option Int->Hp->VK->Prop)(te:TE)(tl th:TO):TE:=λU H Q=>te U H λx H1=>tl U H1 λl H2=>th U H2 λu H3=>r x l u H3 Q
def XI (hr:SlR X r)(he:PE X e te)(hl:PO X lo tl)(hu:PO X hi th):PE X (.Subscript e (.Slice lo hi none p2) pos) (tSl r te tl th):=by
 intro aa s U H Q I h
 refine Subscript_ (thn (he aa s U H _ I h) λv s1 r9=>?_)
 obtain⟨x,H1,I1,r1,q1⟩:=r9
 refine wpAny_Slice (thn (hl aa s1 U H1 _ I1 q1) λvl s2 ⟨l,H2,I2,pl,q2⟩=>thn (hu aa s2 U H2 _ I2 q2) λvu s3 r9=>?_)
 obtain⟨u,H3,I3,pu,q3⟩:=r9
 rw[evalPart_none]
 refine wpAny_pure ?_
 have I4:Inv X aa U H3 {s3 with heap:=s3.heap.push {cls:=.type "slice",data:=.fields #[vl,vu, .none]}}:=I3.kept (t':=s3.toks) λb ob q=>Heap.get?_push_of_some _ q
 obtain⟨T,id,hT,ht,hg⟩:=hr aa {s3 with heap:=s3.heap.push {cls:=.type "slice",data:=.fields #[vl,vu, .none]}} U H3 x v vl vu l u s3.heap.objs.size Q I4 r1 (Heap.IsSliceOf.new ..) pl pu q3
 show wpAny (model X.prog X.w) X.A (subscriptTail e (.Slice lo hi none p2) v (.ref s3.heap.objs.size)) (EP X aa U Q) X.xe {s3 with heap:=s3.heap.push {cls:=.type "slice",data:=.fields #[vl,vu, .none]}}
 exact tail_any (ops:=[.ref s3.heap.objs.size,v]) ht hT hg (by with_unfolding_all rfl)
def O6 (xs:List V)(lo hi:Option Int):List V:=(xs.drop (HT.sIx xs.length 0 lo)).take (HT.sIx xs.length xs.length hi-HT.sIx xs.length 0 lo)
def KL (xs:List V)(lo hi:Option Int):(O6 xs lo hi).length<=xs.length:=by
 unfold O6
 rw[List.length_take,List.length_drop]
 omega
def T1 (K:W.Frag):V->Option Int->Option Int->Hp->VK->Prop:=λx lo hi H Q=>∃ a xs,x= .ref a/\SqT K H a xs/\
 ¬(HT.sIx xs.length 0 lo=0/\HT.sIx xs.length xs.length hi=xs.length)/\∀p,H p=none->Q (.ref p) (upd H p (.tup (O6 xs lo hi)))
def TK:SlR X (T1 X.K):=by
 intro aa s U H x v vl vu lo hi sl Q I rx hs pl pu h
 obtain⟨a,xs,rfl,hx,hw,q⟩:=h
 cases rx
 obtain⟨its,r,ht,hz⟩:=I.tuple hx
 have af:its.toArray.size=xs.length:=by rw[List.size_toArray];exact r.length.symm
 refine⟨"tuple",_,PyProof.Rows.slot_tuple_getitem.lookup,ht.typeIs,?_⟩
 refine HT.getItem_tuple_cut ht hs pl pu (by rw[af];exact hw) ?_ (by rw[af];exact hz)
 rw[af]
 refine⟨.ref s.heap.objs.size,_,I.laid (t':=s.toks) (o:=.tup (O6 xs lo hi)) (λb ob q=>Heap.get?_push_of_some _ q) (Nat.le_refl _) ?_,rfl,q _ (I.hok.fresh (Nat.le_refl _))⟩
 exact⟨Nat.le_trans (KL xs lo hi) hz,_,(r.drop (HT.sIx xs.length 0 lo)).take (HT.sIx xs.length xs.length hi-HT.sIx xs.length 0 lo),VF.new _ _⟩
def Aq (K:W.Frag):R2:=λx y H Q=>∃ a b xs ys,x= .ref a/\y= .ref b/\SqT K H a xs/\SqT K H b ys/\xs≠ []/\xs.length+ys.length<=sizeLine/\
 (ys=[]->Q (.ref a) H)/\(ys≠ []->∀p,H p=none->Q (.ref p) (upd H p (.tup (xs++ys))))
def X0.nil_iff (r:X0 xs us):us=[]↔xs=[]:=by
 cases r with
 |nil=>simp
 |cons _ _=>simp
def Pn:OpR X (binaryOp .Add) (Aq X.K):=by
 intro aa s U H x y v u Q I rx ry h
 obtain⟨a,b,xs,ys,rfl,rfl,ha,hb,hx,hz,q1,q2⟩:=h
 cases rx
 cases ry
 obtain⟨its,r1,p1,_⟩:=I.tuple ha
 obtain⟨aA,r2,p2,_⟩:=I.tuple hb
 refine HT.cat_tup p1 p2 (λz=>hx (r1.nil_iff.mp z)) (λz=>⟨.ref a,H,I,rfl,q1 (r2.nil_iff.mp z)⟩) (λz=>?_) (by rw[←r1.length, ←r2.length];exact hz)
 refine⟨.ref s.heap.objs.size,_,I.laid (t':=s.toks) (o:=.tup (xs++ys)) (λb ob q=>Heap.get?_push_of_some _ q) (Nat.le_refl _) ?_,rfl,q2 (λw=>z (r2.nil_iff.mpr w)) _ (I.hok.fresh (Nat.le_refl _))⟩
 exact⟨by rw[List.length_append];exact hz,_,r1.append r2,VF.new _ _⟩
end
def ixN (n:Nat)(i:Int):Option Nat:=if 0<=i then(if i<n then some i.toNat else none) else if-(n:Int)<=i then some (i+n).toNat else none
def atI (xs:List M)(i:Int):Option M:=(ixN xs.length i).bind λj=>xs[j]?
def HE (h:ixN n i=some j):seqIndex? i n=some j/\j<n/\ -(n:Int)<=i/\i<n:=by
 unfold ixN at h
 by_cases h0:0<=i
 ·rw[if_pos h0] at h
  by_cases h1:i<n
  ·rw[if_pos h1] at h
   have e:i.toNat=j:=Option.some.inj h
   exact⟨by rw[seqIndex_of h0 h1,e],by omega,by omega,h1⟩
  ·rw[if_neg h1] at h;cases h
 ·rw[if_neg h0] at h
  by_cases h1: -(n:Int)<=i
  ·rw[if_pos h1] at h
   have e:(i+n).toNat=j:=Option.some.inj h
   exact⟨by rw[seqIndex_neg (by omega) h1,e],by omega,h1,by omega⟩
  ·rw[if_neg h1] at h;cases h
def Mt {xs:List M}(h:atI xs i=some v):∃j,seqIndex? i xs.length=some j/\xs[j]?=some v/\j<xs.length/\ -(xs.length:Int)<=i/\i<xs.length:=by
 unfold atI at h
 cases e:ixN xs.length i with
 |none=>rw[e] at h;cases h
 |some j=>
  rw[e] at h
  obtain⟨h1,h2,h3,h4⟩:=HE e
  exact⟨j,h1,h,h2,h3,h4⟩
def Mh (b:Expr):Prop:=∀ o i,subscripted b false o i=operate [o,i] (getItem o i)
def IxR (X:Cx)(r:R2):Prop:=
 ∀(value slice:Expr) (aa:List (Addr×Obj)) (s:Shared) (U:St) (H:Hp) (x y:V) (v u:Value) (Q:VK),Inv X aa U H s->XW x v->XW y u->r x y H Q->
  subscripted slice false v u=operate [v,u] (getItem v u)->wpAny (model X.prog X.w) X.A (subscriptTail value slice v u) (EP X aa U Q) X.xe s
def MtR (X:Cx)(id:String)(r:V->List V->Hp->VK->Prop):Prop:=
 ∀(aa:List (Addr×Obj)) (s:Shared) (U:St) (H:Hp) (x:V) (xs:List V) (v:Value) (us:List Value) (Q:VK),Inv X aa U H s->XW x v->X0 xs us->r x xs H Q->
  wpAny (model X.prog X.w) X.A (call (.builtin id) (v::us)) (EP X aa U Q) X.xe s
section
variable {a b:Expr}
def R8 (hr:IxR X r)(ha:PE X a ta)(hb:PE X b tb)(hs:Mh b):PE X (.Subscript a b pos) (tOp r ta tb):=by
 intro aa s U H Q I h
 exact Subscript_ (Ao ha hb I h λv u s2 x y H2 I2 rx ry q=>hr a b aa s2 U H2 x y v u Q I2 rx ry q (hs _ _))
def BC (K:W.Frag):R2:=λx y H Q=>∃ p xs i v,x= .ref p/\y= .int i/\SqL K H p xs/\atI xs i=some v/\Q v H
def Uy (K:W.Frag):R2:=λx y H Q=>∃ p xs i v,x= .ref p/\y= .int i/\SqT K H p xs/\atI xs i=some v/\Q v H
def SX:IxR X (BC X.K):=by
 intro value slice aa s U H x y v u Q I rx ry h hs
 obtain⟨p,xs,i,z,rfl,rfl,hq,he,q⟩:=h
 cases rx
 obtain⟨t,rfl⟩:=ry
 obtain⟨its,r,pl,hz⟩:=I.list hq
 obtain⟨j,h1,h2,h3,h4,h5⟩:=Mt he
 obtain⟨w,ew,cz⟩:=r.get h2
 have hl:=r.length
 have hn:=EH
 have fin:EP X aa U Q w s:=⟨z,H,I,cz,q⟩
 by_cases h0:0<=i
 ·have hj:i.toNat=j:=by
   rw[seqIndex_of h0 h5] at h1
   exact Option.some.inj h1
  exact item_listR pl.isList h0 (by omega) (by rw[hj];simpa using ew) fin hs
 ·have hj:(i+(its.toArray.size:Int)).toNat=j:=by
   rw[seqIndex_neg (by omega) h4] at h1
   rw[List.size_toArray, ←hl]
   exact Option.some.inj h1
  exact subscriptTail_builtinR (x:=w) pl.isList.typeIs slot_list_getitem.lookup
   (wpAny_getItem_list_neg (Q:=λr s'=>r=w/\EP X aa U Q r s') pl.isList (by omega) (by rw[List.size_toArray]<;> omega) (by omega) (by rw[hj];simpa using ew) ⟨rfl,fin⟩) hs
def WH:IxR X (Uy X.K):=by
 intro value slice aa s U H x y v u Q I rx ry h hs
 obtain⟨p,xs,i,z,rfl,rfl,hq,he,q⟩:=h
 cases rx
 obtain⟨t,rfl⟩:=ry
 obtain⟨its,r,pl,hz⟩:=I.tuple hq
 obtain⟨j,h1,h2,h3,h4,h5⟩:=Mt he
 obtain⟨w,ew,cz⟩:=r.get h2
 have hl:=r.length
 have hn:=EH
 have fin:EP X aa U Q w s:=⟨z,H,I,cz,q⟩
 exact subscriptTail_builtinR (x:=w) pl.typeIs slot_tuple_getitem.lookup
  (getItem_tuple (j:=j) (Q:=λr s'=>r=w/\EP X aa U Q r s') pl (by omega) (by omega) (by rw[List.size_toArray, ←hl];exact h1) (by simpa using ew) ⟨rfl,fin⟩) hs
def E8 (its:List Value)(n j:Nat)(u:Value):Obj.mapSeq (·.setIfInBounds j u) {cls:=.type "list",data:=.seq its.toArray n}={cls:=.type "list",data:=.seq (its.set j u).toArray n}:=by
 simp[Obj.mapSeq]
def Inv.lst (I:Inv X aa U H s)(h:H p=some (.lst xs)):
  ∃(its:List Value) (n:Nat),X0 xs its/\s.heap.get? p=some {cls:=.type "list",data:=.seq its.toArray n}/\xs.length<=sizeLine:=by
 obtain⟨z,its,n,r,e⟩:=I.hok p _ h
 exact⟨its,n,r,e,z⟩
def Inv.lstUpd (I:Inv X aa U H s)(h:H p=some (.lst xs))
  (ho:s.heap.get? p=some {cls:=.type "list",data:=.seq its.toArray n})(hf:f {cls:=.type "list",data:=.seq its.toArray n}={cls:=.type "list",data:=.seq its'.toArray n'})(r:X0 ys its')(hz:ys.length<=sizeLine)(t:Nat):
  Inv X aa U (upd H p (.lst ys)) {s with heap:=s.heap.update p f,toks:=t}:=by
 have e:(s.heap.update p f).get? p=some {cls:=.type "list",data:=.seq its'.toArray n'}:=by
  rw[Heap.get?_update_self f ho (by rw[hf]<;> rfl),hf]
 refine I.write (x:=p) (e:=p) (by rw[h];trivial) (.inl rfl) (λb u hb q=>(Heap.get?_update_other _ _ (Ne.symm hb)).trans q) ⟨_,e⟩ ?_
 exact⟨hz,its',n',r,e⟩
def Nk:V->V->V->Hp->(Hp->Prop)->Prop:=λo i v H Q=>∃ p xs k j,o= .ref p/\i= .int k/\H p=some (.lst xs)/\ixN xs.length k=some j/\Q (upd H p (.lst (xs.set j v)))
def Z5:A6 X Nk:=by
 intro aa s U H o i v ov iv u Q I ro ri rv h
 obtain⟨p,xs,k,j,rfl,rfl,hp,hj,q⟩:=h
 cases ro
 obtain⟨t,rfl⟩:=ri
 obtain⟨its,n,r,ho,hz⟩:=I.lst hp
 obtain⟨h1,h2,h3,h4⟩:=HE hj
 have hl:=r.length
 have hn:=EH
 have I':Inv X aa U (upd H p (.lst (xs.set j v))) {s with heap:=s.heap.update p (Obj.mapSeq (·.setIfInBounds j u))}:=
  I.lstUpd hp ho (E8 its n j u) (r.set rv j) (by rw[List.length_set];exact hz) s.toks
 by_cases h0:0<=k
 ·have hk:k.toNat=j:=by
   rw[seqIndex_of h0 h4] at h1
   exact Option.some.inj h1
  exact PySem.W.ki_setAt ho h0 (by omega) (by rw[List.size_toArray, ←hl];exact h4) (by rw[hk];exact⟨_,I',q⟩)
 ·have hk:(k+(its.toArray.size:Int)).toNat=j:=by
   rw[seqIndex_neg (by omega) h3] at h1
   rw[List.size_toArray, ←hl]
   exact Option.some.inj h1
  exact PySem.W.ki_setBack ho (by omega) (by rw[List.size_toArray, ←hl];exact h3) (by omega) (by rw[hk];exact⟨_,I',q⟩)
def Uk (lo hi:Option Int)(n:Nat):(sliceBounds lo hi none n).1=((HT.sIx n 0 lo:Nat):Int)/\(sliceBounds lo hi none n).2.1=((HT.sIx n n hi:Nat):Int)/\(sliceBounds lo hi none n).2.2=1:=by
 refine⟨?_,?_,rfl⟩
 ·cases lo with
  |none=>simp[sliceBounds,HT.sIx]
  |some i=>
   simp only[sliceBounds,HT.sIx,Option.getD_none,show(1:Int) > 0 by decide,if_true]
   by_cases h:i<0
   ·simp only[h,if_true]<;> omega
   ·simp only[h,if_false]<;> omega
 ·cases hi with
  |none=>simp[sliceBounds,HT.sIx]
  |some i=>
   simp only[sliceBounds,HT.sIx,Option.getD_none,show(1:Int) > 0 by decide,if_true]
   by_cases h:i<0
   ·simp only[h,if_true]<;> omega
   ·simp only[h,if_false]<;> omega
def Fl (its:List Value)(lo hi:Option Int):slicePick its.toArray lo hi none=((its.drop (HT.sIx its.length 0 lo)).take (HT.sIx its.length its.length hi-HT.sIx its.length 0 lo)).toArray:=by
 obtain⟨h1,h2,h3⟩:=Uk lo hi its.toArray.size
 unfold slicePick
 rw[h1,h2,h3]
 simp only[sliceRange_one,pick_run,List.size_toArray]<;> rfl
def TZ (K:W.Frag):V->Option Int->Option Int->Hp->VK->Prop:=λx lo hi H Q=>∃ a xs,x= .ref a/\SqL K H a xs/\∀p,H p=none->Q (.ref p) (upd H p (.lst (O6 xs lo hi)))
def Rb:SlR X (TZ X.K):=by
 intro aa s U H x v vl vu lo hi sl Q I rx hs pl pu h
 obtain⟨a,xs,rfl,hx,q⟩:=h
 cases rx
 obtain⟨its,r,ht,hz⟩:=I.list hx
 have af:=r.length
 refine⟨"list",_,slot_list_getitem.lookup,ht.isList.typeIs,?_⟩
 refine wpAny_getItem_list_slice ht.isList hs pl pu .none (by simp) ?_ (by rw[List.size_toArray]<;> omega)
 rw[Fl, ←af]
 refine⟨.ref s.heap.objs.size,_,I.laid (t':=s.toks) (o:=.lst (O6 xs lo hi)) (λb ob q=>Heap.get?_push_of_some _ q) (Nat.le_refl _) ?_,rfl,q _ (I.hok.fresh (Nat.le_refl _))⟩
 exact⟨Nat.le_trans (KL xs lo hi) hz,_,0,(r.drop (HT.sIx xs.length 0 lo)).take (HT.sIx xs.length xs.length hi-HT.sIx xs.length 0 lo),Heap.get?_push_size _ rfl⟩
def VD:V->Bool
 | .non=>true
 | .bl _=>true
 | .int _=>true
 | .str _=>true
 |_=>false
def eqV:V->V->Bool
 | .non, .non=>true
 | .bl a, .bl b=>a==b
 | .bl a, .int b=>(if a then 1 else 0)==b
 | .int a, .bl b=>a==(if b then 1 else 0)
 | .int a, .int b=>a==b
 | .str a, .str b=>a==b
 |_,_=>false
def TW {y x:V}(ry:XW y u)(rx:XW x v)(fy:VD y=true)(fx:VD x=true):SeqAt.EqAt A s u v (eqV y x):=by
 cases y with
 |non=>
  cases ry
  cases x with
  |non=>cases rx;exact SeqAt.EqAt.same _
  |bl b=>cases rx;exact SeqAt.EqAt.none_bool b
  |int b=>obtain⟨t,rfl⟩:=rx;exact SeqAt.EqAt.none_int b t
  |str b=>obtain⟨t,rfl⟩:=rx;exact SeqAt.EqAt.none_str b t
  |_=>exact absurd (show false=true from fx) Bool.false_ne_true
 |bl a=>
  cases ry
  cases x with
  |non=>cases rx;exact SeqAt.EqAt.bool_none a
  |bl b=>cases rx;exact SeqAt.EqAt.bool_bool a b
  |int b=>obtain⟨t,rfl⟩:=rx;exact SeqAt.EqAt.bool_int a b t
  |str b=>obtain⟨t,rfl⟩:=rx;exact SeqAt.EqAt.bool_str a b t
  |_=>exact absurd (show false=true from fx) Bool.false_ne_true
 |int a=>
  obtain⟨t',rfl⟩:=ry
  cases x with
  |non=>cases rx;exact SeqAt.EqAt.int_none a t'
  |bl b=>cases rx;exact SeqAt.EqAt.int_bool a t' b
  |int b=>obtain⟨t,rfl⟩:=rx;exact SeqAt.EqAt.int_int a t' b t
  |str b=>obtain⟨t,rfl⟩:=rx;exact SeqAt.EqAt.int_str a t' b t
  |_=>exact absurd (show false=true from fx) Bool.false_ne_true
 |str a=>
  obtain⟨t',rfl⟩:=ry
  cases x with
  |non=>cases rx;exact SeqAt.EqAt.str_none a t'
  |bl b=>cases rx;exact SeqAt.EqAt.str_bool a t' b
  |int b=>obtain⟨t,rfl⟩:=rx;exact SeqAt.EqAt.str_int a t' b t
  |str b=>obtain⟨t,rfl⟩:=rx;exact SeqAt.EqAt.str_str a t' b t
  |_=>exact absurd (show false=true from fx) Bool.false_ne_true
 |_=>exact absurd (show false=true from fy) Bool.false_ne_true
def eqU (x:V)(u:Value):Bool:=match u with
 | .none=>eqV .non x
 | .bool b=>eqV (.bl b) x
 | .int i _=>eqV (.int i) x
 | .str z _=>eqV (.str z) x
 |_=>false
def ER {x y:V}(r:XW y u)(f:VD y=true):eqU x u=eqV y x:=by
 cases y with
 |non=>cases r;rfl
 |bl b=>cases r;rfl
 |int i=>obtain⟨t,rfl⟩:=r;rfl
 |str z=>obtain⟨t,rfl⟩:=r;rfl
 |_=>exact absurd (show false=true from f) Bool.false_ne_true
def KJ {x:V}:∀{xs:List V}{us:List Value},X0 xs us->xs.all VD=true->us.any (eqU x)=xs.any λy=>eqV y x
 |_,_, .nil,_=>rfl
 |y::xs,u::us, .cons r t,f=>by
  rw[List.all_cons,Bool.and_eq_true] at f
  rw[List.any_cons,List.any_cons,ER r f.1,KJ t f.2]
def QQ {x:V}(rx:XW x v)(fx:VD x=true):∀{xs:List V}{us:List Value},X0 xs us->xs.all VD=true->∀u∈us,SeqAt.EqAt A s u v (eqU x u)
 |_,_, .nil,_=>λu hu=>by cases hu
 |y::xs,u::us, .cons r t,f=>λu' hu=>by
  rw[List.all_cons,Bool.and_eq_true] at f
  rcases List.mem_cons.mp hu with rfl |hu
  ·rw[ER r f.1];exact TW r rx f.1 fx
  ·exact QQ rx fx t f.2 u' hu
def inV (x:V)(xs:List V):Bool:=xs.any λy=>eqV y x
def rIn (K:W.Frag)(neg:Bool):R2:=λx y H Q=>∃ p xs,y= .ref p/\(SqL K H p xs∨SqT K H p xs)/\VD x=true/\xs.all VD=true/\Q (.bl (if neg then !inV x xs else inV x xs)) H
def Kc:OpR X (compareOp .In) (rIn X.K false):=by
 intro aa s U H x y v u Q I rx ry h
 obtain⟨p,xs,rfl,hq,fx,fs,q⟩:=h
 cases ry
 rcases hq with hq |hq
 ·obtain⟨its,r,pl,hz⟩:=I.list hq
  refine SeqAt.in_listAt (eqU x) pl.isList (λw hw=>QQ rx fx r fs w (by simpa using hw)) ⟨.bl _,H,I,rfl,?_⟩
  rw[show its.toArray.any (eqU x)=its.any (eqU x) by simp,KJ r fs]
  exact q
 ·obtain⟨its,r,pl,hz⟩:=I.tuple hq
  refine SeqAt.in_tupleAt (eqU x) pl (λw hw=>QQ rx fx r fs w (by simpa using hw)) ⟨.bl _,H,I,rfl,?_⟩
  rw[show its.toArray.any (eqU x)=its.any (eqU x) by simp,KJ r fs]
  exact q
def Ue:OpR X (compareOp .NotIn) (rIn X.K true):=by
 intro aa s U H x y v u Q I rx ry h
 obtain⟨p,xs,rfl,hq,fx,fs,q⟩:=h
 cases ry
 rcases hq with hq |hq
 ·obtain⟨its,r,pl,hz⟩:=I.list hq
  refine SeqAt.notIn_listAt (eqU x) pl.isList (λw hw=>QQ rx fx r fs w (by simpa using hw)) ⟨.bl _,H,I,rfl,?_⟩
  rw[show its.toArray.any (eqU x)=its.any (eqU x) by simp,KJ r fs]
  exact q
 ·obtain⟨its,r,pl,hz⟩:=I.tuple hq
  refine SeqAt.notIn_tupleAt (eqU x) pl (λw hw=>QQ rx fx r fs w (by simpa using hw)) ⟨.bl _,H,I,rfl,?_⟩
  rw[show its.toArray.any (eqU x)=its.any (eqU x) by simp,KJ r fs]
  exact q
def FW:ZM X (.builtin "len") (λxs H Q=>∃ p ys,xs=[.ref p]/\(SqL X.K H p ys∨SqT X.K H p ys)/\Q (.int ys.length) H):=by
 intro aa s U H xs us Q I r h
 obtain⟨p,ys,rfl,hq,q⟩:=h
 obtain⟨u,rfl,rx⟩:=VI r
 cases rx
 have hn:=EH
 rcases hq with hq |hq
 ·obtain⟨its,r',pl,hz⟩:=I.list hq
  have af:=r'.length
  exact Calls.call_len_list pl.isList (by simp only[List.size_toArray]<;> omega) ⟨.int ys.length,H,I.tok _,⟨s.toks+1,by rw[List.size_toArray,af]⟩,q⟩
 ·obtain⟨its,r',pl,hz⟩:=I.tuple hq
  have af:=r'.length
  exact len_tuple pl (by simp only[List.size_toArray]<;> omega) ⟨.int ys.length,H,I.tok _,⟨s.toks+1,by rw[List.size_toArray,af]⟩,q⟩
def DH:ZM X (.type "list") (λxs H Q=>∃ p ys,xs=[.ref p]/\(SqL X.K H p ys∨SqT X.K H p ys)/\∀l,H l=none->Q (.ref l) (upd H l (.lst ys))):=by
 intro aa s U H xs us Q I r h
 obtain⟨p,ys,rfl,hq,q⟩:=h
 obtain⟨u,rfl,rx⟩:=VI r
 cases rx
 have fin:∀(its:List Value),X0 ys its->ys.length<=sizeLine->∀(h':Heap) (c':Nat),(∀b o',s.heap.get? b=some o'->h'.get? b=some o')->
   h'.get? s.heap.objs.size=some {cls:=.type "list",dict:=none,data:=.seq its.toArray c',slots:=#[]}->EP X aa U Q (.ref s.heap.objs.size) {s with heap:=h'}:=λits r' hz h' c' kp e=>
  ⟨.ref s.heap.objs.size,_,I.laid (t':=s.toks) kp (Nat.le_refl _) (show YR X.prog X.w _ h' _ (.lst ys) from⟨hz,its,c',r',e⟩),rfl,q _ (I.hok.fresh (Nat.le_refl _))⟩
 rcases hq with hq |hq
 ·obtain⟨its,r',pl,hz⟩:=I.list hq
  have af:=r'.length
  obtain⟨o,ho,hc,n,hd⟩:=pl.isList
  exact call_list_seq p (.inl rfl) ho hc hd (λh' c' kp e=>fin its r' hz h' c' kp e) (by simp only[List.size_toArray]<;> omega)
 ·obtain⟨its,r',pl,hz⟩:=I.tuple hq
  have af:=r'.length
  obtain⟨o,ho,hc,n,hd⟩:=pl
  exact call_list_seq p (.inr rfl) ho hc hd (λh' c' kp e=>fin its r' hz h' c' kp e) (by simp only[List.size_toArray]<;> omega)
def Gr:ZM X (.type "tuple") (λxs H Q=>∃ p ys,xs=[.ref p]/\((SqL X.K H p ys/\∀l,H l=none->Q (.ref l) (upd H l (.tup ys)))∨(SqT X.K H p ys/\Q (.ref p) H))):=by
 intro aa s U H xs us Q I r h
 obtain⟨p,ys,rfl,h⟩:=h
 obtain⟨u,rfl,rx⟩:=VI r
 cases rx
 rcases h with⟨hq,q⟩ | ⟨hq,q⟩
 ·obtain⟨its,r',pl,hz⟩:=I.list hq
  have af:=r'.length
  refine call_tuple_list pl.isList (λh' kp=>?_) (by simp only[List.size_toArray]<;> omega)
  have I1:Inv X aa U H {s with heap:=h'}:=I.kept (t':=s.toks) kp
  have I2:Inv X aa U (upd H h'.objs.size (.tup ys)) {s with heap:=h'.push {cls:=.type "tuple",data:=.seq its.toArray}}:=
   I1.laid (t':=s.toks) (λb o e=>Heap.get?_push_of_some _ e) (Nat.le_refl _) (show YR X.prog X.w _ _ _ (.tup ys) from⟨hz,its,r',VF.new _ _⟩)
  exact⟨.ref h'.objs.size,_,I2,rfl,q _ (I1.hok.fresh (Nat.le_refl _))⟩
 ·obtain⟨its,r',pl,hz⟩:=I.tuple hq
  exact call_tuple_same pl ⟨.ref p,H,I,rfl,q⟩
def tyV (K:W.Frag)(T:String)(x:V)(H:Hp):Prop:=match x with
 | .str _=>T= "str"
 | .int _=>T= "int"
 | .ref p=>(T= "list" /\∃xs,SqL K H p xs)∨(T= "tuple" /\∃o,K.lookup p=some o/\o.cls= .type "tuple" /\o.dict=none)∨
   (T= "dict" /\((∃kvs,H p=some (.dK kvs))∨∃kvs,H p=some (.dT kvs)))∨(T= "set" /\∃S n,H p=some (.set S n))
 |_=>False
def WA {x:V}(I:Inv X aa U H s)(r:XW x v)(ty:tyV X.K T x H):
  s.TypeIs v T/\∀a,v= .ref a->∃ob,s.heap.get? a=some ob/\ob.dict=none:=by
 cases x with
 |str z=>
  obtain⟨t,rfl⟩:=r
  cases(show T= "str" from ty)
  exact⟨typeIs_str s z t,λ_ e=>nomatch e⟩
 |int i=>
  obtain⟨t,rfl⟩:=r
  cases(show T= "int" from ty)
  exact⟨typeIs_int s i t,λ_ e=>nomatch e⟩
 |ref p=>
  cases r
  rcases ty with⟨rfl,xs,hq⟩ | ⟨rfl,o,hk,hc,hd⟩ | ⟨rfl,hk⟩ | ⟨rfl,S,n,hk⟩
  ·obtain⟨its,_,pl,_⟩:=I.list hq
   refine⟨pl.isList.typeIs,λa e=>?_⟩
   cases e
   obtain⟨o,n,e,c,hd,_⟩:=pl
   exact⟨o,e,hd⟩
  ·refine⟨⟨o,I.kIn p o hk,hc⟩,λa e=>?_⟩
   cases e
   exact⟨o,I.kIn _ o hk,hd⟩
  ·have z:∃o,s.heap.get? p=some o/\o.ExactDict:=by
    rcases hk with⟨kvs,hk⟩ | ⟨kvs,hk⟩
    ·obtain⟨_,_,_,_,o,_,_,e,ex,_⟩:=I.hok p _ hk
     exact⟨o,e,ex⟩
    ·obtain⟨_,_,_,_,o,_,_,e,ex,_⟩:=I.hok p _ hk
     exact⟨o,e,ex⟩
   obtain⟨o,e,ex⟩:=z
   refine⟨⟨o,e,ex.1⟩,λa e2=>?_⟩
   cases e2
   exact⟨o,e,ex.2.1⟩
  ·obtain⟨o,_,_,_,e,ex,_⟩:=I.hok p _ hk
   refine⟨⟨o,e,ex.1⟩,λa e2=>?_⟩
   cases e2
   exact⟨o,e,ex.2.1⟩
 |_=>exact False.elim ty
def tBM (K:W.Frag)(T:String)(r:V->List V->Hp->VK->Prop)(to:TE)(t:TA):TE:=λU H Q=>to U H λx H1=>tyV K T x H1/\t U H1 λxs H2=>r x xs H2 Q
variable {o:Expr}{to:TE}{t:TA}{name:Str}{aI ao:Pos}{T id:String}{r:V->List V->Hp->VK->Prop}
def Ze (pa:PlainAttrs T)(slot:Slot T name id)(i6:typeOf (.builtin id)=pure (.type "method_descriptor"))(hm:MtR X id r)(ho:PE X o to)(ha:PA X (e::es) t)
  (bU:attributeBase o name X.env (eval o X.env)=eval o X.env:=by rfl)
  (eQ:((backTo ao (starEach (e::es) X.env)).all (λx=>!x.1)&&(backToKw ao (keywordEach [] X.env)).all (λx=>x.1.isSome)
   &&decide ((e::es).length+([]:List Keyword).length+(if([]:List Keyword).isEmpty then 0 else 1)<30))=true:=by rfl)
  (bV:(aI.endLine==ao.line)=true:=by rfl)(hs:starEach (e::es) X.env=(false,eval e X.env)::starEach es X.env:=by rfl)(bW:(backTo ao (starEach es X.env)).any (·.1)=false:=by rfl):
  PE X (.Call (.Attribute o name aI) (e::es) [] ao) (tBM X.K T r to t):=by
 intro aa s U H Q I h
 refine wpAny_Call_method_late bU eQ bV rfl (thn (ho aa s U H _ I h) λv s1 r9=>?_)
 obtain⟨x,H1,I1,r1,ty,q1⟩:=r9
 obtain⟨h1,h2⟩:=WA I1 r1 ty
 refine⟨T,id,pa,slot,i6,h1,h2,?_⟩
 have hA:=ha ao aa s1 U H1 _ I1 q1
 rw[hs] at hA⊢
 refine Calls.callWith_builtin (by show(false || (backTo ao (starEach es X.env)).any (·.1))=false;rw[bW]<;> rfl) (Calls.evalArgs_plain ?_)
 exact thn hA λus s2 r9=>by obtain⟨vs,H2,I2,r2,q2⟩:=r9;exact hm aa s2 U H2 x vs v us Q I2 r1 r2 q2
/- xs.append(e), list.index on a module's tuple .. are MtR facts of 06m -/
end
def MtM (X:Cx)(id:String)(r:V->List V->Hp->VK->Prop):Prop:=
 ∀(aa:List (Addr×Obj)) (s:Shared) (U:St) (H:Hp) (x:V) (xs:List V) (v:Value) (us:List Value) (Q:VK),Inv X aa U H s->XW x v->X0 xs us->r x xs H Q->
  wpAny (model X.prog X.w) X.A (call (.builtin id) (v::us)) (EP X aa U Q) X.xe s
def X0.one:∀{x:V}{us:List Value},X0 [x] us->∃u,us=[u]/\XW x u:=fun {x us} h=>by
 cases h with
 |cons r t=>
  cases t
  exact⟨_,rfl,r⟩
def X0.two:∀{x y:V}{us:List Value},X0 [x,y] us->∃u v,us=[u,v]/\XW x u/\XW y v:=fun {x y us} h=>by
 cases h with
 |cons r t=>
  cases t with
  |cons q t=>
   cases t
   exact⟨_,_,rfl,r,q⟩
def X0.eraseIdx:∀{xs:List V}{us:List Value} (i:Nat),X0 xs us->X0 (xs.eraseIdx i) (us.eraseIdx i)
 |_,_,_, .nil=>.nil
 |_,_,0, .cons _ t=>t
 |_,_,i+1, .cons r t=>.cons r (X0.eraseIdx i t)
def X0.reverse (h:X0 xs us):X0 xs.reverse us.reverse:=by
 induction h with
 |nil=>exact .nil
 |cons r t ih=>rw[List.reverse_cons,List.reverse_cons];exact X0.append ih (.cons r .nil)
def X0.rep (h:X0 xs us):∀k:Nat,X0 (List.replicate k xs).flatten (List.replicate k us).flatten
 |0=>.nil
 |k+1=>by
  rw[List.replicate_succ,List.replicate_succ,List.flatten_cons,List.flatten_cons]
  exact X0.append h (X0.rep h k)
def Dm:∀(l:List M) (i:Nat),(l.eraseIdx i).length<=l.length
 | [],_=>Nat.le_refl _
 |_::_,0=>Nat.le_succ _
 |_::r,i+1=>Nat.succ_le_succ (Dm r i)
def Dt (its:List Value):∀(k:Nat) (acc:List Value),
  List.foldl (λx1 x2=>x1++x2) acc.toArray (List.replicate k its.toArray)=(acc++(List.replicate k its).flatten).toArray
 |0,acc=>by simp
 |k+1,acc=>by
  have e:acc.toArray++its.toArray=(acc++its).toArray:=by simp
  have e2:(acc++its)++(List.replicate k its).flatten=acc++(List.replicate (k+1) its).flatten:=by
   rw[List.replicate_succ,List.flatten_cons,List.append_assoc]
  rw[←e2, ←Dt its k (acc++its), ←e,List.replicate_succ,List.foldl_cons]
section
variable {l:Addr}{ys zs:List V}
def Inv.lset {t':Nat}(I:Inv X aa U H s)(hH:H l=some (.lst xs))
  (e:s.heap.get? l=some {cls:=.type "list",data:=.seq its.toArray n})(hf:f its.toArray=its'.toArray)(hv:X0 ys its')(hz:ys.length<=sizeLine):
  Inv X aa U (upd H l (.lst ys)) {s with heap:=s.heap.update l (Obj.mapSeq f),toks:=t'}:=by
 have q:=PySem.IsL.update e f
 rw[hf] at q
 refine I.write (x:=l) (e:=l) (by rw[hH];exact trivial) (.inl rfl) (λb' u hb hu=>(Heap.get?_update_other s.heap (Obj.mapSeq f) (Ne.symm hb)).trans hu) ⟨_,q⟩ ?_
 exact⟨hz,its',_,hv,q⟩
def Inv.lnew {t':Nat}(I:Inv X aa U H s)(hv:X0 ys its)(hz:ys.length<=sizeLine):
  Inv X aa U (upd H s.heap.objs.size (.lst ys)) {s with heap:=s.heap.push {cls:=.type "list",data:=.seq its.toArray},toks:=t'}:=
 I.laid (λ_ _ q=>Heap.get?_push_of_some _ q) (Nat.le_refl _) ⟨hz,its,0,hv,Heap.get?_push_size _ rfl⟩
def Inv.fresh (I:Inv X aa U H s):H s.heap.objs.size=none:=I.hok.fresh (Nat.le_refl _)
def Inv.lstM (I:Inv X aa U H s)(hH:H l=some (.lst xs)):xs.length<=sizeLine/\∃(its:List Value) (n:Nat),X0 xs its/\xs.length=its.length/\s.heap.get? l=some {cls:=.type "list",data:=.seq its.toArray n}:=by
 obtain⟨z,its,n,r,e⟩:=I.hok l _ hH
 exact⟨z,its,n,r,r.length,e⟩
def UG (h:n<=sizeLine):Builtin.List.listTooLong n=false:=by
 unfold Builtin.List.listTooLong
 exact decide_eq_false (by omega)
end
section
def Qn:V->List V->Hp->VK->Prop:=λx vs H Q=>∃ l xs y,x= .ref l/\vs=[y]/\H l=some (.lst xs)/\xs.length<sizeLine/\Q .non (upd H l (.lst (xs++[y])))
theorem XE:MtM X "list.append" Qn:=by
 intro aa s U H x vs v us Q I rx rv h
 obtain⟨l,xs,y,rfl,rfl,hH,hz,q⟩:=h
 cases rx
 obtain⟨u,rfl,ru⟩:=rv.one
 obtain⟨z,its,n,r,hl,e⟩:=I.lstM hH
 refine call_meets F.slot_list_append ⟨_,e,rfl⟩ F.entry_list_append (F.args_list_append_2 _ _) (PySem.list_append l its.toArray n u (by rw[List.size_toArray];omega)) ⟨e,?_⟩
 refine⟨.non,_,I.lset (its':=its++[u]) hH e (by simp) (r.append (.cons ru .nil)) ?_,rfl,q⟩
 rw[List.length_append,List.length_singleton]
 omega
def Cz:V->List V->Hp->VK->Prop:=λx vs H Q=>∃ l b xs zs,x= .ref l/\vs=[.ref b]/\H l=some (.lst xs)/\H b=some (.lst zs)/\xs.length+zs.length<=sizeLine/\Q .non (upd H l (.lst (xs++zs)))
theorem DT:MtM X "list.extend" Cz:=by
 intro aa s U H x vs v us Q I rx rv h
 obtain⟨l,b,xs,zs,rfl,rfl,hH,hB,hz,q⟩:=h
 cases rx
 obtain⟨u,rfl,ru⟩:=rv.one
 cases ru
 obtain⟨z,its,n,r,hl,e⟩:=I.lstM hH
 obtain⟨z2,aA,n2,r2,fr,e2⟩:=I.lstM hB
 have hsz:its.toArray.size+aA.toArray.size<=sizeLine:=by rw[List.size_toArray,List.size_toArray];omega
 have eR:¬(!its.toArray.isEmpty&&Builtin.List.listTooLong (its.toArray.size+aA.toArray.size))=true:=by
  rw[UG hsz,Bool.and_false]
  exact Bool.false_ne_true
 refine call_meets F.slot_list_extend ⟨_,e,rfl⟩ F.entry_list_extend (F.args_list_extend_2 _ _)
  (AutoSeq1.list_extend_list_list_0 l its.toArray n b aA.toArray n2 eR (by rw[List.size_toArray];omega) (by omega)) ⟨e,e2,?_⟩
 refine⟨.non,_,I.lset (its':=its++aA) hH e (by simp) (r.append r2) ?_,rfl,q⟩
 rw[List.length_append]
 omega
def Ej:V->List V->Hp->VK->Prop:=λx vs H Q=>∃ l xs i k y,x= .ref l/\vs=[.int i]/\H l=some (.lst xs)/\ -(2^63)<=i/\i<2^63/\seqIndex? i xs.length=some k/\xs[k]?=some y/\Q y (upd H l (.lst (xs.eraseIdx k)))
theorem Nw:MtM X "list.pop" Ej:=by
 intro aa s U H x vs v us Q I rx rv h
 obtain⟨l,xs,i,k,y,rfl,rfl,hH,h1,h2,hk,hy,q⟩:=h
 cases rx
 obtain⟨u,rfl,ru⟩:=rv.one
 obtain⟨t,rfl⟩:=ru
 obtain⟨z,its,n,r,hl,e⟩:=I.lstM hH
 obtain⟨w,hw,cz⟩:=r.get hy
 refine call_meets F.slot_list_pop ⟨_,e,rfl⟩ F.entry_list_pop (F.args_list_pop_2 _ _)
  (MeetsSeq.list_pop_at l its.toArray n i t k w (fitsIndex_both h1 h2) (by rw[List.size_toArray, ←hl];exact hk) (by rw[←Array.getElem?_toList];exact hw) (by rw[List.size_toArray];omega)) ⟨e,?_⟩
 refine⟨y,_,I.lset (its':=its.eraseIdx k) hH e ?_ (r.eraseIdx k) ?_,cz,q⟩
 ·show its.toArray.eraseIdxIfInBounds k=(its.eraseIdx k).toArray
  rw[List.eraseIdxIfInBounds_toArray]
 ·have:=Dm xs k
  omega
def Af:R2:=λx y H Q=>∃ l b xs zs,x= .ref l/\y= .ref b/\H l=some (.lst xs)/\H b=some (.lst zs)/\xs.length+zs.length<=sizeLine/\∀p,H p=none->Q (.ref p) (upd H p (.lst (xs++zs)))
def Qg:OpR X (binaryOp .Add) Af:=by
 intro aa s U H x y v u Q I rx ry h
 obtain⟨l,b,xs,zs,rfl,rfl,hH,hB,hz,q⟩:=h
 cases rx
 cases ry
 obtain⟨z,its,n,r,hl,e⟩:=I.lstM hH
 obtain⟨z2,aA,n2,r2,fr,e2⟩:=I.lstM hB
 refine PySem.P.add_list e e2 ?_ (by rw[List.size_toArray,List.size_toArray];omega)
 have ea:its.toArray++aA.toArray=(its++aA).toArray:=by simp
 rw[ea]
 exact⟨.ref _,_,I.lnew (t':=s.toks) (r.append r2) (by rw[List.length_append];omega),rfl,q _ I.fresh⟩
def AL:R2:=λx y H Q=>∃ l k xs,x= .ref l/\y= .int k/\H l=some (.lst xs)/\ -(2^63)<=k/\k<2^63/\xs.length*k.toNat<=sizeLine/\
 ∀p,H p=none->Q (.ref p) (upd H p (.lst (List.replicate k.toNat xs).flatten))
def RA (xs:List M)(k:Nat):(List.replicate k xs).flatten.length=k*xs.length:=by
 induction k with
 |zero=>simp
 |succ k ih=>rw[List.replicate_succ,List.flatten_cons,List.length_append,ih,Nat.succ_mul,Nat.add_comm]
theorem Dp:OpR X (binaryOp .Mult) AL:=by
 intro aa s U H x y v u Q I rx ry h
 obtain⟨l,k,xs,rfl,rfl,hH,h1,h2,hz,q⟩:=h
 cases rx
 obtain⟨t,rfl⟩:=ry
 obtain⟨z,its,n,r,hl,e⟩:=I.lstM hH
 have af:its.toArray.size*k.toNat<=sizeLine:=by rw[List.size_toArray, ←hl];exact hz
 have hcap:¬its.toArray.size*k.toNat > (2^63-1)/8:=by
  have:(sizeLine:Nat)<=(2^63-1)/8:=by decide
  omega
 have hfit:¬(!Builtin.List.listFitsIndex k)=true:=by
  rw[fitsIndex_both h1 h2]
  exact Bool.false_ne_true
 have eR:¬Builtin.List.listTooLong (its.toArray.size*k.toNat)=true:=by
  rw[UG af]
  exact Bool.false_ne_true
 have eT:List.foldl (λx1 x2=>x1++x2) #[] (List.replicate (if its.toArray.isEmpty=true then 0 else k.toNat) its.toArray)=(List.replicate k.toNat its).flatten.toArray:=by
  have f0:∀m:Nat,List.foldl (λx1 x2=>x1++x2) #[] (List.replicate m its.toArray)=(List.replicate m its).flatten.toArray:=λm=>by
   have:=Dt its m []
   rw[List.nil_append] at this
   exact this
  rw[f0]
  cases its with
  |nil=>simp
  |cons a r'=>rw[if_neg (by simp)]
 refine wpAny_binaryOp_repeat_ref (T:="list") (U:="int") (by decide) ⟨_,e,rfl⟩ (λs'=>typeIs_int s' k t) noFill_list_mul F.fills_int_mul F.slot_int_rmul repeat_list F.slot_int_index.lookup
  (call_meets F.slot_int_rmul (typeIs_int s k t) F.entry_int_rmul (F.args_int_rmul_2 _ _) (int___rmul___int_list k t l its.toArray n)
   ⟨e,rfl,⟨_,e,rfl⟩,call_meets F.slot_list_mul ⟨_,e,rfl⟩ F.entry_list_mul (F.args_list_mul_2 _ _) (AutoListH.list___mul___list_int_3 l its.toArray n k t hfit hcap eR) ⟨e,?_⟩⟩)
 rw[eT]
 exact⟨.ref _,_,I.lnew (t':=s.toks) (r.rep k.toNat) (by rw[RA,Nat.mul_comm];exact hz),rfl,q _ I.fresh⟩
end
section
def HQ (its aA:List Value)(a c:Nat):its.toArray.extract 0 a++aA.toArray++its.toArray.extract c its.toArray.size=(its.take a++aA++its.drop c).toArray:=by
  apply Array.toList_inj.mp
  first
    | (simp
       exact List.take_of_length_le (by simp))
    |simp[List.take_of_length_le]
    |simp
end
section
end
end L2
namespace Att
open PySem PySem.W PySem.Calls PyProof.Rows
theorem U3 {P:Params}:∀(ns:List Int) (vs:List Value),WellAll P h vs (ns.map WData.int)->IntsAre vs ns:=by
 intro ns
 induction ns with
 |nil=>
  intro vs w
  rw[List.map_nil] at w
  cases w
  exact .nil
 |cons n ns ih=>
  intro vs w
  rw[List.map_cons] at w
  cases w with
  |cons a b=>
   cases a
   exact .cons _ _ (ih _ b)
theorem Ln {l:OpenLaw}(hn:l.most=some n){P:Params}{h:Heap}{args:List WData}{gL:List Value}
  (fJ:l.row.toRowW.claim.pre args=true)(hwl:WellAll P h gL args):
  ∃a vs ns,gL=[Value.ref a]/\args=[WData.list (ns.map WData.int)]/\h.get? a=some {cls:=.type "list",data:=.seq vs.toArray}/\IntsAre vs ns/\ns.length<=n:=by
 have hsh:WShape.hasAll [] args [.list .int]=true:=(pre_splitW fJ).1
 have hc:l.pre.holds [] {args:=args}=true:=(pre_splitW fJ).2
 obtain⟨d,r,rfl,h1,h2⟩:=hasAllW_cons hsh
 obtain rfl:=hasAllW_nil h2
 obtain⟨xs,rfl,h3⟩:=hasW_list h1
 obtain⟨ns,rfl⟩:=items_int h3
 have af:ns.length<=n:=by
  unfold OpenLaw.pre at hc
  have h4:(WTm.not (.lt (.lit (.int (n:Int))) (.len (.arg 0)))).holds [] {args:=[.list (ns.map .int)]}=true:=by
   have h4:=(holds_andW hc).1
   rw[hn] at h4
   exact h4
  have h5:=condW_of h4 (w_not (w_lt w_lit (w_len_list (w_arg rfl))))
  rw[List.length_map] at h5
  refine Nat.le_of_not_lt λq=>?_
  have q':(n:Int)<((ns.length:Nat):Int):=by omega
  first
   | (rw[decide_eq_true q'] at h5;exact absurd h5 (by decide))
   | (simp at h5;omega)
 cases hwl with
 |cons w1 w2=>
  cases w2
  cases w1 with
  |list ho aK=>exact⟨_,_,ns,rfl,rfl,ho,U3 ns _ aK,af⟩
theorem Lm (l:OpenLaw)(args:List WData):l.row.toRowW.claim.post args (.bool true) args=true:=
 postW_of (r:=l.row.toRowW) (X:=(true==true))
  (show WShape.has [] (.bool true) .bool=true by first |rfl |decide |simp[WShape.has,WShape.arms,WShape.armsAll])
  (show(WTm.eq .res (.lit (.bool true))).value [] {args:=args,res:=some (.bool true),after:=args}=some (.bool (true==true)) from w_eq_bool (w_res rfl) w_lit) rfl
theorem attach_call {l:OpenLaw}{q:Program}{cp:List Str}{XP:(Str->Option Value)->Heap->Prop}{YP:World->Heap->Prop}{d:DefRec}
  (hn:l.most=some n)(i7:d.params.defaults=[])
  (call:∀(w:World) (s₀ s₁:Shared) (mg mb:Str->Option Value) (fa:Addr) (o:Obj) (pm cd doc:Value) (a:Addr) (vs:List Value) (ns:List Int),
   Ground q cp [] XP w s₀ mg mb s₁.heap->YP w s₁.heap->
   s₁.heap.get? fa=some o->o.data= .func (docDef d.name d.params d.body d.scope pm cd doc)->s₁.heap.CodeRec cd d.name->mg d.name=some (.ref fa)->
   s₁.heap.get? a=some {cls:=.type "list",data:=.seq vs.toArray}->IntsAre vs ns->ns.length<=n->s₁.gens= #[]->
   codeAny (model l.prog w) callerA (.call (.ref fa) ⟨[.ref a],[]⟩) (λr s'=>r= .ok (.ret (.bool true))/\OldK s₁.heap s'.heap/\s'.os=s₁.os/\AllBare s'.gens) s₁):
  WalkO q cp XP YP l.row.toRowW d [] (λf vs=>PySem.call f vs):=by
 intro w s₀ s₁ mg mb G Y fa o pm cd doc dV kV ho hd eN hD hmg hg args gL as fJ hlay hrd hwl hlo
 obtain rfl:dV= .none:=Dflts.none hD i7
 obtain rfl:kV= .none:=Dflts.noKw hD
 obtain⟨a,vs,ns,rfl,rfl,gM,eU,af⟩:=Ln hn fJ hwl
 refine enter_call (codeAny_mono (call w s₀ s₁ mg mb fa o pm cd doc a vs ns G Y ho (fd_plain hd) eN hmg gM eU af hg) λr s' hq=>?_)
 obtain⟨rfl,h2,h3,h4⟩:=hq
 exact⟨.inl ⟨.bool true, .bool true,[],rfl,λ_=>rfl, .bool true,Lm l _,λ_=>⟨List.Pairwise.nil,λ_ hm=>(nomatch hm)⟩⟩,h2,h3,h4⟩
section
variable {K:Frag}
def qk (h:Heap)(Lqz d:Addr):List (Addr×Obj):=(List.range h.objs.size).filterMap λa=>if a=Lqz∨a=d then none else(h.get? a).map λo=>(a,o)
end
end Att
namespace L2
open PySem PySem.Spec PyProof.Rows
def Du:∀{vs:List Value}{ns:List Int},IntsAre vs ns->X0 (ns.map V.int) vs:=λp=>by
 induction p with
 |nil=>exact .nil
 |cons n t _ ih=>exact .cons ⟨t,rfl⟩ ih
def An (H:Hp):Prop:=∀ b,H b=none∨∃o xs,H b=some (.frz o (.lst xs))
def N5
  (KX:K.In s₁.heap)(dH:s₁.heap.Ns mainGlobals mg)(hb:s₁.heap.Ns builtinsNs mb)(hbb:∀x:Str,x≠ "__name__" ->mb x=bootBuiltins x)(hlim:s₁.heap.NoLimit)(hg:s₁.gens= #[])
  (ha:s₁.heap.get? a=some {cls:=.type "list",data:=.seq vs.toArray})(hi:IntsAre vs ns)(hl:ns.length<=sizeLine)(hr:Room k callerA)
  (F:∀base:Heap,K.In base->base.Ns mainGlobals mg->FnOk P w K mg base CX k fa fd [x] sp)(i8:∀(s:Shared) (u:Value),BindsTo s fd ⟨[u],[]⟩ [(x,u)])
  (cS:∀H:Hp,An H->SqL K H a (ns.map V.int)->sp [.ref a] H (λv _=>v= .bl true) λ_ _ _=>False)
  (hCX:∀H e s',CX [] H s₁ (λ_ _ _=>False) e s'->False):
  codeAny (model P w) callerA (.call (.ref fa) ⟨[.ref a],[]⟩) (λr s'=>r= .ok (.ret (.bool true))/\OldK s₁.heap s'.heap/\s'.os=s₁.os/\AllBare s'.gens) s₁:=by
 have rv:=Du hi
 have lenV:=hi.length
 -- from an abstract heap in which nothing but dB script may be cw
 have i9:∀H:Hp,An H->SqL K H a (ns.map V.int)->HOk P w H s₁.heap->(∀b,H b≠none->b=a)->(H a≠none->K.lookup a=none)->
   codeAny (model P w) callerA (.call (.ref fa) ⟨[.ref a],[]⟩) (λr s'=>r= .ok (.ret (.bool true))/\OldK s₁.heap s'.heap/\s'.os=s₁.os/\AllBare s'.gens) s₁:=by
  intro H hO hS hok hA hK
  have dI:∀{b:Addr}{o:Obj},s₁.heap.get? b=some o->H b=none->(Nv s₁.heap H).get? b=some o:=λe n=>Nd e n
  have i0:∀{b:Addr}{o:Obj}{es:Array DictEntry}{ep:Nat},s₁.heap.get? b=some o->o.data= .dict es ep->H b=none:=fun {b o es ep} e d=>by
   cases q:H b with
   |none=>rfl
   |some u=>
    have e':b=a:=hA b (by rw[q];simp)
    subst e'
    rw[ha] at e;cases e
    have d':Data.seq vs.toArray _=Data.dict es ep:=d
    cases d'
  have nsK:∀{b:Addr}{m:Str->Option Value},s₁.heap.Ns b m->(Nv s₁.heap H).Ns b m:=fun {b m} ⟨o,es,ep,e,d,r⟩=>⟨o,es,ep,dI e (i0 e d),d,r⟩
  have hKb:K.In (Nv s₁.heap H):=λb o e=>dI (KX b o e) (by
   cases q:H b with
   |none=>rfl
   |some u=>
    have e':b=a:=hA b (by rw[q];simp)
    subst e'
    rw[hK (by rw[q];simp)] at e;cases e)
  have hM:Mod K mg (Nv s₁.heap H):=⟨hKb,nsK dH,⟨mb,nsK hb,hbb⟩,let ⟨mc,h1,h2⟩:=hlim;⟨mc,nsK h1,h2⟩⟩
  have e0:Env0 P w K mg (Nv s₁.heap H) callerA [] s₁ H:=⟨rfl,hM,λb o e=>Rc e,Nat.le_of_eq (IW _ _),trivial,λb hb=>absurd (show b∈([]:List Addr) from hb) (by simp),hok, .of_eq hg⟩
  refine codeAny_mono ((F _ hKb (nsK dH)).run callerA [] s₁ H ⟨[.ref a],[]⟩ [.ref a] [.ref a] _ _ hr e0 (i8 s₁ (.ref a)) (.cons rfl .nil) (cS H hO hS)) λr s' h=>?_
  cases r with
  |error e=>exact(hCX H e s' h).elim
  |ok fl=>
   cases fl with
   |next=>exact False.elim h
   |brk=>exact False.elim h
   |cont=>exact False.elim h
   |ret u=>
    obtain⟨v,H',os,bare,un,hok',r',q⟩:=h
    have q':v= .bl true:=q
    subst q'
    obtain rfl:u=Value.bool true:=r'
    refine⟨rfl,OldK.of_keep λb o e=>?_,os,bare⟩
    cases q:H b with
    |none=>exact un.keep b o e q (by intro z;exact absurd (show b∈([]:List Addr) from z) (by simp)) (by simp)
    |some u=>
     rcases hO b with z | ⟨ob,xs,z⟩
     ·rw[q] at z;cases z
     ·have z2:=un.frzs b ob _ z
      obtain⟨e1,_⟩:=hok b _ z
      obtain⟨e2,_⟩:=hok' b _ z2
      rw[e] at e1;cases e1
      exact e2
 cases hk:K.lookup a with
 |some o=>
  -- dB script is one of dB module's own objects
  have e:=KX a o hk
  rw[ha] at e
  cases e
  refine i9 (λ_=>none) (λ_=>.inl rfl) (.inr ⟨_,vs.toArray,_,hk,rfl,rfl,rfl,by rw[List.size_toArray,lenV];exact hl,by simpa using rv⟩) (λb u z=>by have z':(none:Option HO)=some u:=z;cases z') (λb z=>absurd rfl z) λz=>absurd rfl z
 |none=>
  refine i9 (λb=>if b=a then some (.frz {cls:=.type "list",data:=.seq vs.toArray} (.lst (ns.map V.int))) else none) (λb=>?_) (.inl (.inr ⟨{cls:=.type "list",data:=.seq vs.toArray},if_pos rfl⟩)) (λb u z=>?_) (λb z=>?_) λ_=>hk
  ·by_cases hb:b=a
   ·exact .inr ⟨_,_,if_pos hb⟩
   ·exact .inl (if_neg hb)
  ·by_cases hb:b=a
   ·have z':=(if_pos hb).symm.trans z
    cases z'
    subst hb
    exact⟨ha,by rw[List.length_map];exact hl,vs,_,rv,ha⟩
   ·have z':=(if_neg hb).symm.trans z
    cases z'
  ·by_cases hb:b=a
   ·exact hb
   ·exact absurd (if_neg hb) z
def RV {l:PySem.W.OpenLaw}{q:Program}{cp:List Str}{XP:(Str->Option Value)->Heap->Prop}{YP:World->Heap->Prop}{d:DefRec}{K:Params->W.Frag}{CX:World->CXT}{sp:World->Sp}
  (hn:l.most=some n)(hn2:n<=sizeLine)(i7:d.params.defaults=[])(hr:Room k callerA)
  (hY:∀(w:World) (h:Heap),YP w h->(K w.params).In h)
  (F:∀(w:World) (mg:Str->Option Value) (fa:Addr) (h:Heap),(K w.params).In h->h.Ns mainGlobals mg->mg d.name=some (.ref fa)->
   ∃fd:FuncData,(∀(s:Shared) (u:Value),BindsTo s fd ⟨[u],[]⟩ [(x,u)])/\
    ∀base:Heap,(K w.params).In base->base.Ns mainGlobals mg->FnOk l.prog w (K w.params) mg base (CX w) k fa fd [x] (sp w))
  (cS:∀(w:World) (H:Hp) (a:Addr) (ns:List Int),ns.length<=n->An H->SqL (K w.params) H a (ns.map V.int)->sp w [.ref a] H (λv _=>v= .bl true) λ_ _ _=>False)
  (hCX:∀(w:World) (H:Hp) (s:Shared) (e:Value) (s':Shared),CX w [] H s (λ_ _ _=>False) e s'->False):
  PySem.W.WalkO q cp XP YP l.row.toRowW d [] (λf vs=>PySem.call f vs):=by
 refine Att.attach_call hn i7 λw s₀ s₁ mg mb fa o pm cd doc a vs ns G Y ho hd eN hmg gM eU af hg=>?_
 have KX:=hY w _ Y
 obtain⟨fd,hb,hF⟩:=F w mg fa _ KX G.T.g hmg
 exact N5 KX G.T.g G.T.b G.T.builtins G.T.nolimit hg gM eU (Nat.le_trans af hn2) hr hF hb (λH hO hS=>cS w H a ns af hO hS) λH e s'=>hCX w H s₁ e s'
def YS (s:Stmt):Arguments:=match s with
 | .FunctionDef _ a _ _ _ _ _ _ _ _=>a
 |_=>{posonlyargs:=[],args:=[],vararg:=none,kwonlyargs:=[],kw_defaults:=[],kwarg:=none,defaults:=[]}
def X7 (s:Stmt):List Stmt:=match s with
 | .FunctionDef _ _ b _ _ _ _ _ _ _=>b
 |_=>[]
def Xg (s:Stmt):Scope:=match s with
 | .FunctionDef _ _ _ _ _ _ sc _ _ _=>sc
 |_=>{kind:=.function,names:=[],isGenerator:=false,isCoroutine:=false}
abbrev CX0:CXT:=λ_ _ _ _ _ _=>False
abbrev E0:XK:=λ_ _ _=>False
def Av:Ig CX0 X E0:=λ_ _ _ _ _ _ _ h=>h.elim
structure Fun (K:W.Frag)(x qual:Str)(st:Stmt)(f:Addr)(fd:FuncData):Prop where
 ex:∃(oc:Value) (od:Option Addr) (kV doc pm:Value) (an:Option Addr) (aj ct:Value) (cJ:Array (Option Value)),
  fd=W.fnOf x qual (YS st) (X7 st) (Xg st) .none kV doc pm an aj ct/\K.lookup f=some ⟨oc,od, .func fd,cJ⟩/\W.codeIn K aj qual=true
 kp:W.keepIn K (.ref f)=true
section
def Fun.ok {qual:Str}{st:Stmt}{f:Addr}{sp:Sp}(F:Fun K x qual st f fd)(S:FnScope N ps (Xg st))(len:∀vs H Q E,sp vs H Q E->vs.length=ps.length)
  (cR:∀(aj:Value) (A:Around) (outer:List Env) (s:Shared) (H:Hp) (vs:List V) (Q:VK) (E:XK),Room k (A.deeper (envOfC qual (Xg st) s.heap.objs.size f aj))->sp vs H Q E->
   ∃t,PSs (Hw CX0 P w K mg base N qual (Xg st) f aj A outer s H E).nox (X7 st) t/\t {nx:=λ_ H'=>Q .non H',rt:=Q} (Kp N vs) H):FnOk P w K mg base CX0 (k+1) f fd ps sp:=by
 obtain⟨oc,od,kV,doc,pm,an,aj,ct,cJ,rfl,lk,eN⟩:=F.ex
 refine Ap lk eN S len λA outer s H vs Q E hr cS=>?_
 obtain⟨t,h,q⟩:=cR aj A outer s H vs Q E hr cS
 exact⟨t,h.nox,q⟩
def Fun.binds {qual:Str}{st:Stmt}{f:Addr}(F:Fun K x qual st f fd)
  (h:∀(kV doc pm:Value) (an:Option Addr) (aj ct:Value) (us:List Value),us.length=ps.length->bindArgs (W.fnOf x qual (YS st) (X7 st) (Xg st) .none kV doc pm an aj ct) ⟨us,[]⟩=pure (ps.zip us)):Ce K fd ps []:=by
 obtain⟨oc,od,kV,doc,pm,an,aj,ct,cJ,rfl,lk,eN⟩:=F.ex
 exact .all (h kV doc pm an aj ct)
def Q7 {qual:Str}{st:Stmt}{f:Addr}{oc:Value}{od an:Option Addr}{cJ:Array (Option Value)}{kV doc pm aj ct:Value}(l:K.lookup f=some ⟨oc,od, .func (W.fnOf x qual (YS st) (X7 st) (Xg st) .none kV doc pm an aj ct),cJ⟩)
  (c:W.codeIn K aj qual=true)(k:W.keepIn K (.ref f)=true):Fun K x qual st f (W.fnOf x qual (YS st) (X7 st) (Xg st) .none kV doc pm an aj ct):=⟨⟨oc,od,kV,doc,pm,an,aj,ct,cJ,rfl,l,c⟩,k⟩
end
def JS (hr:Room k A):A.units+1<cLine:=Nat.lt_of_le_of_lt (Nat.add_le_add_left (by decide:1<=64) _) hr.units
def Ic (h:n<=1000):n<sizeLine:=Nat.lt_of_le_of_lt h (by decide)
section
def pv (i:Nat)(hN:X.N[i]?=some x:=by rfl)(hv:Vis X.env.scope x:=by first |exact Or.inl rfl |exact Or.inr (Or.inl rfl) |exact Or.inr (Or.inr rfl))(hd:(x==("__debug__":Str))=false:=by decide)
  (eN:(x==("__classdict__":Str))=false:=by decide):PE X (.Name x pos) (Q0 i):=Tu hN hv hd eN
end
def Xp (H H':Hp):Prop:=∀ b o,H b=some o->H' b=some o
def Xp.refl (H:Hp):Xp H H:=λ_ _ h=>h
def Xp.trans (a:Xp H H1)(b:Xp H1 H2):Xp H H2:=λc o h=>b c o (a c o h)
def Xp.seq (e:Xp H H')(h:SqL K H a xs):SqL K H' a xs:=by
 rcases h with(h | ⟨o,h⟩) |h
 ·exact .inl (.inl (e _ _ h))
 ·exact .inl (.inr ⟨o,e _ _ h⟩)
 ·exact .inr h
section
variable {κ:Type}[DecidableEq κ]
def DY (kvs:List (κ×V))(k:κ):Option V:=(kvs.find? λkv=>decide (kv.1=k)).map (·.2)
def KQ (kvs:List (κ×V))(k:κ)(v:V):List (κ×V):=
 if(kvs.any λkv=>decide (kv.1=k))=true then kvs.map (λkv=>if kv.1=k then(kv.1,v) else kv) else kvs++[(k,v)]
def Kl (kvs:List (κ×V))(k:κ):List (κ×V):=kvs.filter λkv=>decide (kv.1≠k)
def UK {p:κ×V}{k:κ}(e:p.1=k):DY (p::r) k=some p.2:=by simp[DY,List.find?_cons,e]
def UH {p:κ×V}{k:κ}(e:¬p.1=k):DY (p::r) k=DY r k:=by simp[DY,List.find?_cons,e]
def B4 (k:κ):∀kvs:List (κ×V),(kvs.any λkv=>decide (kv.1=k))=(DY kvs k).isSome
 | []=>rfl
 |p::r=>by
  rw[List.any_cons]
  by_cases e:p.1=k
  ·simp only[UK e,decide_eq_true e,Bool.true_or,Option.isSome_some]
  ·rw[UH e,decide_eq_false e,Bool.false_or];exact B4 k r
def Kk (kvs:List (κ×V))(k:κ)(v:V):(KQ kvs k v).length<=kvs.length+1:=by
 unfold KQ
 split
 ·rw[List.length_map];omega
 ·rw[List.length_append,List.length_cons,List.length_nil];omega
def Hx.isSome_eq {u:Option Value}(r:Hx o u):o.isSome=u.isSome:=by
 cases o with
 |none=>cases u with
  |none=>rfl
  |some _=>exact(show False from r).elim
 |some _=>cases u with
  |none=>exact(show False from r).elim
  |some _=>rfl
def KV.val {kvs:List (κ×V)}(r:KV kvs vs)(k:κ):Hx (DY kvs k) (valueAt vs k):=by
 unfold KV at r
 induction r with
 |nil=>exact True.intro
 | @cons p q ps qs h t ih=>
  obtain⟨h1,h2⟩:=h
  by_cases e:p.1=k
  ·have e':q.1=k:=h1.symm.trans e
   have b:valueAt (q::qs) k=some q.2:=by simp[valueAt,List.find?_cons,e']
   rw[UK e,b];exact h2
  ·have e':¬q.1=k:=λz=>e (h1.trans z)
   have b:valueAt (q::qs) k=valueAt qs k:=by simp[valueAt,List.find?_cons,e']
   rw[UH e,b];exact ih
def KV.any {kvs:List (κ×V)}(r:KV kvs vs)(k:κ):(kvs.any λkv=>decide (kv.1=k))=vs.any λkv=>decide (kv.1=k):=by
 unfold KV at r
 induction r with
 |nil=>rfl
 |cons h t ih=>rw[List.any_cons,List.any_cons,ih,h.1]
def KV.repl {kvs:List (κ×V)}(r:KV kvs vs)(k:κ){y:V}(ry:XW y u):
  KV (kvs.map λkv=>if kv.1=k then(kv.1,y) else kv) (vs.map λkv=>if kv.1=k then(kv.1,u) else kv):=by
 unfold KV at r⊢
 induction r with
 |nil=>exact .nil
 | @cons p q ps qs h t ih=>
  rw[List.map_cons,List.map_cons]
  refine .cons ?_ ih
  obtain⟨h1,h2⟩:=h
  by_cases e:p.1=k
  ·rw[if_pos e,if_pos (h1.symm.trans e)];exact⟨h1,ry⟩
  ·rw[if_neg e,if_neg (λz=>e (h1.trans z))];exact⟨h1,h2⟩
def KV.put {kvs:List (κ×V)}(r:KV kvs vs)(k:κ){y:V}(ry:XW y u):KV (KQ kvs k y) (stored vs k u):=by
 unfold KQ stored
 rw[r.any k]
 by_cases e:(vs.any λkv=>decide (kv.1=k))=true
 ·rw[if_pos e,if_pos e];exact r.repl k ry
 ·rw[if_neg e,if_neg e];exact Paired.snoc r ⟨rfl,ry⟩
def KV.drop {kvs:List (κ×V)}(r:KV kvs vs)(k:κ):KV (Kl kvs k) (without vs k):=by
 unfold KV at r⊢
 unfold Kl without
 induction r with
 |nil=>exact .nil
 | @cons p q ps qs h t ih=>
  obtain⟨h1,h2⟩:=h
  rw[List.filter_cons,List.filter_cons]
  by_cases e:p.1=k
  ·have a:¬decide (p.1≠k)=true:=by simp[e]
   have b:¬decide (q.1≠k)=true:=by simp[h1.symm.trans e]
   rw[if_neg a,if_neg b];exact ih
  ·have e':¬q.1=k:=λz=>e (h1.trans z)
   have a:decide (p.1≠k)=true:=by simp[e]
   have b:decide (q.1≠k)=true:=by simp[e']
   rw[if_pos a,if_pos b];exact .cons ⟨h1,h2⟩ ih
def KV.length {kvs:List (κ×V)}(r:KV kvs vs):kvs.length=vs.length:=Paired.length r
def Oh (kvs:List (κ×V))(k:κ):(Kl kvs k).length<=kvs.length:=List.length_filter_le _ _
end
def Ha {k:Key}(r:XW (kV k) u):(Yt P w).is k u=true:=by
 cases k with
 |inl i=>obtain⟨t,e⟩:=(show ∃t,u=Value.int i t from r);subst e;exact Bf P w i t
 |inr x=>obtain⟨t,e⟩:=(show ∃t,u=Value.str x t from r);subst e;exact Bo P w x t
def DB:∀{ks:List Key}{us:List Value},X0 (ks.map kV) us->ItemsAre (Yt P w) ks us
 | [],_,r=>by rw[List.map_nil] at r;cases r;exact .nil
 |k::ks,_,r=>by
  rw[List.map_cons] at r
  cases r with
  |cons h t=>exact .cons (Ha h) (DB t)
abbrev KT (H:Hp):List (List Key×V)->List (List Key×Addr×Value)->Prop:=Paired λp q=>p.1=q.1/\H q.2.1=some (.tup (p.1.map kV))/\XW p.2 q.2.2
def KT.val {kvs:List (List Key×V)}{xs:List (List Key×Addr×Value)}(r:KT H kvs xs)(k:List Key):Hx (DY kvs k) ((atKey xs k).map (·.2)):=by
 induction r with
 |nil=>exact True.intro
 | @cons p q ps qs h t ih=>
  obtain⟨h1,_,h2⟩:=h
  by_cases e:p.1=k
  ·have e':q.1=k:=h1.symm.trans e
   have b:atKey (q::qs) k=some q.2:=by simp[atKey,List.find?_cons,e']
   rw[UK e,b];exact h2
  ·have e':¬q.1=k:=λz=>e (h1.trans z)
   have b:atKey (q::qs) k=atKey qs k:=by simp[atKey,List.find?_cons,e']
   rw[UH e,b];exact ih
def KT.repl {kvs:List (List Key×V)}{xs:List (List Key×Addr×Value)}(r:KT H kvs xs)(k:List Key){y:V}(ry:XW y u):
  KT H (kvs.map λkv=>if kv.1=k then(kv.1,y) else kv) (xs.map (putAt k u)):=by
 induction r with
 |nil=>exact .nil
 | @cons p q ps qs h t ih=>
  rw[List.map_cons,List.map_cons]
  refine .cons ?_ ih
  obtain⟨h1,h2,h3⟩:=h
  unfold putAt
  by_cases e:p.1=k
  ·rw[if_pos e,if_pos (h1.symm.trans e)];exact⟨h1,h2,ry⟩
  ·rw[if_neg e,if_neg (λz=>e (h1.trans z))];exact⟨h1,h2,h3⟩
def KT.put {kvs:List (List Key×V)}{xs:List (List Key×Addr×Value)}(r:KT H kvs xs)(k:List Key){y:V}(hb:H b=some (.tup (k.map kV)))(ry:XW y u):
  KT H (KQ kvs k y) (storedH xs k b u):=by
 have e:(kvs.any λkv=>decide (kv.1=k))=(atKey xs k).isSome:=by
  rw[B4,(r.val k).isSome_eq,Option.isSome_map]
 unfold KQ storedH
 rw[e]
 by_cases q:(atKey xs k).isSome=true
 ·rw[if_pos q,if_pos q];exact r.repl k ry
 ·rw[if_neg q,if_neg q];exact Paired.snoc r ⟨rfl,hb,ry⟩
def KT.keeps {kvs:List (List Key×V)}{xs:List (List Key×Addr×Value)}(r:KT H kvs xs)(ht:∀b ys,H b=some (.tup ys)->H' b=some (.tup ys)):KT H' kvs xs:=
 Paired.mapP r λ_ _ z=>⟨z.1,ht _ _ z.2.1,z.2.2⟩
section
variable {h:Heap}
def WT {u:HO}(ok:HOk P w H h)(e:Rd H a u):YR P w H h a u:=e.ok ok
def IP (ok:HOk P w H h)(e:Rd H a (.dK kvs)):kvs.length<=sizeLine/\(a==sysModules)=false/\∃vs,KV kvs vs/\h.DictOf (Yt P w) a vs:=
 show YR P w H h a (.dK kvs) from WT ok e
def TU (ok:HOk P w H h)(e:H a=some (.dK kvs)):kvs.length<=sizeLine/\(a==sysModules)=false/\∃vs,KV kvs vs/\h.DictOf (Yt P w) a vs:=IP ok (.inl e)
def EA (ok:HOk P w H h)(e:H a=some (.tup (ks.map kV))):(tupleKind (Yt P w)).is h ks a:=by
 obtain⟨_,its,r,o,h1,h2,n,h3⟩:=(show YR P w H h a (.tup (ks.map kV)) from ok a _ e)
 exact⟨o,its.toArray,n,h1,h2.1,h3,by simpa using DB r⟩
def Lo {kvs:List (List Key×V)}(ok:HOk P w H h)(e:Rd H a (.dT kvs)):kvs.length<=sizeLine/\(a==sysModules)=false/\
  ∃xs,KT H kvs xs/\h.DictOfH (tupleKind (Yt P w)) a xs:=by
 obtain⟨z,y,xs,r,o,es,ep,h1,h2,h3,h4,h5⟩:=(show YR P w H h a (.dT kvs) from WT ok e)
 refine⟨z,y,xs,r,o,es,ep,h1,h2,h3,h4,λx hx=>?_,h5⟩
 have all:∀{l:List (List Key×V)}{m:List (List Key×Addr×Value)},KT H l m->∀x∈m,(tupleKind (Yt P w)).is h x.1 x.2.1:=by
  intro l m q
  induction q with
  |nil=>intro x hx;exact nomatch hx
  | @cons p q ps qs hq t ih=>
   intro x hx
   rcases List.mem_cons.mp hx with e |hx
   ·subst e
    exact EA ok (by rw[←hq.1];exact hq.2.1)
   ·exact ih x hx
 exact all r x hx
def Ae {kvs:List (List Key×V)}(ok:HOk P w H h)(e:H a=some (.dT kvs)):kvs.length<=sizeLine/\(a==sysModules)=false/\
  ∃xs,KT H kvs xs/\h.DictOfH (tupleKind (Yt P w)) a xs:=Lo ok (.inl e)
end
def S3 (H:Hp)(a:Addr)(y:V)(r:Option V):Prop:=
 (∃kvs k,Rd H a (.dK kvs)/\y=kV k/\r=DY kvs k)∨∃kvs k b,Rd H a (.dT kvs)/\y= .ref b/\H b=some (.tup (k.map kV))/\r=DY kvs k
def WX (H:Hp)(a:Addr)(y v:V)(H':Hp):Prop:=
 (∃kvs k,H a=some (.dK kvs)/\y=kV k/\kvs.length<sizeLine/\H'=upd H a (.dK (KQ kvs k v)))∨
 ∃kvs k b,H a=some (.dT kvs)/\y= .ref b/\H b=some (.tup (k.map kV))/\kvs.length<sizeLine/\H'=upd H a (.dT (KQ kvs k v))
def S3.kk {k:Key}(e:H a=some (.dK kvs)):S3 H a (kV k) (DY kvs k):=.inl ⟨kvs,k, .inl e,rfl,rfl⟩
def WX.kk {k:Key}(e:H a=some (.dK kvs))(hl:kvs.length<sizeLine):WX H a (kV k) v (upd H a (.dK (KQ kvs k v))):=.inl ⟨kvs,k,e,rfl,hl,rfl⟩
section
variable {y v:V}{r:Value}{o:Option V}
def Inv.big (I:Inv X aa U H s):sysModules<s.heap.objs.size:=by
 have h:mainGlobals<s.heap.objs.size:=(I.mod.glob.keeps I.bk).lt
 exact Nat.lt_trans (by decide) h
def Mn (hu:A.units+1<cLine)(I:Inv X aa U H s)(g:S3 H a y (some v))(ry:XW y u)(h:∀w' s',Inv X aa U H s'->XW v w'->Q w' s'):
  wpAny (model X.prog X.w) A (getItem (.ref a) u) Q E s:=by
 rcases g with⟨kvs,k,e,ey,l⟩ | ⟨kvs,k,b,e,ey,eb,l⟩
 ·subst ey
  obtain⟨z,hd,vs,b9,dd⟩:=IP I.hok e
  obtain⟨w',hw,cz⟩:=Hx.some_of (v:=v) (o:=valueAt vs k) (by rw[l];exact b9.val k)
  exact wpAny_getItem_of (Ha ry) dd.mapOf hw (h w' _ (I.tok _) cz)
 ·subst ey
  cases(show u=Value.ref b from ry)
  obtain⟨z,hd,xs,b9,dd⟩:=Lo I.hok e
  obtain⟨w',hw,cz⟩:=Hx.some_of (v:=v) (o:=(atKey xs k).map (·.2)) (by rw[l];exact b9.val k)
  obtain⟨p,hp,cT⟩:=Option.map_eq_some_iff.mp hw
  refine wpAny_getItem_heap (tupleKind_room_in1 hu) (EA I.hok eb) dd hp ?_
  rw[cT]
  exact h w' _ (I.tok _) cz
def qE (hu:A.units+1<cLine)(I:Inv X aa U H s)(g:S3 H a y o)(ry:XW y u)(h:∀s',Inv X aa U H s'->Q (.bool o.isSome) s'):
  wpAny (model X.prog X.w) A (compareOp .In u (.ref a)) Q E s:=by
 rcases g with⟨kvs,k,e,ey,l⟩ | ⟨kvs,k,b,e,ey,eb,l⟩
 ·subst ey
  obtain⟨z,hd,vs,b9,dd⟩:=IP I.hok e
  refine wpAny_in_of (Ha ry) hd dd.mapOf ?_
  rw[←(b9.val k).isSome_eq, ←l]
  exact h _ (I.tok _)
 ·subst ey
  cases(show u=Value.ref b from ry)
  obtain⟨z,hd,xs,b9,dd⟩:=Lo I.hok e
  refine wpAny_in_heap (tupleKind_room_in1 hu) (EA I.hok eb) hd dd ?_
  have q:=(b9.val k).isSome_eq
  rw[Option.isSome_map] at q
  rw[←q, ←l]
  exact h _ (I.tok _)
def CH {t':Nat}(I:Inv X aa U H s)(mu:Mut (H a))(hs:Heap.SameBut a s.heap h')(he:∃q,h'.get? a=some q)(new:YR X.prog X.w (upd H a ob) h' a ob):
  Inv X aa U (upd H a ob) {s with heap:=h',toks:=t'}:=
 I.write (x:=a) (e:=a) mu (.inl rfl) (λb q hb z=>(hs.2 b hb).trans z) he new
def Pc (z:kvs.length<=sizeLine)(hd:(a==sysModules)=false)(b9:KV kvs vs)(dd:h'.DictOf (Yt P w) a vs):
  YR P w H' h' a (.dK kvs):=⟨z,hd,vs,b9,dd⟩
def MP {Q:Unit->Shared->Prop}(hu:A.units+1<cLine)(I:Inv X aa U H s)(g:WX H a y v H')(ry:XW y u)(rv:XW v r)(h:∀s',Inv X aa U H' s'->Q () s'):
  wpAny (model X.prog X.w) A (setItem (.ref a) u r) Q E s:=by
 rcases g with⟨kvs,k,e,ey,l,eH⟩ | ⟨kvs,k,b,e,ey,eb,l,eH⟩
 ·subst ey eH
  obtain⟨z,hd,vs,b9,dd⟩:=TU I.hok e
  have hz:vs.length<=sizeLine:=by rw[←b9.length];exact z
  have hl:(KQ kvs k v).length<=sizeLine:=by have:=Kk kvs k v;omega
  refine wpAny_setItem_pairs (hsz:=hz) (Ha ry) dd λh' dd' hs=>h _ ?_
  have he:∃q,h'.get? a=some q:=let ⟨q,_,_,hq,_⟩:=dd';⟨q,hq⟩
  exact CH I (by rw[e];exact True.intro) hs he (Pc hl hd (b9.put k rv) dd')
 ·subst ey eH
  cases(show u=Value.ref b from ry)
  obtain⟨z,hd,xs,b9,dd⟩:=Ae I.hok e
  have hz:xs.length<=sizeLine:=by rw[←Paired.length b9];exact z
  have hl:(KQ kvs k v).length<=sizeLine:=by have:=Kk kvs k v;omega
  refine wpAny_setItem_heap (hsz:=hz) (tupleKind_room_in1 hu) (EA I.hok eb) dd λh' dd' hs=>h _ ?_
  obtain⟨q,es,ep,hq,h2,h3,h4,_,h5⟩:=dd'
  refine CH I (by rw[e];exact True.intro) hs ⟨q,hq⟩ ⟨hl,hd,_,(b9.put k eb rv).keeps λc ys ec=>?_,q,es,ep,hq,h2,h3,h4,h5⟩
  rw[XH (Ag ec e (λz=>nomatch z))]
  exact ec
end
section
variable {k:Key}
def AH (I:Inv X aa U H s)(e:H a=some (.dK kvs))(ry:XW (kV k) u)(l:DY kvs k=some v)(hm:more=[]∨∃x,more=[x])
  (h:∀w' s',Inv X aa U (upd H a (.dK (Kl kvs k))) s'->XW v w'->Q w' s'):wpAny (model X.prog X.w) A (call (.builtin "dict.pop") (.ref a::u::more)) Q E s:=by
 obtain⟨z,hd,vs,b9,dd⟩:=TU I.hok e
 obtain⟨w',hw,cz⟩:=Hx.some_of (v:=v) (o:=valueAt vs k) (by rw[←l];exact b9.val k)
 have hp:(keyPart u).isSome=true:=by
  cases k with
  |inl i=>obtain⟨t,q⟩:=(show ∃t,u=Value.int i t from ry);subst q;rfl
  |inr x=>obtain⟨t,q⟩:=(show ∃t,u=Value.str x t from ry);subst q;rfl
 have ha:argsOk "dict.pop" ⟨.ref a::u::more,[]⟩:=by
  rcases hm with q | ⟨x,q⟩
  ·subst q;exact PySem.F.args_dict_pop_2 _ _
  ·subst q;exact PySem.F.args_dict_pop_3 _ _ _
 refine call_meetsIn PySem.F.slot_dict_pop dd.typeIs PySem.F.entry_dict_pop ha (meets_dict_pop_there (Yt X.prog X.w) a (Ha ry) more hm hp)
  ⟨vs,w',dd,by rw[←b9.length];exact z,hw,λh' dd' hs=>h w' _ ?_ cz⟩
 have he:∃q,h'.get? a=some q:=let ⟨q,_,_,hq,_⟩:=dd';⟨q,hq⟩
 exact CH I (by rw[e];exact True.intro) hs he (Pc (Nat.le_trans (Oh kvs k) z) hd (b9.drop k) dd')
end
def qo (i:Expr):Prop:=∀ ov iv,subscripted i false ov iv=operate [ov,iv] (getItem ov iv)
def Py {env:Env}{value slice:Expr}{T id:String}
  (hl:typeLookup (.type T) "__getitem__" =pure (some (.builtin id)))(hs:qo slice)
  (h:wpAny (model prog w) A (eval value env) (λo s₁=>wpAny (model prog w) A (eval slice env) (λi s₂=>s₂.TypeIs o T/\wpAny (model prog w) A (getItem o i) Q E s₂) E s₁) E s):
  wpAny (model prog w) A (eval (.Subscript value slice pos) env) Q E s:=by
 refine Subscript_ (wpAny_mono h (λo s₁ h₁=>wpAny_mono h₁ (λi s₂ h₂=>?_) λ_ _ x=>x) λ_ _ x=>x)
 obtain⟨hT,h₂⟩:=h₂
 unfold subscriptTail
 refine wpAny_bind ?_
 rw[getitemInPython_of_ne hT.not_modules]
 refine wpAny_bind (wpAny_specialOf hT hl ?_)
 have fin:wpAny (model prog w) A (subscripted slice false o i) (λr s₃=>wpAny (model prog w) A (letTemporaryGo value o r >>= λ_=>pure r) Q E s₃) E s₂:=by
  rw[hs o i]
  exact wpAny_operating (wpAny_mono h₂ (λr s₃ h₃=>wpAny_bind (wpAny_letTemporaryGo (wpAny_pure h₃))) λ_ _ x=>x)
 first
  |exact wpAny_pure (wpAny_bind fin)
  |exact wpAny_bind (wpAny_pure (wpAny_bind fin))
  |exact wpAny_bind fin
def Bn {y:V}(I:Inv X aa U H s)(g:S3 H a y o):s.TypeIs (.ref a) "dict":=by
 rcases g with⟨kvs,k,e,_,_⟩ | ⟨kvs,k,b,e,_,_,_⟩
 ·obtain⟨_,_,vs,_,dd⟩:=IP I.hok e
  exact dd.typeIs
 ·obtain⟨_,_,xs,_,dd⟩:=Lo I.hok e
  exact dd.typeIs
def Tv (td ty:TE):TE:=λU H Q=>td U H λx H1=>ty U H1 λy H2=>∃ a v,x= .ref a/\S3 H2 a y (some v)/\Q v H2
def AT (ty td:TE):TE:=λU H Q=>ty U H λy H1=>td U H1 λx H2=>∃ a o,x= .ref a/\S3 H2 a y o/\Q (.bl o.isSome) H2
def PD (td ty tv:TE):TS:=λD U H=>tv U H λv H1=>td U H1 λx H2=>ty U H2 λy H3=>∃ a H4,x= .ref a/\WX H3 a y v H4/\D.nx U H4
section
variable {o i value:Expr}{cy tpos:Pos}{ty tv:TE}
def J6 (hu:X.A.units+1<cLine)(ho:PE X o td)(hi:PE X i ty)(hs:qo i):PE X (.Subscript o i pos) (Tv td ty):=by
 intro aa s U H Q I h
 refine Py PySem.F.slot_dict_getitem.lookup hs (thn (ho aa s U H _ I h) λu s1 ⟨x,H1,I1,rx,q1⟩=>thn (hi aa s1 U H1 _ I1 q1) λiv s2 r9=>?_)
 obtain⟨y,H2,I2,ry,a,v,ex,g,q2⟩:=r9
 subst ex
 obtain rfl:u=Value.ref a:=rx
 exact⟨Bn I2 g,Mn hu I2 g ry λw' s3 I3 cz=>⟨v,H2,I3,cz,q2⟩⟩
def HD (hu:X.A.units+1<cLine)(hi:PE X i ty)(ho:PE X o td):PC X .In i o (AT ty td):=by
 intro aa s U H Q I h
 refine thn (hi aa s U H _ I h) λiv s1 ⟨y,H1,I1,ry,q1⟩=>thn (ho aa s1 U H1 _ I1 q1) λu s2 r9=>?_
 obtain⟨x,H2,I2,rx,a,ov,ex,g,q2⟩:=r9
 subst ex
 obtain rfl:u=Value.ref a:=rx
 exact qE hu I2 g ry λs3 I3=>⟨.bl ov.isSome,H2,I3,rfl,q2⟩
def Vb (hu:X.A.units+1<cLine)(ho:PE X o td)(hi:PE X i ty)(hv:PE X value tv)(hs:swapsWith value (some (.Subscript o i cy)) pos.line X.env=pure false):
  PS X (.Assign [.Subscript o i cy] value pos) (PD td ty tv):=by
 intro aa s U H D I h
 refine wpAny_Assign_Subscript (thn (hv aa s U H _ I h) λr s1 ⟨v,H1,I1,rv,q1⟩=>thn (ho aa s1 U H1 _ I1 q1) λu s2 ⟨x,H2,I2,rx,q2⟩=>thn (hi aa s2 U H2 _ I2 q2) λiv s3 r9=>?_) hs
 obtain⟨y,H3,I3,ry,a,H4,ex,g,q3⟩:=r9
 subst ex
 obtain rfl:u=Value.ref a:=rx
 exact MP hu I3 g ry rv λs4 I4=>⟨U,H4,I4,q3⟩
end
def NF (h:Heap)(hb:sysModules<h.objs.size):YR P w H (h.push {cls:=.type "dict",data:=.dict #[]}) h.objs.size (.dK []):=
 ⟨Nat.zero_le _,beq_eq_false_iff_ne.mpr (Ne.symm (Nat.ne_of_lt hb)),[], .nil,Heap.DictOf.new h⟩
def Ou:TE:=λ_ H Q=>∀ p,H p=none->Q (.ref p) (upd H p (.dK []))
section
def Fk:PE X (.Dict [] [] pos) Ou:=λaa s U H Q I h=>
 wpAny_Dict_empty ⟨.ref s.heap.objs.size,_,I.laid (a:=s.heap.objs.size) (o:=.dK []) (t':=s.toks) (λ_ _ q=>Heap.get?_push_of_some _ q) (Nat.le_refl _) (NF s.heap I.big),rfl,h _ (I.hok.fresh (Nat.le_refl _))⟩
end
structure M1 (X:Cx)(o:Expr)(m:Str)(aI:Pos)(e:Expr)(ao:Pos):Prop where
 base:attributeBase o m X.env (eval o X.env)=eval o X.env
 few:((backTo ao (starEach [e] X.env)).all (λx=>!x.1)&&(backToKw ao (keywordEach [] X.env)).all (λx=>x.1.isSome)
  &&decide (([e]:List Expr).length+([]:List Keyword).length+(if([]:List Keyword).isEmpty then 0 else 1)<30))=true
 line:(aI.endLine==ao.line)=true
 trees:backTo ao (starEach [e] X.env)=[(false,eval e X.env)]
def IsD (H:Hp)(a:Addr):Prop:=(∃kvs,Rd H a (.dK kvs))∨∃kvs,Rd H a (.dT kvs)
def TF (I:Inv X aa U H s)(d:IsD H a):
  s.TypeIs (.ref a) "dict" /\(∀b,Value.ref a= .ref b->∃ob,s.heap.get? b=some ob/\ob.dict=none)/\(a==sysModules)=false:=by
 rcases d with⟨kvs,e⟩ | ⟨kvs,e⟩
 ·obtain⟨_,hd,vs,_,dd⟩:=IP I.hok e
  refine⟨dd.typeIs,λb q=>?_,hd⟩
  cases q
  obtain⟨ob,_,_,h1,h2,_⟩:=dd
  exact⟨ob,h1,h2.2.1⟩
 ·obtain⟨_,hd,xs,_,dd⟩:=Lo I.hok e
  refine⟨dd.typeIs,λb q=>?_,hd⟩
  cases q
  obtain⟨ob,_,_,h1,h2,_⟩:=dd
  exact⟨ob,h1,h2.2.1⟩
section
variable {y d:V}{r:Value}{o:Option V}
end
def OA (td ty:TE):TE:=λU H Q=>td U H λx H1=>∃ a,x= .ref a/\IsD H1 a/\ty U H1 λy H2=>∃ kvs k v,H2 a=some (.dK kvs)/\y=kV k/\DY kvs k=some v/\Q v (upd H2 a (.dK (Kl kvs k)))
section
variable {o f:Expr}{aI ao:Pos}{ty tx:TE}
def GU (ho:PE X o td)(he:PE X e ty)(m:M1 X o "pop" aI e ao):PE X (.Call (.Attribute o "pop" aI) [e] [] ao) (OA td ty):=by
 intro aa s U H Q I h
 refine wpAny_Call_method m.base m.few m.line PySem.F.plainAttrs_dict PySem.F.slot_dict_pop PySem.F.type_dict_pop (thn (ho aa s U H _ I h) λu s1 r9=>?_)
 obtain⟨x,H1,I1,rx,a,ex,d,q1⟩:=r9
 subst ex
 obtain rfl:u=Value.ref a:=rx
 obtain⟨t1,t2,_⟩:=TF I1 d
 refine⟨t1,t2,?_⟩
 rw[m.trees]
 refine Calls.callWith_builtin rfl (Calls.evalArgs_plain (Calls.spliced_cons (thn (he aa s1 U H1 _ I1 q1) λiv s2 ⟨y,H2,I2,ry,kvs,k,v,ea,ey,l,q2⟩=>Calls.spliced_nil ?_)))
 subst ey
 exact AH I2 ea ry l (.inl rfl) λw' s3 I3 cz=>⟨v,_,I3,cz,q2⟩
end
section
end
section
variable {y:V}
end
section
end
section
variable {κ:Type}[DecidableEq κ]
end
def LZ:∀(names:List (Str×NameKind)),(∀x∈names,x.2=NameKind.free->∃c,env.cells.lookup x.1=some c)->
  ∀cs:List (Str×Addr),(∀x c,cs.lookup x=some c->env.cells.lookup x=some c)->
  ∃cl:List (Str×Addr),(forIn names cs (λ(x:Str×NameKind) (r:List (Str×Addr))=>(if(x.2==NameKind.free)=true then do let a ←cellOf env x.1;pure (ForInStep.yield ((x.1,a)::r)) else pure (ForInStep.yield r):Sem (ForInStep (List (Str×Addr))))))=(pure cl:Sem (List (Str×Addr)))/\
   (∀x c,cl.lookup x=some c->env.cells.lookup x=some c)/\(∀x,((x,NameKind.free)∈names∨∃c,cs.lookup x=some c)->∃c,cl.lookup x=some c)
 | [],_,cs,hs=>⟨cs,by rw[List.forIn_nil],hs,λx h=>h.elim (λz=>nomatch z) id⟩
 | (n,k)::r,hf,cs,hs=>by
  have hr:∀x∈r,x.2=NameKind.free->∃c,env.cells.lookup x.1=some c:=λx hx=>hf x (List.mem_cons_of_mem _ hx)
  by_cases hk:k=NameKind.free
  ·subst hk
   obtain⟨a,ha⟩:=hf (n,NameKind.free) List.mem_cons_self rfl
   have dP:∀x c,((n,a)::cs).lookup x=some c->env.cells.lookup x=some c:=λx c h=>by
    rw[List.lookup_cons] at h
    by_cases hx:x=n
    ·subst hx
     simp only[beq_self_eq_true] at h
     rw[←h];exact ha
    ·have:(x==n)=false:=beq_eq_false_iff_ne.mpr hx
     rw[this] at h
     exact hs x c h
   obtain⟨cl,e,h1,h2⟩:=LZ r hr ((n,a)::cs) dP
   refine⟨cl,?_,h1,λx h=>h2 x ?_⟩
   ·rw[List.forIn_cons]
    have e1:cellOf env n=pure a:=by unfold cellOf;rw[show env.cells.lookup n=some a from ha]
    simp only[beq_self_eq_true,if_true,e1]
    exact e
   ·rcases h with h | ⟨c,h⟩
    ·rcases List.mem_cons.mp h with h |h
     ·have:x=n:=congrArg Prod.fst h
      subst this
      exact .inr ⟨a,by rw[List.lookup_cons];simp⟩
     ·exact .inl h
    ·by_cases hx:x=n
     ·subst hx;exact .inr ⟨a,by rw[List.lookup_cons];simp⟩
     ·exact .inr ⟨c,by rw[List.lookup_cons,beq_eq_false_iff_ne.mpr hx];exact h⟩
  ·obtain⟨cl,e,h1,h2⟩:=LZ r hr cs hs
   refine⟨cl,?_,h1,λx h=>h2 x ?_⟩
   ·rw[List.forIn_cons]
    have hb:(k==NameKind.free)=false:=by simpa using hk
    simp only[hb,Bool.false_eq_true,if_false]
    exact e
   ·rcases h with h |h
    ·rcases List.mem_cons.mp h with h |h
     ·exact absurd (congrArg Prod.snd h).symm hk
     ·exact .inl h
    ·exact .inr h
def Cq (hf:∀x∈scope.names,x.2=NameKind.free->∃c,env.cells.lookup x.1=some c):
  ∃cl:List (Str×Addr),closureFor scope env=pure cl/\(∀x c,cl.lookup x=some c->env.cells.lookup x=some c)/\(∀x,(x,NameKind.free)∈scope.names->∃c,cl.lookup x=some c):=by
 obtain⟨cl,e,h1,h2⟩:=LZ scope.names hf [] (λx c h=>by simp at h)
 refine⟨cl,?_,h1,λx h=>h2 x (.inl h)⟩
 unfold closureFor
 show((forIn scope.names [] (λ(x:Str×NameKind) (r:List (Str×Addr))=>(if(x.2==NameKind.free)=true then do let a ←cellOf env x.1;pure (ForInStep.yield ((x.1,a)::r)) else pure (ForInStep.yield r):Sem (ForInStep (List (Str×Addr)))))) >>= λs=>pure s)=pure cl
 rw[e]
 rfl
def J9 {env:Env}:∀{names:List (Str×NameKind)}{x:Str}{k:NameKind},(∀y∈names,y.2≠NameKind.cell)->
  (names.map λ(n,k)=>if(k==NameKind.free&&env.scope.kind== .function&&env.kindOf n==some .cell) then(n,NameKind.cell) else(n,k)).lookup x=some k->(k= .cell∨k= .free)->(x,NameKind.free)∈names
 | [],_,_,_,h,_=>by simp at h
 | (n,kk)::r,x,k,hc,h,hk=>by
  have ih:=@J9 env r x k (λy hy=>hc y (List.mem_cons_of_mem _ hy))
  have hh:=hc (n,kk) List.mem_cons_self
  simp only[List.map_cons] at h
  by_cases aZ:(kk==NameKind.free&&env.scope.kind== .function&&env.kindOf n==some .cell)=true
  ·rw[if_pos aZ,List.lookup_cons] at h
   have cm:kk=NameKind.free:=by
    rw[Bool.and_eq_true,Bool.and_eq_true] at aZ
    simpa using aZ.1.1
   cases hx:x==n with
   |true=>
    have:x=n:=by simpa using hx
    subst this;subst cm
    exact List.mem_cons_self
   |false=>rw[hx] at h;exact List.mem_cons_of_mem _ (ih h hk)
  ·rw[if_neg aZ,List.lookup_cons] at h
   cases hx:x==n with
   |true=>
    rw[hx] at h
    have eC:kk=k:=Option.some.inj h
    have:x=n:=by simpa using hx
    subst this;subst eC
    rcases hk with z |z
    ·exact absurd z hh
    ·subst z;exact List.mem_cons_self
   |false=>rw[hx] at h;exact List.mem_cons_of_mem _ (ih h hk)
def Q5 {env:Env}:∀{names:List (Str×NameKind)}{x:Str},names.lookup x=some .free->
  let l:=(names.map λ(n,k)=>if(k==NameKind.free&&env.scope.kind== .function&&env.kindOf n==some .cell) then(n,NameKind.cell) else(n,k))
  l.lookup x=some .cell∨l.lookup x=some .free
 | [],_,h=>by simp at h
 | (n,kk)::r,x,h=>by
  have ih:=@Q5 env r x
  simp only[List.map_cons]
  rw[List.lookup_cons] at h
  by_cases aZ:(kk==NameKind.free&&env.scope.kind== .function&&env.kindOf n==some .cell)=true
  ·rw[if_pos aZ,List.lookup_cons]
   cases hx:x==n with
   |true=>exact .inl rfl
   |false=>rw[hx] at h;exact ih h
  ·rw[if_neg aZ,List.lookup_cons]
   cases hx:x==n with
   |true=>rw[hx] at h;exact .inr h
   |false=>rw[hx] at h;exact ih h
abbrev Cx.comp (X:Cx)(N:List Str)(scope:Scope)(cl:List (Str×Addr))(C:Addr)(s:Shared)(H:Hp)(ex:List Addr)(E:Value->Shared->Prop):Cx:=
 {X with N:=N,s₀:=s,H₀:=H,env:=compEnvC scope cl C X.env,outer:=X.stack,ex:=ex,fn:=λ_=>false,pn:=[],xe:=E}
def PTs (X:Cx)(bf:List Expr)(t:TT):Prop:=
 ∀(aa:List (Addr×Obj)) (s:Shared) (U:St) (H:Hp) (Q:Bool->Hp->Prop),Inv X aa U H s->t U H Q->
  wpAny (model X.prog X.w) X.A (forIn bf true λc r=>if r=true then do let ok ←isTrue c X.env (eval c X.env);pure (ForInStep.yield ok) else pure (ForInStep.yield r)) (TP X aa U Q) X.xe s
def G1:TT:=λ_ H Q=>Q true H
def WC {A Bqz:Hp->Prop}(h:A H):G1 U H λc H5=>if c=true then A H5 else Bqz H5:=by
 show if true=true then A H else Bqz H
 rw[if_pos rfl]
 exact h
def YJ:PTs X [] G1:=λ_ _ _ H _ I h=>wpAny_tests_nil ⟨H,I,h⟩
def QD (h:PT X c t):PTs X [c] t:=λaa s U H Q I hw=>wpAny_tests_one (h aa s U H Q I hw)
def VW (n:Nat)(g:TG):Prop:=∀ x U H Q,g x U H Q->g x U H λσ2 H2=>Q σ2 H2/\σ2.length=U.length/\∀i,n<=i->σ2[i]?=U[i]?
def Yc (h:i<n):VW n (YI i):=λx U H Q q=>⟨q,by simp,λj hj=>by rw[List.getElem?_set_ne (by lia)]⟩
def C0 (hi:i<n)(hj:j<n):VW n (Oq K 2 (Z0 (YI i) (Z0 (YI j) ON))):=λx U H Q q=>by
 obtain⟨a,xs,e1,hq,hl,v,r,e2,w,r2,e3,e4,q⟩:=q
 exact⟨a,xs,e1,hq,hl,v,r,e2,w,r2,e3,e4,q,by simp,λk hk=>by rw[List.getElem?_set_ne (by lia),List.getElem?_set_ne (by lia)]⟩
def X5 (n:Nat)(caps:List (Nat×Str))(U:St):St:=List.replicate n none++caps.map λp=>(U[p.1]?).join
def N4 (g:TG)(tt:TT)(te:TE)(U:St)(Q:VK)(J:It)(W:Nat->Nat->List V->Hp->Prop):Prop:=
 ∀i m ys H2,W i m ys H2->ys.length<=sizeLine/\
  ((J.stop i H2/\∀p,H2 p=none->Q (.ref p) (upd H2 p (.lst ys)))∨
  (J.go i H2/\∃N:List V->Hp->Prop,(∀ys' H',N ys' H'->∃m',m'<m/\W (i+1) m' ys' H')/\∀x H3,J.yld i H2 x H3->g x U H3 λσ4 H4=>tt σ4 H4 λc H5=>
   if c=true then te σ4 H5 λv H6=>N (ys++[v]) H6 else N ys H5))
def Mg (n:Nat)(caps:List (Nat×Str))(g:TG)(tt:TT)(te:TE)(U:St)(Q:VK)(J:It)(H1:Hp):Prop:=
 ∃W:Nat->Nat->List V->Hp->Prop,(∃m,W 0 m [] H1)/\N4 g tt te (X5 n caps U) Q J W
def F1 (n:Nat)(caps:List (Nat×Str))(wi:TI)(g:TG)(tt:TT)(te:TE):TE:=λU H Q=>wi U H λJ H1=>Mg n caps g tt te U Q J H1
def DI (sc scope:Scope)(N0 tns:List Str)(caps:List (Nat×Str)):Bool:=
 scope.kind== .function&&scope.names.all (λy=>!(y.2== .cell))&&scope.names.all (λy=>!(y.2== .local) || scope.names.lookup y.1==some .local)&&
 scope.names.all (λy=>!(y.2== .free) || sc.names.lookup y.1==some .cell)&&caps.all (λp=>N0[p.1]?==some p.2&&sc.names.lookup p.2==some .cell&&scope.names.lookup p.2==some .free)
def DF {p:M}{P:Prop}(h:p∈([]:List M)):P:=nomatch h
def TD (Mqz:Model)(A:Around)(bc tg:Expr)(bf:List Expr)(acc:Value)(env:Env)(E:Value->Shared->Prop)(K:Shared->Prop)(v:Value)(s:Shared):Prop:=
 wpAny Mqz A (assign tg env v) (λ_ s₂=>wpAny Mqz A (forIn bf true λc r=>if r=true then do let ok ←isTrue c env (eval c env);pure (ForInStep.yield ok) else pure (ForInStep.yield r)) (λok s₃=>
  if ok=true then wpAny Mqz A (eval bc env) (λx s₄=>wpAny Mqz A (call (.builtin "list.append") [acc,x]) (λ_ s₅=>K s₅) E s₄) E s₃ else K s₃) E s₂) E s
def Ad (Mqz:Model)(A:Around)(bc tg:Expr)(bf:List Expr)(it acc:Value)(env:Env)(E:Value->Shared->Prop)(Rn K:Shared->Prop)(s:Shared):Prop:=
 wpAny Mqz A (pyNext it) (λr s₁=>r=none/\Rn s₁∨∃v,r=some v/\wpAny Mqz A (letOwnedTupleGo tg it v) (λ_ s₁=>TD Mqz A bc tg bf acc env E K v s₁) E s₁) E s
section
def Dj (I:Nat->Shared->Prop)(hE:(notedBy (model prog w) A env λe s'=>R (.error e) s')=E)
  (turn:∀n s,I n s->Ad (model prog w) A bc cx bf it acc env E (λs=>R (.ok .next) s) (λs=>∃ m,m<n/\I m s) s)(n:Nat)(h:I n s):
  codeAny (model prog w) A (.compLoop (.ListComp bc [⟨cx,iter,bf,0⟩] scope pos) 0 it acc env) R s:=by
 subst hE
 refine codeAny_loop rfl I (λn s hI=>?_) n h
 show wpAny _ A ((compTurn (.ListComp bc [⟨cx,iter,bf,0⟩] scope pos) 0 it acc env).onRaise (λx=>do noteFrame x env;theTreesLotGoes x)) _ _ s
 refine wpAny_noted ?_
 rw[compTurn_list]
 refine wpAny_bind (wpAny_standAt (wpAny_bind (thn (turn n s hI) λr s₁ h₁=>?_)))
 rcases h₁ with⟨rfl,h₁⟩ | ⟨v,rfl,h₁⟩
 ·exact wpAny_pure h₁
 ·refine wpAny_bind (thn h₁ λ_ s₁' h₁'=>wpAny_bind (thn h₁' λ_ s₂ h₂=>wpAny_bind (thn h₂ λok s₃ h₃=>?_)))
  cases ok with
  |false=>exact wpAny_pure ⟨rfl,h₃⟩
  |true=>exact wpAny_bind (wpAny_bind (thn h₃ λx s₄ h₄=>wpAny_bind (thn h₄ λ_ s₅ h₅=>wpAny_pure (wpAny_pure ⟨rfl,h₅⟩))))
end
def lob (its:List Value)(k:Nat):Obj:={cls:=.type "list",data:=.seq (List.toArray its) k}
structure CIn (Y:Cx)(tn:Nat->Heap->Prop)(fp:List Addr)(D:Addr)(U:St)(i:Nat)(H:Hp)(o:Obj)(s:Shared):Prop where
 I:Inv Y [] U H s
 t:tn i s.heap
 f:∀b∈fp,H b=none
 l:s.heap.get? D=some o
 n:H D=none
inductive CI (Y:Cx)(tn:Nat->Heap->Prop)(fp:List Addr)(D:Addr)(U:St)(W:Nat->Nat->List V->Hp->Prop)(m:Nat)(s:Shared):Prop
 |mk (i:Nat) (H:Hp) (ys:List V) (its:List Value) (k:Nat) (c:CIn Y tn fp D U i H (lob its k) s) (r:X0 ys its) (w:W i m ys H)
structure CAt (Y:Cx)(fp:List Addr)(D:Addr):Prop where
 calm:Y.calm=true
 pn:Y.pn=[]
 ne:D≠Y.env.locals
 fs:D∉Y.fs
 sz:Y.s₀.heap.objs.size<=D
 cl:∀x c,Y.env.cells.lookup x=some c->c≠D
 fpn:∀b∈fp,b≠D
 ok:∀b∈fp,∀H:Hp,H b=none->DZ Y [] H b
section
variable {Y:Cx}{tn:Nat->Heap->Prop}{fp:List Addr}{D it:Addr}{bc iter:Expr}{J:It}{g:TG}{tt:TT}{i:Nat}{o:Obj}{Kn:Shared->Prop}
def CAt.pns (c:CAt Y fp D)(hn:∀b∈fp,H b=none):∀b∈fp,DZ Y [(D,o)] H b:=λb hb=>
 have z:=c.ok b hb H (hn b hb)
 ⟨z.1,z.2.1,z.2.2.1,z.2.2.2.1,z.2.2.2.2.1,λp hp e=>by
  rw[c.pn] at hp
  cases List.mem_singleton.mp hp
  exact c.fpn b hb e.symm⟩
def BU (T:Turn Y.prog Y.w Y.K tg J fp it tn)(t:tn i h5)(I:Inv Y ([(D,o)]++DQ fp h5) U H s):CIn Y tn fp D U i H o s:=
 have p:=I.pin (D,o) (List.mem_append_right _ (.head _))
 have q:∀b∈fp,∀o',h5.get? b=some o'->s.heap.get? b=some o'/\H b=none:=λb hb o' e=>have z:=I.pin (b,o') (List.mem_append_right _ (.tail _ (V7 hb e)));⟨z.1,z.2.1⟩
 ⟨I.pins_of (pins':=[]) λ_ h=>DF h,T.keep _ _ _ t λb hb o' e=>(q b hb o' e).1,λb hb=>(T.obj _ _ t b hb).elim λo' e=>(q b hb o' e.1).2,p.1,p.2.1⟩
theorem qV (T:Turn Y.prog Y.w Y.K tg J fp it tn)(a:CAt Y fp D)(c:CIn Y tn fp D U i H (lob its k) s)(hz:its.length<=sizeLine)
  (hQ:∀k' s',CIn Y tn fp D U i H (lob (its++[v]) k') s'->Kn s'):wpAny (model Y.prog Y.w) Y.A (call (.builtin "list.append") [.ref D,v]) (λ_ s=>Kn s) E s:=by
 refine call_meets F.slot_list_append ⟨_,c.l,rfl⟩ F.entry_list_append (F.args_list_append_2 _ _) (PySem.list_append D (List.toArray its) k v hz) ⟨c.l,?_⟩
 have q:∃k',PySem.IsL (s.heap.update D (Obj.mapSeq (·.push v))) D ((List.toArray its).push v) k':=⟨_,PySem.IsL.update c.l (·.push v)⟩
 rw[List.push_toArray] at q
 obtain⟨k',q⟩:=q
 exact hQ k' _ ⟨c.I.turned (t':=s.toks) (h':=s.heap.update D (Obj.mapSeq (·.push v))) (it:=D) (λb o eD e=>(Heap.get?_update_other s.heap _ (Ne.symm eD)).trans e) c.n a.ne (.inr a.sz) a.cl (λp hp=>by rw[a.pn] at hp;exact DF hp),
  T.keep _ _ _ c.t λb hb o e=>(Heap.get?_update_other s.heap _ (Ne.symm (a.fpn b hb))).trans e,c.f,q,c.n⟩
def Ni {N:List V->Hp->Prop}{x:V}(hg:PG Y tg g)(ht:PTs Y bf tt)(he:PE Y bc te)(hG:VW n g)(h0:∀(j:Nat) v,U[j]?=some (some v)->n<=j)
  (I:Inv Y aa U H s)(r:XW x u)(st:g x U H λσ4 H4=>tt σ4 H4 λc H5=>if c=true then te σ4 H5 λv H6=>N (ys++[v]) H6 else N ys H5)
  (hF:∀H7 s7,Inv Y aa U H7 s7->N ys H7->Kn s7)(hT:∀H8 s8 y v,Inv Y aa U H8 s8->XW y v->N (ys++[y]) H8->wpAny (model Y.prog Y.w) Y.A (call (.builtin "list.append") [acc,v]) (λ_ s=>Kn s) Y.xe s8):
  TD (model Y.prog Y.w) Y.A bc tg bf acc Y.env Y.xe Kn u s:=by
 refine thn (hg _ s _ H x u _ I r (hG _ _ _ _ st)) λ_ s6 r9=>?_
 obtain⟨σ6,H6,I6,q6,l6,k6⟩:=r9
 have wk:∀(j:Nat) v,U[j]?=some (some v)->σ6[j]?=some (some v):=λj v e=>(k6 j (h0 j v e)).trans e
 refine thn (ht _ s6 σ6 H6 _ I6 q6) λc s7 r9=>?_
 obtain⟨H7,I7,q7⟩:=r9
 cases c with
 |false=>exact hF _ _ (I7.weak l6.symm wk) q7
 |true=>exact thn (he _ s7 σ6 H7 _ I7 q7) λv8 s8 r9=>by obtain⟨y8,H8,I8,r8,n8⟩:=r9;exact hT _ _ _ _ (I8.weak l6.symm wk) r8 n8
def Gb {Q:V->Hp->Prop}(hE:(notedBy (model Y.prog Y.w) Y.A Y.env λe s'=>R (.error e) s')=Y.xe)
  (T:Turn Y.prog Y.w Y.K tg J fp it tn)(hG:VW n g)(hg:PG Y tg g)(ht:PTs Y bf tt)(he:PE Y bc te)(a:CAt Y fp D)(h0:∀(j:Nat) v,U[j]?=some (some v)->n<=j)
  (turn:N4 g tt te U Q J W)
  (hEnd:∀ys its k H3 s4,Inv Y [(D,lob its k)] U H3 s4->X0 ys its->ys.length<=sizeLine->Q (.ref D) (upd H3 D (.lst ys))->R (.ok .next) s4)(hi:CI Y tn fp D U W m0 s):
  codeAny (model Y.prog Y.w) Y.A (.compLoop (.ListComp bc [⟨tg,iter,bf,0⟩] scope pos) 0 (.ref it) (.ref D) Y.env) R s:=by
 refine Dj (CI Y tn fp D U W) hE (λm s3 c=>?_) m0 hi
 cases c with
 |mk i H3 ys its k c rv w3=>
 have I3:Inv Y [(D,lob its k)] U H3 s3:=c.I.pins_of λp hp=>List.mem_singleton.mp hp▸⟨c.l,c.n,a.ne,a.fs,λ_ z=>by cases z⟩
 have t:=turn i m ys H3 w3
 refine t.2.elim (λq=>?_) λq=>?_
 ·exact thn (T.done Y rfl rfl rfl a.calm i _ s3 _ H3 Y.xe I3 (a.pns c.f) c.t q.1) λr s4 h=>.inl ⟨h.1,hEnd ys its k H3 s4 h.2 rv t.1 (q.2 D c.n)⟩
 ·refine q.2.elim λNN h=>?_
  refine thn (T.item Y rfl rfl rfl a.calm i _ s3 _ H3 Y.xe I3 (a.pns c.f) c.t q.1) λr s4 h4=>.inr (h4.elim λu h4=>⟨u,h4.1,thn h4.2 λ_ s5 h5=>h5.elim λx h5=>h5.elim λH5 h5=>?_⟩)
  exact Ni hg ht he hG h0 (h5.1.pinned (a.pns h5.2.2.2.2) (T.obj _ _ h5.2.2.2.1)) h5.2.1 (h.2 x H5 h5.2.2.1)
   (λH7 s7 I7 q7=>(h.1 _ _ q7).elim λm' z=>⟨m',z.1, .mk (i+1) H7 ys its k (BU T h5.2.2.2.1 I7) rv z.2⟩)
   λH8 s8 y v I8 r8 q8=>(h.1 _ _ q8).elim λm' z=>qV T a (BU T h5.2.2.2.1 I8) (rv.length▸t.1) λk' s' c'=>⟨m',z.1, .mk (i+1) H8 (ys++[y]) (its++[v]) k' c' (rv.append (.cons r8 .nil)) z.2⟩
end
section
variable {bc iter:Expr}{sc:Scope}{tns:List Str}{wi:TI}{g:TG}{tt:TT}
structure CompEnd (X:Cx)(aa:List (Addr×Obj))(U:St)(H3:Hp)(D C:Addr)(ys:List V)(s':Shared):Prop where
 inv:Inv X aa U (upd H3 D (.lst ys)) s'
 fresh:H3 D=none
 fp:DZ X aa (upd H3 D (.lst ys)) C
 ns:∃m,s'.heap.Ns C m
def EG {D:Addr}(I:Inv X aa U H s)(hf:∀b∈fp,DZ X aa H b)(hD:s.heap.objs.size<=D)(cb:D<C)
  (I4:Inv Y [(D,lob its k)] U' H3 s4)(eB:s4.os=s.os)(u:Un (frs X.stack) fp H H3 s.heap s4.heap)(hok:HOk X.prog X.w H3 s4.heap)(hC:Y.env.locals=C)(rv:X0 ys its)(hz:ys.length<=sizeLine):CompEnd X aa U H3 D C ys s4:=by
 subst hC
 have p:=I4.pin (D,lob its k) (List.mem_append_right _ (.head _))
 have hDn:H3 D=none:=p.2.1
 have up:∀{b:Addr}{o:HO},H3 b=some o->upd H3 D (.lst ys) b=some o:=λe=>(XH (XQ e hDn)).trans e
 refine⟨I.call' (ch:=fp) eB ⟨u.keep,u.slot,λb o e nn hx=>(XH (Nat.ne_of_lt (Nat.lt_of_lt_of_le (Heap.lt_size e) hD))).trans (u.free b o e nn hx),u.there,λb xs e=>up (u.tups b xs e),λb o xs e=>up (u.frzs b o xs e),λb ps e=>(u.tbls b ps e).elim λmore z=>⟨more,up z⟩⟩ (λa o e=>?_) I4.bare λb hb=>have z:=hf b hb;⟨z.2.2.2.1,z.2.1,z.2.2.2.2.1,z.2.2.2.2.2⟩,hDn,I.fpOk (Nat.le_trans hD (Nat.le_of_lt cb)) ((XH (Nat.ne_of_gt cb)).trans I4.free),I4.loc.elim λm z=>⟨m,z.1⟩⟩
 by_cases ha:a=D
 ·subst ha
  rw[X9] at e;cases e
  exact⟨hz,its,k,rv,p.1⟩
 ·rw[XH ha] at e
  exact(hok a o e).stay (λb u _ q=>q) (λb q=>up q) λb xs q=>up q
def qP (X:Cx)(bc tg iter:Expr)(bf:List Expr)(scope:Scope)(pos:Pos)(it:Value)(cl:List (Str×Addr))(RR:Value->Addr->Result->Shared->Prop)(E:Value->Shared->Prop)(s:Shared):Prop:=
 wpAny (model X.prog X.w) X.A (newList []) (λacc s₃=>wpAny (model X.prog X.w) X.A (newFunctionEnv scope X.env.globals cl [] X.env.qual none .none (some X.env)) (λeV s₄=>
   codeAny (model X.prog X.w) X.A (.compStart (.ListComp bc [⟨tg,iter,bf,0⟩] scope pos) 0 it acc {eV with scope:=relabel scope X.env}) (RR acc eV.locals) s₄) E s₃) E s
def UP (e:(X5 n caps U)[i]?=some (some v)):n<=i/\∃p,caps[i-n]?=some p/\U[p.1]?=some (some v):=by
 unfold X5 at e
 by_cases h:i<n
 ·rw[List.getElem?_append_left (by simpa using h),List.getElem?_replicate,if_pos h] at e
  cases e
 ·have hi:=Nat.le_of_not_lt h
  rw[List.getElem?_append_right (by simpa using hi),List.length_replicate,List.getElem?_map] at e
  refine⟨hi,?_⟩
  cases iw:caps[i-n]? with
  |none=>rw[iw] at e;cases e
  |some p=>
   rw[iw] at e
   exact⟨p,rfl,Option.join_eq_some_iff.mp (Option.some.inj e)⟩
structure COk (X:Cx)(scope:Scope)(caps:List (Nat×Str)):Prop where
 kind:scope.kind= .function
 cell:∀y∈scope.names,y.2≠NameKind.cell
 loc:∀y∈scope.names,y.2= .local->scope.names.lookup y.1=some .local
 free:∀y∈scope.names,y.2= .free->X.env.scope.names.lookup y.1=some .cell
 caps:∀p∈caps,(X.N[p.1]?=some p.2/\X.env.scope.names.lookup p.2=some .cell)/\scope.names.lookup p.2=some .free
def COk.of (dJ:X.env.scope=sc)(dQ:X.N=N0)(ok:DI sc scope N0 tns caps=true):COk X scope caps:=by
 subst dJ
 subst dQ
 unfold DI at ok
 simp only[Bool.and_eq_true,List.all_eq_true,beq_iff_eq,Bool.or_eq_true,Bool.not_eq_true',beq_eq_false_iff_ne] at ok
 exact⟨ok.1.1.1.1,ok.1.1.1.2,λy hy e=>(ok.1.1.2 y hy).resolve_left (absurd e),λy hy e=>(ok.1.2 y hy).resolve_left (absurd e),ok.2⟩
section
variable {fp:List Addr}{cl:List (Str×Addr)}{C:Addr}{h₁:Heap}
def Ph (ok:COk X scope caps)(I:Inv X aa U H s)(hf:∀b∈fp,DZ X aa H b)(ah:∀b∈fp,b<s.heap.objs.size)
  (am:∀x c,cl.lookup x=some c->X.env.cells.lookup x=some c)(aK:∀x,(x,NameKind.free)∈scope.names->∃c,cl.lookup x=some c)(hC:s.heap.objs.size<C):(X.comp N scope cl C s H fp E).Ok:=
 ⟨I.ok.mod,ok.kind,I.ok.glob,I.ok.blt,Nat.le_of_lt hC,λx y c h1 h2=>I.ok.inj x y c (am x c h1) (am y c h2),λx hx=>aK x (hx.elim (λz=>J9 ok.cell z (.inl rfl)) λz=>J9 ok.cell z (.inr rfl)),(λx c hx=>by cases hx),I.ok.hd,I.ok.frames, .inl rfl,
  λb hb=>⟨Nat.ne_of_lt (Nat.lt_trans (ah b hb) hC),λx c e=>(hf b hb).2.2.2.2.1 x c (am x c e)⟩,I.bs,Nat.le_trans I.ok.bsz I.sz,λb o e hb=>(hf b hb).2.2.2.1.elim (I.ok.noex b o e) λz=>absurd (Nat.lt_of_lt_of_le (Heap.lt_size e) (Nat.le_trans I.ok.bsz z)) (Nat.lt_irrefl _),
  λb hb hz=>(List.mem_cons.mp (I.stkSub b hz)).elim (hf b hb).2.1 (hf b hb).2.2.1,I.stack,I.stkFree⟩
def Nq (eW:COk X scope caps)(hn:tns.length=n)(ok:(X.comp (tns++caps.map (·.2)) scope cl C s H fp E).Ok)(I:Inv X aa U H s)
  (am:∀x c,cl.lookup x=some c->X.env.cells.lookup x=some c)(aK:∀x,(x,NameKind.free)∈scope.names->∃c,cl.lookup x=some c)(hC:s.heap.objs.size<C)(dH:h₁.Ns C λ_=>none)(bE:∀b o,s.heap.get? b=some o->h₁.get? b=some o){tk:Nat}:
  Inv (X.comp (tns++caps.map (·.2)) scope cl C s H fp E) [] (X5 n caps U) H {s with heap:=h₁,toks:=tk}:=by
 refine⟨ok,rfl,I.bare,Un.kept bE,⟨_,dH,λi x v e1 e2 _=>?_⟩,λx c e=>(I.cell x c (am x c e)).elim λv z=>z.elim λo z=>⟨v,o,bE _ _ z.1,z.2⟩,I.hok.fresh (Nat.le_of_lt hC),λx c e=>I.freeC x c (am x c e),λp hp=>DF (M:=Addr×Obj) hp,I.hok.kept bE,by simp[X5,hn]⟩
 obtain⟨hi,p,hp,hσ⟩:=UP e2
 have gN:(tns++caps.map (·.2))[i]?=some x:=e1
 rw[List.getElem?_append_right (hn▸hi),hn,List.getElem?_map,hp] at gN
 cases Option.some.inj gN
 have p5:=eW.caps p (List.mem_of_getElem? hp)
 obtain⟨m,hm,hl⟩:=I.loc
 obtain⟨u,r,l⟩:=hl p.1 p.2 v p5.1.1 hσ (.inr (.inl p5.1.2))
 refine⟨u,r, .inr ?_⟩
 rcases l with⟨k,_⟩ | ⟨k,c,e,z⟩
 ·cases p5.1.2.symm.trans k
 ·obtain⟨c',e'⟩:=aK p.2 (mem_of_lookup p5.2)
  cases e.symm.trans (am _ _ e')
  exact⟨Q5 (env:=X.env) p5.2,c,e',z.elim λo z=>⟨o,bE _ _ z.1,z.2⟩⟩
variable {J:It}{it:Addr}{tn:Nat->Heap->Prop}{Q:V->Hp->Prop}{RR:Value->Addr->Result->Shared->Prop}{W:Nat->Nat->List V->Hp->Prop}{m0:Nat}
def SN (ok:COk X scope caps)(hc:X.calm=true)(hn:tns.length=n)(hG:VW n g)
  (hb:∀cl C s H ex E,PG (X.comp (tns++caps.map (·.2)) scope cl C s H ex E) tg g/\PTs (X.comp (tns++caps.map (·.2)) scope cl C s H ex E) bf tt/\PE (X.comp (tns++caps.map (·.2)) scope cl C s H ex E) bc te)
  (I:Inv X aa U H s)(T:Turn X.prog X.w X.K tg J fp it tn)(t0:tn 0 s.heap)(hf:∀b∈fp,DZ X aa H b)
  (am:∀x c,cl.lookup x=some c->X.env.cells.lookup x=some c)(aK:∀x,(x,NameKind.free)∈scope.names->∃c,cl.lookup x=some c)
  (w0:W 0 m0 [] H)(turn:N4 g tt te (X5 n caps U) Q J W)
  (ja:∀D C ys H3 s',CompEnd X aa U H3 D C ys s'->Q (.ref D) (upd H3 D (.lst ys))->RR (.ref D) C (.ok .next) s')
  (hC:s.heap.objs.size<C)(dH:h₁.Ns C λ_=>none)(bE:∀b o,s.heap.get? b=some o->h₁.get? b=some o)(dR:h₁.get? s.heap.objs.size=some (lob [] 0)){tk:Nat}:
  codeAny (model X.prog X.w) X.A (.compStart (.ListComp bc [⟨tg,iter,bf,0⟩] scope pos) 0 (.ref it) (.ref s.heap.objs.size) (compEnvC scope cl C X.env)) (RR (.ref s.heap.objs.size) C) {s with heap:=h₁,toks:=tk}:=by
 have ah:∀b∈fp,b<s.heap.objs.size:=λb hb=>(T.obj _ _ t0 b hb).elim λo e=>Heap.lt_size e.1
 have okY:∀E,(X.comp (tns++caps.map (·.2)) scope cl C s H fp E).Ok:=λE=>Ph ok I hf ah am aK hC
 have t1:tn 0 h₁:=T.keep _ _ _ t0 λb _ o e=>bE b o e
 have df:∀tk,codeAny (model X.prog X.w) X.A (.compLoop (.ListComp bc [⟨tg,iter,bf,0⟩] scope pos) 0 (.ref it) (.ref s.heap.objs.size) (compEnvC scope cl C X.env)) (RR (.ref s.heap.objs.size) C) {s with heap:=h₁,toks:=tk}:=λtk=>
  have z:=hb cl C s H fp (notedBy (model X.prog X.w) X.A (compEnvC scope cl C X.env) λe s'=>RR (.ref s.heap.objs.size) C (.error e) s')
  Gb (Y:=X.comp (tns++caps.map (·.2)) scope cl C s H fp _) rfl T hG z.1 z.2.1 z.2.2
   ⟨hc,rfl,Nat.ne_of_lt hC,λhz=>(I.stack.mem hz).2.elim λo ho=>absurd (Heap.lt_size ho.1) (Nat.lt_irrefl _),Nat.le_refl _,λx c e=>(I.cell x c (am x c e)).elim λv z=>Nat.ne_of_lt z.lt,λb hb=>Nat.ne_of_lt (ah b hb),
    λb hb H' h'=>⟨h',Nat.ne_of_lt (Nat.lt_trans (ah b hb) hC),(okY λ_ _=>True).exfs b hb, .inl hb,λx c e=>(hf b hb).2.2.2.2.1 x c (am x c e),λp hp=>DF (M:=Addr×Obj) hp⟩⟩
   (λj v e=>(UP e).1) turn (λys its k H3 s4 I4 rv hz q=>ja _ C ys H3 s4 (EG I hf (Nat.le_refl _) hC I4 I4.os I4.base I4.hok rfl rv hz) q)
   (.mk 0 H [] [] 0 ⟨Nq ok hn (okY _) I am aK hC dH bE,t1,λb hb=>(hf b hb).1,dR,I.hok.fresh (Nat.le_refl _)⟩ .nil w0)
 exact codeAny_compStart_list (df _) (T.self _ 0 _ _ _ t1 (df _))
def K2 (ok:COk X scope caps)(hc:X.calm=true)(hn:tns.length=n)(hG:VW n g)
  (hb:∀cl C s H ex E,PG (X.comp (tns++caps.map (·.2)) scope cl C s H ex E) tg g/\PTs (X.comp (tns++caps.map (·.2)) scope cl C s H ex E) bf tt/\PE (X.comp (tns++caps.map (·.2)) scope cl C s H ex E) bc te)
  (h:PIE X aa U tg (λJ H1=>Mg n caps g tt te U Q J H1) gH s)
  (am:∀x c,cl.lookup x=some c->X.env.cells.lookup x=some c)(aK:∀x,(x,NameKind.free)∈scope.names->∃c,cl.lookup x=some c)
  (ja:∀D C ys H3 s',CompEnd X aa U H3 D C ys s'->Q (.ref D) (upd H3 D (.lst ys))->RR (.ref D) C (.ok .next) s'):
  qP X bc tg iter bf scope pos gH cl RR E s:=by
 obtain⟨it,fp,tn,J,H',rfl,I,T,t0,hf,W,⟨m0,w0⟩,turn⟩:=h
 refine wpAny_newObj_type (wpAny_newFunctionEnv ok.cell (by intro y hy;simp at hy) (λh₁ eX dh=>?_) ok.kind)
 have hs:∀o,(s.heap.push o).objs.size=s.heap.objs.size+1:=λo=>Heap.size_push ..
 exact SN ok hc hn hG hb I T t0 hf am aK w0 turn ja (Nat.lt_of_lt_of_eq (Nat.lt_succ_self _) (hs _).symm) eX
  (λb o e=>dh.extBut b o (Nat.ne_of_lt (Nat.lt_trans (Heap.lt_size e) (Nat.lt_of_lt_of_eq (Nat.lt_succ_self _) (hs _).symm))) (Heap.get?_push_of_some _ (Heap.get?_push_of_some _ e)))
  (dh.extBut _ _ (Nat.ne_of_lt (Nat.lt_of_lt_of_eq (Nat.lt_succ_self _) (hs _).symm)) (Heap.get?_push_of_some _ (Heap.get?_push_size _ rfl)))
end
def RM (sc:Scope)(N0:List Str)(tns:List Str)(caps:List (Nat×Str))(hc:X.calm=true)(hi:PI X tg iter wi)(hG:VW tns.length g)
  (hb:∀cl C s H ex E,PG (X.comp (tns++caps.map (·.2)) scope cl C s H ex E) tg g/\PTs (X.comp (tns++caps.map (·.2)) scope cl C s H ex E) bf tt/\PE (X.comp (tns++caps.map (·.2)) scope cl C s H ex E) bc te)
  (dJ:X.env.scope=sc:=by rfl)(dQ:X.N=N0:=by rfl)(ok:DI sc scope N0 tns caps=true:=by decide+kernel)
  (hs:∀x,foldedSetIterable iter X.env x=pure x:=by intro _;rfl):
  PE X (.ListComp bc [⟨tg,iter,bf,0⟩] scope pos) (F1 tns.length caps wi g tt te):=by
 intro aa s U H Q I h
 have eW:=COk.of dJ dQ ok
 obtain⟨cl,jb,am,aK⟩:=Cq (scope:=scope) (env:=X.env) λx hx fK=>I.ok.has x.1 (.inl (eW.free x hx fK))
 rw[eval_ListComp]
 exact wpAny_comprehension_free (use:=none) rfl hs jb eW.kind eW.loc (thn (hi aa s U H _ I h) λxv s₁ h₁=>thn h₁ λgH s₂ h₂=>
  K2 (RR:=λacc C=>compPost (model X.prog X.w) X.A X.xe none (EP X aa U Q) acc C) eW hc rfl hG hb h₂ am aK λD C ys H3 s' ce q=>ce.ns.elim λmm dH=>
   ⟨mm,dH,λh' dP=>⟨.ref D,_,ce.inv.turned (t':=s'.toks) (λb o eD e=>(dP.extBut b o eD e)) ce.fp.1 ce.fp.2.1 ce.fp.2.2.2.1 ce.fp.2.2.2.2.1 ce.fp.2.2.2.2.2,rfl,q⟩⟩)
def J0 (j:Nat)(sc:Scope)(N0:List Str)(tns:List Str)(caps:List (Nat×Str))(hc:X.calm=true)(hN:X.N.Nodup)(hj:X.N[j]?=some x)(hx:X.env.scope.names.lookup x=some .local)(hi:PI X tg iter wi)(hG:VW tns.length g)
  (hb:∀cl C s H ex E,PG (X.comp (tns++caps.map (·.2)) scope cl C s H ex E) tg g/\PTs (X.comp (tns++caps.map (·.2)) scope cl C s H ex E) bf tt/\PE (X.comp (tns++caps.map (·.2)) scope cl C s H ex E) bc te)
  (dJ:X.env.scope=sc:=by rfl)(dQ:X.N=N0:=by rfl)(ok:DI sc scope N0 tns caps=true:=by decide+kernel)
  (hsw:swapsWith (.ListComp bc [⟨tg,iter,bf,0⟩] scope pos) (some (.Name x px)) spos.line X.env=pure true:=by rfl)
  (hs:∀x,foldedSetIterable iter X.env x=pure x:=by intro _;rfl):
  PS X (.Assign [.Name x px] (.ListComp bc [⟨tg,iter,bf,0⟩] scope pos) spos) (BG (F1 tns.length caps wi g tt te) (YI j)):=by
 intro aa s U H D I h
 have eW:=COk.of dJ dQ ok
 obtain⟨cl,jb,am,aK⟩:=Cq (scope:=scope) (env:=X.env) λx hx fK=>I.ok.has x.1 (.inl (eW.free x hx fK))
 rw[exec_Assign_Name_used _ _ _ _ hsw]
 refine wpAny_bind (wpAny_standAt (wpAny_bind ?_))
 show wpAny _ _ (do let _ ←comprehension (.ListComp bc [⟨tg,iter,bf,0⟩] scope pos) scope X.env _ (newList []) false (eval iter X.env) (some (assign (.Name x px) X.env))) _ _ s
 refine wpAny_bind (thn (wpAny_comprehension_free (use:=some (assign (.Name x px) X.env)) (Q:=λ_ s'=>SP X aa D .next s') rfl hs jb eW.kind eW.loc
  (thn (hi aa s U H _ I h) λxv s₁ h₁=>thn h₁ λgH s₂ h₂=>?_)) λ_ s' hq=>wpAny_pure (wpAny_pure hq))
 refine K2 (Q:=λv H1=>YI j v U H1 D.nx) (RR:=λacc C=>compPost (model X.prog X.w) X.A X.xe (some (assign (.Name x px) X.env)) (λ_ s'=>SP X aa D .next s') acc C) eW hc rfl hG hb h₂ am aK ?_
 intro DD C ys H3 s' ce q
 obtain⟨mm,dH⟩:=ce.ns
 obtain⟨c0,c1,c2,c3,c4,c5⟩:=ce.fp
 show wpAny _ _ (assign (.Name x px) X.env (.ref DD)) _ _ _
 refine wpAny_assign_Name (Dx ce.inv hN hj (.inl hx) (v:=.ref DD) rfl (λs2 I2 chg=>?_) (.inr hx))
 obtain⟨c,hsb,hcc⟩:=chg
 have hCc:C≠c:=by
  rcases hcc with z |z
  ·rw[z];exact c1
  ·exact λe=>c4 x c z e.symm
 refine⟨mm,?_,λh' dP=>?_⟩
 ·obtain⟨o,es,ep,ho,r⟩:=dH
  exact⟨o,es,ep,(hsb.2 C hCc).trans ho,r⟩
 ·exact⟨_,_,I2.turned (t':=s2.toks) (λb o eD e=>(dP.extBut b o eD e)) c0 c1 c3 c4 c5,q⟩
end
section
variable {g:TG}{tt:TT}{Q:V->Hp->Prop}
def HY (Pv:Nat->List V->Hp->Prop)(h0:Pv 0 [] H)(hl:∀i ys H,i<=xs.length->Pv i ys H->SqL K H a xs/\ys.length<=sizeLine)
  (hs:∀i x ys H,xs[i]?=some x->Pv i ys H->g x (X5 n caps U) H λσ4 H4=>tt σ4 H4 λc H5=>if c=true then te σ4 H5 λv H6=>Pv (i+1) (ys++[v]) H6 else Pv (i+1) ys H5)
  (hd:∀ys H p,Pv xs.length ys H->H p=none->Q (.ref p) (upd H p (.lst ys))):
  Mg n caps g tt te U Q (Itl K a) H:=by
 refine⟨λi m ys H=>m=xs.length-i/\i<=xs.length/\Pv i ys H,⟨xs.length,by simp,Nat.zero_le _,h0⟩,?_⟩
 rintro i m ys H2 ⟨rfl,hi,p⟩
 obtain⟨q,hz⟩:=hl i ys H2 hi p
 refine⟨hz,?_⟩
 by_cases ah:i<xs.length
 ·refine .inr ⟨⟨xs,xs[i],q,by simp[ah]⟩,Pv (i+1),λys' H' p'=>⟨xs.length-(i+1),by(clear p' hz q p hi hd hs hl h0;omega),rfl,ah,p'⟩,λx H' y=>?_⟩
  obtain⟨e,y⟩:=y
  subst e
  exact hs i x ys _ (y xs q) p
 ·have e:i=xs.length:=by lia
  subst e
  exact .inl ⟨⟨xs,q,Nat.le_refl _⟩,λp' di=>hd ys H2 p' p di⟩
end
section
def Ca (K:W.Frag):List V->Hp->VK->Prop:=λxs H Q=>∃ p ys,xs=[.ref p]/\(SqL K H p ys∨SqT K H p ys)/\∀l,H l=none->Q (.ref l) (upd H l (.lst ys))
def Gj (K:W.Frag):List V->Hp->VK->Prop:=λxs H Q=>∃ p ys,xs=[.ref p]/\(SqL K H p ys∨SqT K H p ys)/\Q (.int ys.length) H
def QM (K:W.Frag)(h:X.K=K):ZM X (.type "list") (Ca K):=by subst h;exact DH
def GZ (K:W.Frag)(h:X.K=K):ZM X (.builtin "len") (Gj K):=by subst h;exact FW
def BS (K:W.Frag)(h:X.K=K):IxR X (BC K):=by subst h;exact SX
def RI (K:W.Frag)(h:X.K=K):IxR X (Uy K):=by subst h;exact WH
def Zq (K:W.Frag)(h:X.K=K):SlR X (TZ K):=by subst h;exact Rb
def GF (K:W.Frag)(h:X.K=K)(hc:X.calm=true)(hh:PGs X es t)
  (hn:(assignEach es X.env).length=n:=by rfl)(gj:(assignEach es X.env).findIdx? (·.1)=none:=by rfl):PG X (.Tuple es k pos) (Oq K n t):=by subst h;exact ZJ hc hh hn gj
end
structure Fn (P:Program)(w:World)(K:W.Frag)(mg:Str->Option Value)(base:Heap)(k:Nat)(x:Str)(ps:List Str)(sp:Sp):Prop where
 ex:∃f fd,FnOk P w K mg base CX0 k f fd ps sp/\Ce K fd ps []/\W.keepIn K (.ref f)=true/\mg x=some (.ref f)
section
variable {sp:Sp}{t:TA}{p:Pos}
def TX (G:Fn X.prog X.w X.K X.mg X.base k x ps sp)(hr:Room j X.A)(hj:k<=j)(ha:PA X (e::es) t)(hg:Gl X x:=by rfl)(fG:(x==("__debug__":Str))=false:=by decide)
  (he:starEach (e::es) X.env=(false,eval e X.env)::starEach es X.env:=by rfl)(hpl:(backTo pos (starEach es X.env)).any (·.1)=false:=by rfl):
  PE X (.Call (.Name x p) (e::es) [] pos) (Q6 sp [] E0 t):=by
 obtain⟨f,fd,F,b,kp,m⟩:=G.ex
 exact Sx F (hr.mono hj) hg m kp b .nil Av ha fG he hpl
end
def Def (K:W.Frag)(mg:Str->Option Value)(x:Str)(st:Stmt)(ps:List Str):Prop:=∃ f fd,Fun K x x st f fd/\Ce K fd ps []/\mg x=some (.ref f)
def Vh {st:Stmt}{sp:Sp}(D:Def K mg x st ps)(S:FnScope N ps (Xg st))(len:∀vs H Q E,sp vs H Q E->vs.length=ps.length)
  (cR:∀(f:Addr) (aj:Value) (A:Around) (outer:List Env) (s:Shared) (H:Hp) (vs:List V) (Q:VK) (E:XK),Room k (A.deeper (envOfC x (Xg st) s.heap.objs.size f aj))->sp vs H Q E->
   ∃t,PSs (Hw CX0 P w K mg base N x (Xg st) f aj A outer s H E).nox (X7 st) t/\t {nx:=λ_ H'=>Q .non H',rt:=Q} (Kp N vs) H):Fn P w K mg base (k+1) x ps sp:=by
 obtain⟨f,fd,F,b,m⟩:=D
 exact⟨f,fd,F.ok S len (cR f),b,F.kp,m⟩
def Hi {a d:Nat}(h:d<=8)(hu:a+8<c):a+d<c:=by omega
def Xv (h:H p=none)(o:HO):Xp H (upd H p o):=λb u q=>by rw[XH (XQ q h)];exact q
def Xp.seqT (e:Xp H H')(h:SqT K H a xs):SqT K H' a xs:=by
 rcases h with(h | ⟨o,h⟩) |h
 ·exact .inl (.inl (e _ _ h))
 ·exact .inl (.inr ⟨o,e _ _ h⟩)
 ·exact .inr h
def hu8 (hr:Room k A):A.units+8<cLine:=Nat.lt_of_le_of_lt (Nat.add_le_add_left (by decide:8<=64) _) hr.units
abbrev Enc (M:Type):=W.Frag->Hp->V->M->Prop
def Xf:Enc Int:=λ_ _ v i=>v= .int i
def rL (r:Enc M):Enc (List M):=λK H v as=>∃ a xs,v= .ref a/\SqL K H a xs/\Paired (r K H) xs as
def rT2 (r:Enc M)(q:Enc L):Enc (M×L):=λK H v p=>∃ a x y,v= .ref a/\SqT K H a [x,y]/\r K H x p.1/\q K H y p.2
def Paired.getL:∀{l:List M}{m:List L}{i:Nat}{a:M},Paired F l m->l[i]?=some a->∃b,m[i]?=some b/\F a b
 |_,_,_,_, .nil,e=>by simp at e
 |_,_,0,_, .cons r _,e=>by simp at e;subst e;exact⟨_,rfl,r⟩
 |_,_,i+1,a, .cons _ t,e=>by
  obtain⟨b,h1,h2⟩:=Paired.getL (i:=i) (a:=a) t (by simpa using e)
  exact⟨b,by simpa using h1,h2⟩
def Paired.getR:∀{l:List M}{m:List L}{i:Nat}{b:L},Paired F l m->m[i]?=some b->∃a,l[i]?=some a/\F a b
 |_,_,_,_, .nil,e=>by simp at e
 |_,_,0,_, .cons r _,e=>by simp at e;subst e;exact⟨_,rfl,r⟩
 |_,_,i+1,b, .cons _ t,e=>by
  obtain⟨a,h1,h2⟩:=Paired.getR (i:=i) (b:=b) t (by simpa using e)
  exact⟨a,by simpa using h1,h2⟩
def Paired.len (h:Paired F l m):l.length=m.length:=Paired.length h
def Paired.app:∀{l l':List M}{m m':List L},Paired F l m->Paired F l' m'->Paired F (l++l') (m++m'):=λp h=>by
 induction p with
 |nil=>exact h
 |cons r _ ih=>exact .cons r ih
def Cu (ns:List Int):∀{K:W.Frag}{H:Hp},Paired (Xf K H) (ns.map V.int) ns:=by
 intro K H
 induction ns with
 |nil=>exact .nil
 |cons n r ih=>exact .cons rfl ih
def Qz:∀{xs:List V}{ns:List Int}{K:W.Frag}{H:Hp},Paired (Xf K H) xs ns->xs=ns.map V.int
 |_,_,_,_, .nil=>rfl
 |_,_,_,_, .cons r t=>by
  have r':_=V.int _:=r
  rw[r',Qz t];rfl
structure EqOk {M:Type}[DecidableEq M](r:Enc M)(d:Nat):Prop where
 uniq:∀{X:Cx}{aa:List (Addr×Obj)}{U:St}{H:Hp}{s:Shared}{x:V}{a b:M},Inv X aa U H s->r X.K H x a->r X.K H x b->a=b
 eq:∀{X:Cx}{aa:List (Addr×Obj)}{U:St}{H:Hp}{s:Shared}{x y:V}{v u:Value}{a b:M}{A:Around},Inv X aa U H s->XW x v->XW y u->r X.K H x a->r X.K H y b->A.units+d<cLine->SeqAt.EqAt A s v u (decide (a=b))
 rc:∀{X:Cx}{aa:List (Addr×Obj)}{U:St}{H:Hp}{s:Shared}{x y:V}{v u:Value}{a b:M}{A:Around},Inv X aa U H s->XW x v->XW y u->r X.K H x a->r X.K H y b->A.units+d<cLine->SeqAt.RcAt A s v u (decide (a=b))
 ne:∀{X:Cx}{aa:List (Addr×Obj)}{U:St}{H:Hp}{s:Shared}{x y:V}{v u:Value}{a b:M}{A:Around},Inv X aa U H s->XW x v->XW y u->r X.K H x a->r X.K H y b->A.units+d<cLine->SeqAt.RcNeAt A s v u (!decide (a=b))
 keep:∀{K:W.Frag}{H H':Hp}{x:V}{a:M},Xp H H'->r K H x a->r K H' x a
def EqOk.up [DecidableEq M]{r:Enc M}{d e:Nat}(E:EqOk r d)(h:d<=e):EqOk r e:=
 ⟨E.uniq,λI rx ry h1 h2 hu=>E.eq I rx ry h1 h2 (by omega),λI rx ry h1 h2 hu=>E.rc I rx ry h1 h2 (by omega),λI rx ry h1 h2 hu=>E.ne I rx ry h1 h2 (by omega),E.keep⟩
def YM (A:Around):A.in1.units=A.units+1:=rfl
def M0 {a b:Int}:(a==b)=decide (a=b):=by rw[Bool.eq_iff_iff];simp
def eq_int:EqOk Xf 0 where
 uniq:=λ_ h1 h2=>by
  have eY:_=V.int _:=h1
  have ft:_=V.int _:=h2
  rw[eY] at ft;injection ft
 eq:=fun {X aa U H s x y v u a b A} I rx ry h1 h2 _=>by
  have eY:x=V.int a:=h1
  have ft:y=V.int b:=h2
  subst eY ft
  obtain⟨t,rfl⟩:=rx
  obtain⟨t',rfl⟩:=ry
  rw[←M0];exact SeqAt.EqAt.int_int a t b t'
 rc:=fun {X aa U H s x y v u a b A} I rx ry h1 h2 _=>by
  have eY:x=V.int a:=h1
  have ft:y=V.int b:=h2
  subst eY ft
  obtain⟨t,rfl⟩:=rx
  obtain⟨t',rfl⟩:=ry
  rw[←M0];exact SeqAt.RcAt.int_int a t b t'
 ne:=fun {X aa U H s x y v u a b A} I rx ry h1 h2 _=>by
  have eY:x=V.int a:=h1
  have ft:y=V.int b:=h2
  subst eY ft
  obtain⟨t,rfl⟩:=rx
  obtain⟨t',rfl⟩:=ry
  rw[←M0];exact SeqAt.RcNeAt.int_int a t b t'
 keep:=λ_ h=>h
def HS [DecidableEq M](h:as.length=bs.length):(List.range as.length).all (λj=>decide (as[j]?=bs[j]?))=decide (as=bs):=by
 rw[Bool.eq_iff_iff]
 simp only[List.all_eq_true,List.mem_range,decide_eq_true_eq]
 constructor
 ·intro hh
  apply List.ext_getElem?
  intro i
  by_cases hi:i<as.length
  ·exact hh i hi
  ·rw[List.getElem?_eq_none (by omega),List.getElem?_eq_none (by omega)]
 ·rintro rfl;intros;rfl
def Paired.uniq (hu:∀a b c,F a b->F a c->b=c):∀{l:List M}{m m':List L},Paired F l m->Paired F l m'->m=m':=fun {l m m'} p=>by
 induction p generalizing m' with
 |nil=>intro q;cases q;rfl
 |cons r _ ih=>intro q;cases q with |cons r' t'=>rw[hu _ _ _ r r',ih t']
def Paired.imp2 (h:∀a b,F a b->G a b):∀{l:List M}{m:List L},Paired F l m->Paired G l m:=λp=>by
 induction p with
 |nil=>exact .nil
 |cons r _ ih=>exact .cons (h _ _ r) ih
section
variable [DecidableEq M]{r:Enc M}{d:Nat}
def K0 (E:EqOk r d)(I:Inv X aa U H s)(hu:A.units+(d+1)<cLine)
  (r1:X0 xs its)(r2:X0 ys aA)(p1:Paired (r X.K H) xs as)(p2:Paired (r X.K H) ys bs):
  ∀j (h1:j<its.toArray.size) (h2:j<aA.toArray.size),SeqAt.EqAt A.in1 s its.toArray[j] aA.toArray[j] (decide (as[j]?=bs[j]?)):=by
 intro j h1 h2
 have eY:j<its.length:=by simpa using h1
 have ft:j<aA.length:=by simpa using h2
 obtain⟨x,ex,rx⟩:=Paired.getR (i:=j) (b:=its[j]) r1 (by simp[eY])
 obtain⟨y,ey,ry⟩:=Paired.getR (i:=j) (b:=aA[j]) r2 (by simp[ft])
 obtain⟨a,ea,ra⟩:=Paired.getL p1 ex
 obtain⟨b,eb,rb⟩:=Paired.getL p2 ey
 have:=E.eq (A:=A.in1) I rx ry ra rb (by rw[YM];omega)
 rw[ea,eb]
 simpa using this
def MK (E:EqOk r d):EqOk (rL r) (d+1):=by
 have un:∀{X:Cx}{aa:List (Addr×Obj)}{U:St}{H:Hp}{s:Shared}{x:V}{a b:List M},Inv X aa U H s->rL r X.K H x a->rL r X.K H x b->a=b:=by
  intro X aa U H s x as bs I h1 h2
  obtain⟨a,xs,rfl,q1,p1⟩:=h1
  obtain⟨b,ys,e,q2,p2⟩:=h2
  cases e
  cases I.list_inj q1 q2
  exact Paired.uniq (F:=r X.K H) (λ_ _ _ z z'=>E.uniq I z z') p1 p2
 have rc:∀{X:Cx}{aa:List (Addr×Obj)}{U:St}{H:Hp}{s:Shared}{x y:V}{v u:Value}{a b:List M}{A:Around},Inv X aa U H s->XW x v->XW y u->rL r X.K H x a->rL r X.K H y b->A.units+(d+1)<cLine->SeqAt.RcAt A s v u (decide (a=b)):=by
  intro X aa U H s x y v u as bs A I rx ry h1 h2 hu
  obtain⟨a,xs,rfl,q1,p1⟩:=h1
  obtain⟨b,ys,rfl,q2,p2⟩:=h2
  cases rx;cases ry
  obtain⟨its,r1,l1,_⟩:=I.list q1
  obtain⟨aA,r2,l2,_⟩:=I.list q2
  have n1:=r1.length
  have n2:=r2.length
  have m1:=Paired.len p1
  have m2:=Paired.len p2
  by_cases hl:as.length=bs.length
  ·have:=SeqAt.RcAt.lists (A:=A) (e:=λj=>decide (as[j]?=bs[j]?)) l1.isList l2.isList (by simp only[List.size_toArray];omega) (by omega) (K0 E I hu r1 r2 p1 p2)
   rw[show its.toArray.size=as.length by simp only[List.size_toArray];omega,HS hl] at this
   exact this
  ·rw[decide_eq_false (λe=>hl (congrArg List.length e))]
   exact SeqAt.RcAt.lists_lengths l1.isList l2.isList (by simp only[List.size_toArray,bne_iff_ne];omega) (by omega)
 refine⟨un,?_,rc,?_,?_⟩
 ·intro X aa U H s x y v u as bs A I rx ry h1 h2 hu
  obtain⟨a,xs,rfl,q1,p1⟩:=id h1
  obtain⟨b,ys,rfl,q2,p2⟩:=id h2
  have R:=rc (A:=A) I rx ry h1 h2 hu
  cases rx;cases ry
  by_cases e:a=b
  ·subst e
   rw[decide_eq_true (un I h1 h2)]
   exact SeqAt.EqAt.same _
  ·exact SeqAt.EqAt.of_refs e R
 ·intro X aa U H s x y v u as bs A I rx ry h1 h2 hu
  obtain⟨a,xs,rfl,q1,p1⟩:=h1
  obtain⟨b,ys,rfl,q2,p2⟩:=h2
  cases rx;cases ry
  obtain⟨its,r1,l1,_⟩:=I.list q1
  obtain⟨aA,r2,l2,_⟩:=I.list q2
  have n1:=r1.length
  have n2:=r2.length
  have m1:=Paired.len p1
  have m2:=Paired.len p2
  by_cases hl:as.length=bs.length
  ·have:=SeqAt.RcNeAt.lists (A:=A) (e:=λj=>decide (as[j]?=bs[j]?)) l1.isList l2.isList (by simp only[List.size_toArray];omega) (by omega) (K0 E I hu r1 r2 p1 p2)
   rw[show its.toArray.size=as.length by simp only[List.size_toArray];omega,HS hl] at this
   exact this
  ·rw[decide_eq_false (λe=>hl (congrArg List.length e))]
   exact SeqAt.RcNeAt.lists_lengths l1.isList l2.isList (by simp only[List.size_toArray,bne_iff_ne];omega) (by omega)
 ·intro K H H' x as e h
  obtain⟨a,xs,rfl,q1,p1⟩:=h
  exact⟨a,xs,rfl,e.seq q1,Paired.imp2 (λ_ _ z=>E.keep e z) p1⟩
end
section
variable [DecidableEq M][DecidableEq L]{r:Enc M}{q:Enc L}{d:Nat}
def BQ {a1 a2:M}{b1 b2:L}:(decide (a1=a2)&&decide (b1=b2))=decide ((a1,b1)=(a2,b2)):=by
 rw[Bool.eq_iff_iff];simp
def Sh (E:EqOk r d)(F:EqOk q d):EqOk (rT2 r q) (d+1):=by
 have un:∀{X:Cx}{aa:List (Addr×Obj)}{U:St}{H:Hp}{s:Shared}{x:V}{a b:M×L},Inv X aa U H s->rT2 r q X.K H x a->rT2 r q X.K H x b->a=b:=by
  rintro X aa U H s x ⟨a1,a2⟩ ⟨b1,b2⟩ I h1 h2
  obtain⟨a,x1,x2,rfl,q1,p1,p2⟩:=h1
  obtain⟨b,y1,y2,e,q2,p3,p4⟩:=h2
  cases e
  cases I.tuple_inj q1 q2
  rw[show a1=b1 from E.uniq I p1 p3,show a2=b2 from F.uniq I p2 p4]
 have its:∀{X:Cx}{aa:List (Addr×Obj)}{U:St}{H:Hp}{s:Shared}{x1 x2 y1 y2:V}{u1 u2 w1 w2:Value}{a b:M×L}{A:Around},Inv X aa U H s->XW x1 u1->XW x2 u2->XW y1 w1->XW y2 w2->
   r X.K H x1 a.1->q X.K H x2 a.2->r X.K H y1 b.1->q X.K H y2 b.2->A.units+(d+1)<cLine->
   ∀j (h1:j< [u1,u2].toArray.size) (h2:j< [w1,w2].toArray.size),SeqAt.EqAt A.in1 s [u1,u2].toArray[j] [w1,w2].toArray[j] ((λj=>if j=0 then decide (a.1=b.1) else decide (a.2=b.2)) j):=by
  intro X aa U H s x1 x2 y1 y2 u1 u2 w1 w2 a b A I e1 e2 e3 e4 p1 p2 p3 p4 hu j h1 h2
  have hj:j=0∨j=1:=by
   have eY:j<2:=h1
   omega
  rcases hj with rfl |rfl
  ·exact E.eq (A:=A.in1) I e1 e3 p1 p3 (by rw[YM];omega)
  ·exact F.eq (A:=A.in1) I e2 e4 p2 p4 (by rw[YM];omega)
 have rc:∀{X:Cx}{aa:List (Addr×Obj)}{U:St}{H:Hp}{s:Shared}{x y:V}{v u:Value}{a b:M×L}{A:Around},Inv X aa U H s->XW x v->XW y u->rT2 r q X.K H x a->rT2 r q X.K H y b->A.units+(d+1)<cLine->SeqAt.RcAt A s v u (decide (a=b)):=by
  rintro X aa U H s x y v u ⟨a1,a2⟩ ⟨b1,b2⟩ A I rx ry h1 h2 hu
  obtain⟨a,x1,x2,rfl,q1,p1,p2⟩:=h1
  obtain⟨b,y1,y2,rfl,q2,p3,p4⟩:=h2
  cases rx;cases ry
  obtain⟨i1,r1,l1,_⟩:=I.tuple q1
  obtain⟨i2,r2,l2,_⟩:=I.tuple q2
  obtain⟨u1,u2,rfl,e1,e2⟩:=X0.two r1
  obtain⟨w1,w2,rfl,e3,e4⟩:=X0.two r2
  have:=SeqAt.RcAt.tuples (A:=A) l1 l2 (by omega) (its (a:=(a1,a2)) (b:=(b1,b2)) I e1 e2 e3 e4 p1 p2 p3 p4 hu)
  rw[←BQ]
  simpa[List.range_succ] using this
 refine⟨un,?_,rc,?_,?_⟩
 ·intro X aa U H s x y v u as bs A I rx ry h1 h2 hu
  obtain⟨a,x1,x2,rfl,q1,p1,p2⟩:=id h1
  obtain⟨b,y1,y2,rfl,q2,p3,p4⟩:=id h2
  have R:=rc (A:=A) I rx ry h1 h2 hu
  cases rx;cases ry
  by_cases e:a=b
  ·subst e
   rw[decide_eq_true (un I h1 h2)]
   exact SeqAt.EqAt.same _
  ·exact SeqAt.EqAt.of_refs e R
 ·rintro X aa U H s x y v u ⟨a1,a2⟩ ⟨b1,b2⟩ A I rx ry h1 h2 hu
  obtain⟨a,x1,x2,rfl,q1,p1,p2⟩:=h1
  obtain⟨b,y1,y2,rfl,q2,p3,p4⟩:=h2
  cases rx;cases ry
  obtain⟨i1,r1,l1,_⟩:=I.tuple q1
  obtain⟨i2,r2,l2,_⟩:=I.tuple q2
  obtain⟨u1,u2,rfl,e1,e2⟩:=X0.two r1
  obtain⟨w1,w2,rfl,e3,e4⟩:=X0.two r2
  have:=SeqAt.RcNeAt.tuples (A:=A) l1 l2 (by omega) (its (a:=(a1,a2)) (b:=(b1,b2)) I e1 e2 e3 e4 p1 p2 p3 p4 hu)
  rw[←BQ]
  simpa[List.range_succ] using this
 ·intro K H H' x as e h
  obtain⟨a,x1,x2,rfl,q1,p1,p2⟩:=h
  exact⟨a,x1,x2,rfl,e.seqT q1,E.keep e p1,F.keep e p2⟩
end
section
variable [DecidableEq M]{r:Enc M}{d:Nat}
def WW (K:W.Frag)(r:Enc M):R2:=λx y H Q=>∃ a b,r K H x a/\r K H y b/\Q (.bl (!decide (a=b))) H
def T8 (E:EqOk r d)(hu:X.A.units+d<cLine):OpR X (compareOp .NotEq) (WW X.K r):=by
 intro aa s U H x y v u Q I rx ry h
 obtain⟨a,b,h1,h2,q⟩:=h
 exact E.ne (A:=X.A) I rx ry h1 h2 hu _ _ _ _ ⟨.bl _,H,I,rfl,q⟩
def J8:ZM X (.builtin "isinstance") (λxs H Q=>∃ x n t b,xs=[x, .ty n]/\TyOf X.K H x t/\W.kitOne X.K t (.type n)=some b/\Q (.bl b) H):=by
 intro aa s U H xs us Q I r h
 obtain⟨x,n,t,b,rfl,ty,e,q⟩:=h
 obtain⟨u,v,rfl,ru,rv⟩:=X0.two r
 cases(show v=Value.type n from rv)
 exact LO I ru ty e λtk=>⟨.bl b,H,I.tok tk,rfl,q⟩
def Gv:OpR X (binaryOp .FloorDiv) (rI (λ_ j=>0<j/\j.natAbs.log2<9000) λi j=>.int (i/j)):=opI λi j _ _ _ _ _ hc q=>by
 refine floordiv_int (by omega) ?_ (.inl (PyProof.noPylong_of_log2 hc.2))
 rw[Int.fdiv_eq_ediv_of_nonneg i (by omega)]
 exact q
end
end L2
namespace PySem
open Sem (wp)
section
end
end PySem
namespace L2
open PySem PySem.Spec PyProof.Rows
def Fh:∀{l:List M}{m:List L}{i:Nat}{b:L},Paired F l m->m[i]?=some b->∃a,l[i]?=some a/\F a b
 |_,_,_,_, .nil,e=>by simp at e
 |_,_,0,_, .cons r _,e=>by simp at e;subst e;exact⟨_,rfl,r⟩
 |_,_,i+1,b, .cons _ t,e=>by
  obtain⟨a,h1,h2⟩:=Fh (i:=i) (b:=b) t (by simpa using e)
  exact⟨a,by simpa using h1,h2⟩
section
def AW (K:W.Frag)(te ts:TE):TE:=λU H Q=>te U H λx H1=>ts U H1 λy H2=>y= .int (-1)/\∃a xs,x= .ref a/\SqL K H2 a xs/\∀p,H2 p=none->Q (.ref p) (upd H2 p (.lst xs.reverse))
def DO {st:Expr}{ts:TE}{p2:Pos}(K:W.Frag)(hK:X.K=K)(he:PE X e te)(gj:PE X st ts):PE X (.Subscript e (.Slice none none (some st) p2) pos) (AW K te ts):=by
 intro aa s U H Q I h
 subst hK
 refine Subscript_ (thn (he aa s U H _ I h) λv s1 r9=>?_)
 obtain⟨x,H1,I1,r1,q1⟩:=r9
 refine wpAny_Slice ?_
 rw[evalPart_none]
 refine wpAny_pure ?_
 refine wpAny_pure ?_
 rw[evalPart_some]
 refine thn (gj aa s1 U H1 _ I1 q1) λvk s3 r9=>?_
 obtain⟨y,H3,I3,r3,ey,a,xs,ex,hx,q⟩:=r9
 subst ey ex
 cases r1
 obtain⟨t,rfl⟩:=r3
 have I4:Inv X aa U H3 {s3 with heap:=s3.heap.push {cls:=.type "slice",data:=.fields #[.none, .none, .int (-1) t]}}:=I3.kept (t':=s3.toks) λb ob q=>Heap.get?_push_of_some _ q
 obtain⟨its,r,ht,hz⟩:=I4.list hx
 have af:=r.length
 have hg:wpAny (model X.prog X.w) X.A (getItem (.ref a) (.ref s3.heap.objs.size)) (EP X aa U Q) X.xe {s3 with heap:=s3.heap.push {cls:=.type "slice",data:=.fields #[.none, .none, .int (-1) t]}}:=by
  refine wpAny_getItem_list_slice ht.isList (Heap.IsSliceOf.new ..) .none .none (.int (-1) t) (by decide) ?_ (by rw[List.size_toArray];omega)
  rw[PySem.W.krv_pick]
  refine⟨.ref _,_,I4.laid (t':=s3.toks) (o:=.lst xs.reverse) (λb ob q=>Heap.get?_push_of_some _ q) (Nat.le_refl _) ?_,rfl,q _ (I4.hok.fresh (Nat.le_refl _))⟩
  exact⟨by rw[List.length_reverse];exact hz,its.reverse,0,r.reverse,Heap.get?_push_size _ rfl⟩
 show wpAny (model X.prog X.w) X.A (subscriptTail e (.Slice none none (some st) p2) (.ref a) (.ref s3.heap.objs.size)) (EP X aa U Q) X.xe _
 exact tail_any (ops:=[.ref a, .ref s3.heap.objs.size]) ht.isList.typeIs slot_list_getitem.lookup hg (by with_unfolding_all rfl)
def AY (K:W.Frag):List V->Hp->VK->Prop:=λxs H Q=>∃ (a:Addr) (ns:List Int),xs=[.ref a]/\SqL K H a (ns.map V.int)/\Q (.int ns.sum) H
def Hz (hc:X.calm=true):ZM X (.builtin "sum") (AY X.K):=by
 intro aa s U H xs us Q I r h
 obtain⟨a,ns,rfl,hq,q⟩:=h
 obtain⟨u,rfl,ru⟩:=VI r
 cases ru
 obtain⟨its,rv,pl,hz⟩:=I.list hq
 have hi:IntsAre its ns:=EZ rv
 have af:=hi.length
 have ah:a<s.heap.objs.size:=by obtain⟨o,n,ho,_⟩:=pl;exact Heap.lt_size ho
 refine call_sum_walkG ?_
 refine wpAny_pyIter_list pl.isList ?_
 have W:=Walks.list (prog:=X.prog) (w:=X.w) (A:=X.A.in1) (I.ok.hd hc) s.heap.objs.size a (Nat.ne_of_lt ah) its.toArray
 refine⟨s.heap.objs.size,_,_,_,_,_,λi=>ns.getD i 0,rfl,W,⟨⟨_,Heap.get?_push_size _ rfl,rfl,rfl⟩,pl.isList.at λo e=>Heap.get?_push_of_some _ e⟩,λb hb=>?_,λi v hv=>?_,λh' tk t' hk=>?_⟩
 ·rcases List.mem_cons.mp hb with e |hb
  ·rw[e,Heap.size_push];exact Nat.lt_succ_self _
  ·rw[List.mem_singleton.mp hb,Heap.size_push];exact Nat.lt_succ_of_lt ah
 ·have iy:its[i]?=some v:=by simpa using hv
  have hil:i<its.length:=(List.getElem?_eq_some_iff.mp iy).1
  obtain⟨x,ex,rx⟩:=Fh rv iy
  rw[List.getElem?_map] at ex
  cases e:ns[i]? with
  |none=>rw[e] at ex;cases ex
  |some z=>
   rw[e] at ex
   have iu:V.int z=x:=Option.some.inj ex
   subst iu
   obtain⟨t,rfl⟩:=rx
   exact⟨t,by simp[List.getD,e]⟩
 ·have I2:Inv X aa U H {s with heap:=h',toks:=tk}:=I.kept (t':=tk) λb o e=>hk b o (λhm=>by
   rw[List.mem_singleton.mp hm] at e
   exact absurd (Heap.lt_size e) (Nat.lt_irrefl _)) (Heap.get?_push_of_some _ e)
  refine⟨.int ns.sum,H,I2,⟨t',?_⟩,q⟩
  rw[List.size_toArray,af,preSum_getD,List.take_length]
end
section
def Inv.turnLay {t':Nat}{ch:List Addr}{T:Addr}{u:HO}(I:Inv X aa U H s)(k:∀b o,b∉ch->s.heap.get? b=some o->h'.get? b=some o)(hf:∀b∈ch,DZ X aa H b)
  (hp:s.heap.objs.size<=T)(new:YR X.prog X.w (upd H T u) h' T u):Inv X aa U (upd H T u) {s with heap:=h',toks:=t'}:=by
 have hn:H T=none:=I.hok.fresh hp
 have gi:∀b o,H b=some o->b∉ch:=λb o e z=>by rw[(hf b z).1] at e;cases e
 refine I.step (g':=s.gens) (d':=s.drawn) (ch:=ch) (λb hb=>?_) (λb o _ _ hc e _=>k b o hc e) (λb o _ _ hc e _=>⟨o.slots,k b o hc e⟩)
  (λb o _ e n=>by rw[XH (Nat.ne_of_lt (Nat.lt_of_lt_of_le (Heap.lt_size e) hp))];exact n)
  (λb o hc e=>⟨o,k b o hc e⟩) (λb xs e=>by rw[XH (XQ e hn)];exact e) (λb o xs e=>by rw[XH (XQ e hn)];exact e) (λb ps e=>⟨#[],by rw[XH (XQ e hn),e];simp⟩) (λm hm=>?_) (λb v e=>?_) I.bare
 ·obtain⟨f0,f1,f2,f3,f4,f5⟩:=hf b hb
  exact⟨f3,f1,f4,f5⟩
 ·obtain⟨o,es,ep,ho,r⟩:=hm
  exact⟨o,es,ep,k _ o (λz=>(hf _ z).2.1 rfl) ho,r⟩
 ·by_cases hb:b=T
  ·subst hb;rw[X9] at e;cases e;exact new
  ·rw[XH hb] at e
   refine(I.hok b v e).stay (λc o hc q=>k c o ?_ q) (λc q=>by rw[XH (XQ q hn)];exact q) λc xs q=>by rw[XH (XQ q hn)];exact q
   rcases hc with z |z
   ·rw[z];exact gi b v e
   ·exact gi c _ z
end
def Ite (K:W.Frag)(a:Addr):It:=
 ⟨λi H=>∃ xs x,SqL K H a xs/\xs[i]?=some x,λi H y H'=>∃ p x,y= .ref p/\H p=none/\H'=upd H p (.tup [.int (i:Int),x])/\∀xs,SqL K H a xs->xs[i]?=some x,λi H=>∃ xs,SqL K H a xs/\xs.length<=i⟩
def Il (a e it:Addr)(h1:e≠it)(h2:a≠e)(h3:a≠it):
  Turn P w K (.Tuple elts k pos) (Ite K a) [e,it] e (λi h=>(∃bE,IsEnum h e it (i:Int) bE)/\h.IsListIter it a i) where
 mem:=by simp
 obj:=λi h st b hb=>by
  obtain⟨⟨bE,eo⟩,o,io,c,d⟩:=st
  rcases List.mem_cons.mp hb with z |z
  ·subst z
   exact⟨_,eo,λv z=>by cases z⟩
  ·have z:=List.mem_singleton.mp z
   subst z
   exact⟨o,io,λv z=>by rw[d] at z;cases z⟩
 keep:=λi h h' st k=>⟨let ⟨bE,eo⟩:=st.1;⟨bE,k e (by simp) _ eo⟩,st.2.at λo q=>k it (by simp) o q⟩
 item:=by
  intro X hP hw hK hc i aa s U H E I hf st hg
  subst hP hw hK
  obtain⟨xs,x,hq,hx⟩:=hg
  obtain⟨its,rv,p,hz⟩:=I.list hq
  obtain⟨u,hu,ru⟩:=rv.get hx
  obtain⟨⟨bE,eo⟩,io⟩:=id st
  have eE:its.toArray[i]?=some u:=by simpa using hu
  have W:=WalksT.enumerate (prog:=X.prog) (w:=X.w) (A:=X.A) (I.ok.hd hc) e it a h1 h2 h3 its.toArray
  refine wpAny_pyNext_enum_item eo io p.isList eE h1 λh' eo' io' tup sz kk=>?_
  have hT:∀b o,s.heap.get? b=some o->s.heap.objs.size≠b:=λb o q z=>absurd (Heap.lt_size q) (by rw[←z];exact Nat.lt_irrefl _)
  have hTe:=hT e _ eo
  have hTi:s.heap.objs.size≠it:=by obtain⟨o,q,_⟩:=io;exact hT it o q
  have ha':h'.IsList a its.toArray:=p.isList.at λo q=>kk a o h2 h3 q
  refine⟨_,rfl,W.go elts k pos i s.heap.objs.size _ _ _ ⟨⟨_,eo'⟩,io',ha',hTe,hTi⟩ λiz fo kk'=>?_⟩
  obtain⟨iZ,io2,_⟩:=fo
  have tup2:=kk' _ _ (by simp[hTe,hTi]) tup
  have k2:∀b o,b∉ [e,it]->s.heap.get? b=some o->iz.get? b=some o:=λb o q1 q=>kk' b o q1 (kk b o (λz=>q1 (by simp[z])) (λz=>q1 (by simp[z])) q)
  refine⟨.ref s.heap.objs.size,upd H s.heap.objs.size (.tup [.int (i:Int),x]),I.turnLay (h':=iz) (t':=s.toks+1) k2 hf (Nat.le_refl _) ⟨by show 2<=sizeLine;decide,[.int (i:Int) s.toks,u], .cons ⟨_,rfl⟩ (.cons ru .nil),⟨_,tup2,⟨rfl,rfl⟩,_,rfl⟩⟩,rfl,
   ⟨_,x,rfl,I.hok.fresh (Nat.le_refl _),rfl,λys hy=>by rw[I.list_inj hy hq];exact hx⟩,⟨by simpa using iZ,io2⟩,λb hb=>?_⟩
  rcases List.mem_cons.mp hb with z |z
  ·rw[z,XH hTe.symm];exact(hf e (by simp)).1
  ·rw[List.mem_singleton.mp z,XH hTi.symm];exact(hf it (by simp)).1
 done:=by
  intro X hP hw hK hc i aa s U H E I hf st hg
  subst hP hw hK
  obtain⟨xs,hq,hx⟩:=hg
  obtain⟨its,rv,p,hz⟩:=I.list hq
  obtain⟨⟨bE,eo⟩,io⟩:=id st
  obtain⟨f0,f1,f2,f3,f4,f5⟩:=hf it (by simp)
  have hl:=rv.length
  exact wpAny_pyNext_enum_end (I.ok.hd hc) eo io p.isList (by simp;omega) λh' eb=>⟨rfl,I.turned (t':=s.toks) (λb o hb q=>eb b o hb q) f0 f1 f3 f4 f5⟩
 self:=by
  intro A i s Q E st h
  obtain⟨⟨bE,eo⟩,io⟩:=st
  exact wpAny_pyIter_enum eo h
section
variable {gO:Pos}
def Wc (K:W.Frag)(tl:TE):TI:=λU H R=>tl U H λx H1=>∃ a,x= .ref a/\(∃xs,SqL K H1 a xs)/\R (Ite K a) H1
def Ks {p:Pos}(hg:Gl X "enumerate")(hm:X.mg "enumerate" =none)(hl:PE X l tl)(hs:starEach [l] X.env=[(false,eval l X.env)]:=by rfl):
  PI X (.Tuple elts k gO) (.Call (.Name "enumerate" p) [l] [] pos) (Wc X.K tl):=by
 intro aa s U H R I h
 refine wpAny_Call_Name_kw (JP I hg hm boot_enumerate ?_)
 refine callWith_type1 ?_ hs rfl
 rw[hs]
 show wpAny _ _ (spliced ((false,eval l X.env)::backTo pos [])) _ _ s
 refine Calls.spliced_cons (thn (hl aa s U H _ I h) λv s1 ⟨x,H1,I1,r1,a,ex,⟨xs,hq⟩,q⟩=>?_)
 subst ex
 cases r1
 obtain⟨its,rv,pl,hz⟩:=I1.list hq
 refine Calls.spliced_nil ?_
 have ah:a<s1.heap.objs.size:=by obtain⟨o,n,ho,_⟩:=pl;exact Heap.lt_size ho
 refine call_enumerate_list pl.isList λh' en io sz kk=>?_
 refine wpAny_pyIter_enum en ?_
 refine⟨_,[s1.heap.objs.size+1,s1.heap.objs.size],_,_,H1,rfl,I1.kept (t':=s1.toks) kk,Il a _ _ (Nat.ne_of_gt (Nat.lt_succ_self _)) (Nat.ne_of_lt (Nat.lt_succ_of_lt ah)) (Nat.ne_of_lt ah),⟨⟨_,en⟩,io⟩,λb hb=>?_,q⟩
 have eD:s1.heap.objs.size<=b:=by
  rcases List.mem_cons.mp hb with z |z
  ·rw[z];exact Nat.le_succ _
  ·rw[List.mem_singleton.mp z];exact Nat.le_refl _
 exact I1.fpOk eD (I1.hok.fresh eD)
end
def MC (K:W.Frag):V->List V->Hp->VK->Prop:=λx vs H Q=>∃ l xs y,∃j:Nat,x= .ref l/\vs=[y]/\SqL K H l xs/\VD y=true/\xs.all VD=true/\(∃z,xs[j]?=some z/\eqV z y=true)/\(∀(m:Nat) z,m<j->xs[m]?=some z->eqV z y=false)/\Q (.int (j:Int)) H
section
theorem M6:MtR X "list.index" (MC X.K):=by
 intro aa s U H x vs v us Q I rx rv h
 obtain⟨l,xs,y,j,rfl,rfl,hq,fy,fs,⟨z,hz,ez⟩,hm,q⟩:=h
 cases rx
 obtain⟨u,rfl,ry⟩:=X0.one rv
 obtain⟨its,r,pl,hle⟩:=I.list hq
 have hl:=r.length
 have hjl:=(List.getElem?_eq_some_iff.mp hz).1
 have ge:∀(m:Nat) (w:V),xs[m]?=some w->∀hm:m<its.toArray.size,eqU y its.toArray[m]=eqV w y:=λm w hw hm=>by
  obtain⟨u',eE,ru'⟩:=r.get hw
  have e:its.toArray[m]=u':=by
   have:=(List.getElem?_eq_some_iff.mp eE).2
   simpa using this
  rw[e]
  exact ER ru' (List.all_eq_true.mp fs w (List.mem_of_getElem? hw))
 obtain⟨o,n,ho,hc,hd,hs⟩:=id pl
 obtain⟨cls,dict,data,slots⟩:=o
 cases hc;cases hd;cases hs
 refine call_meets F.slot_list_index ⟨_,ho,rfl⟩ F.entry_list_index (F.args_list_index_2 _ _) (SeqAt.list_indexAt l its.toArray n none slots u (eqU y) j (by rw[List.size_toArray];omega) ?_ ?_ ?_) ⟨ho,λw hw=>QQ ry fy r fs w (by simpa using hw),?_⟩
 ·have:sizeLine<2^63-1:=by decide
  omega
 ·rw[ge j z hz];exact ez
 ·intro m hm' ah
  rw[ge m xs[m] (List.getElem?_eq_getElem (by omega))]
  exact hm m _ ah (List.getElem?_eq_getElem (by omega))
 ·exact⟨.int (j:Int),H,I.tok _,⟨_,rfl⟩,q⟩
end
section
variable [DecidableEq M]{r:Enc M}{d:Nat}
end
section
variable {o f:Expr}{ty tx:TE}{aI ao:Pos}
end
def Zb:∀(names:List (Str×NameKind)) (n:Nat) (acc:List (Str×Addr)) {x:Str},(x,NameKind.cell)∉names->(cellsFrom n names acc).lookup x=acc.lookup x
 | [],_,_,_,_=>rfl
 | (y,k)::r,n,acc,x,h=>by
  have hr:(x,NameKind.cell)∉r:=λz=>h (List.mem_cons_of_mem _ z)
  unfold cellsFrom
  split
  ·rename_i hk
   have bF:k=NameKind.cell:=by simpa using hk
   rw[Zb r _ _ hr,List.lookup_cons]
   have:(x==y)=false:=beq_eq_false_iff_ne.mpr λe=>h (by rw[e,bF];exact List.mem_cons_self)
   rw[this]
  ·exact Zb r _ _ hr
def QR:∀(names:List (Str×NameKind)) (n:Nat) (acc:List (Str×Addr)) {x:Str}{c:Addr},(x,NameKind.cell)∈names->(cellsFrom n names acc).lookup x=some c->n<=c
 | [],_,_,_,_,h,_=>nomatch h
 | (y,k)::r,n,acc,x,c,h,e=>by
  unfold cellsFrom at e
  split at e
  ·by_cases hr:(x,NameKind.cell)∈r
   ·exact Nat.le_of_succ_le (QR r _ _ hr e)
   ·rw[Zb r _ _ hr,List.lookup_cons] at e
    rcases List.mem_cons.mp h with h |h
    ·have hx:x=y:=congrArg Prod.fst h
     rw[hx,beq_self_eq_true] at e
     exact Nat.le_of_eq (Option.some.inj e)
    ·exact absurd h hr
  ·rename_i hk
   rcases List.mem_cons.mp h with h |h
   ·exact absurd (by simpa using (congrArg Prod.snd h).symm) hk
   ·exact QR r _ _ h e
def QE:∀(names:List (Str×NameKind)) (n:Nat) (acc:List (Str×Addr)) {x:Str},((x,NameKind.cell)∈names∨∃c,acc.lookup x=some c)->∃c,(cellsFrom n names acc).lookup x=some c
 | [],_,_,_,h=>h.elim (λz=>nomatch z) id
 | (y,k)::r,n,acc,x,h=>by
  unfold cellsFrom
  split
  ·refine QE r _ _ ?_
   by_cases hx:x=y
   ·subst hx;exact .inr ⟨n,by rw[List.lookup_cons];simp⟩
   ·rcases h with h | ⟨c,h⟩
    ·rcases List.mem_cons.mp h with h |h
     ·exact absurd (congrArg Prod.fst h) hx
     ·exact .inl h
    ·exact .inr ⟨c,by rw[List.lookup_cons,beq_eq_false_iff_ne.mpr hx];exact h⟩
  ·rename_i hk
   refine QE r _ _ ?_
   rcases h with h |h
   ·rcases List.mem_cons.mp h with h |h
    ·exact absurd (by simpa using (congrArg Prod.snd h).symm) hk
    ·exact .inl h
   ·exact .inr h
def QB:∀(names:List (Str×NameKind)) (n:Nat) (acc:List (Str×Addr)),(∀x y c,acc.lookup x=some c->acc.lookup y=some c->x=y)->(∀x c,acc.lookup x=some c->c<n)->
  ∀x y c,(cellsFrom n names acc).lookup x=some c->(cellsFrom n names acc).lookup y=some c->x=y
 | [],_,_,h,_=>h
 | (z,k)::r,n,acc,h,hl=>by
  unfold cellsFrom
  split
  ·refine QB r (n+1) _ (λx y c h1 h2=>?_) λx c h1=>?_
   ·rw[List.lookup_cons] at h1 h2
    cases hx:x==z<;> cases hy:y==z<;> rw[hx] at h1<;> rw[hy] at h2<;> simp only at h1 h2
    ·exact h x y c h1 h2
    ·cases h2;exact absurd (hl x n h1) (Nat.lt_irrefl _)
    ·cases h1;exact absurd (hl y n h2) (Nat.lt_irrefl _)
    ·rw[beq_iff_eq.mp hx,beq_iff_eq.mp hy]
   ·rw[List.lookup_cons] at h1
    cases hx:x==z<;> rw[hx] at h1<;> simp only at h1
    ·exact Nat.lt_succ_of_lt (hl x c h1)
    ·cases h1;exact Nat.lt_succ_self _
  ·exact QB r n acc h hl
def Qk:∀(names:List (Str×NameKind)) (h:Heap) (acc:List (Str×Addr)) {x:Str}{c:Addr},(cellsFrom h.objs.size names acc).lookup x=some c->acc.lookup x=some c∨((pushCells h names).IsCell c none/\h.objs.size<=c)
 | [],_,_,_,_,e=>.inl e
 | (z,k)::r,h,acc,x,c,e=>by
  unfold cellsFrom at e
  unfold pushCells
  split at e
  ·rename_i hk
   rw[if_pos hk]
   have e':(cellsFrom (h.push {cls:=.type "cell",data:=.cell none}).objs.size r ((z,h.objs.size)::acc)).lookup x=some c:=by rw[Heap.size_push];exact e
   rcases Qk r _ _ e' with q | ⟨q1,q2⟩
   ·rw[List.lookup_cons] at q
    cases hx:x==z<;> rw[hx] at q<;> simp only at q
    ·exact .inl q
    ·cases q
     exact .inr ⟨⟨_,pushCells_keeps _ _ _ _ (Heap.get?_push_size _ rfl),rfl⟩,Nat.le_refl _⟩
   ·exact .inr ⟨q1,by rw[Heap.size_push] at q2;omega⟩
  ·rename_i hk
   rw[if_neg hk]
   exact Qk r h acc e
def Gq:∀{l:List (Str×NameKind)}{x:Str}{j k:NameKind},(l.map (·.1)).Nodup->(x,j)∈l->(x,k)∈l->j≠k->False
 | [],_,_,_,_,h,_,_=>nomatch h
 | (y,i)::r,x,j,k,hn,h1,h2,ne=>by
  rw[List.map_cons,List.nodup_cons] at hn
  rcases List.mem_cons.mp h1 with h1 |h1<;> rcases List.mem_cons.mp h2 with h2 |h2
  ·cases h1;cases h2;exact ne rfl
  ·cases h1;exact hn.1 (List.mem_map.mpr ⟨_,h2,rfl⟩)
  ·cases h2;exact hn.1 (List.mem_map.mpr ⟨_,h1,rfl⟩)
  ·exact Gq hn.2 h1 h2 ne
def Jq {env:Env}:∀{names:List (Str×NameKind)}{x:Str}{k:NameKind},
  (names.map λ(n,k)=>if(k==NameKind.free&&env.scope.kind== .function&&env.kindOf n==some .cell) then(n,NameKind.cell) else(n,k)).lookup x=some k->(k= .cell∨k= .free)->(x,NameKind.free)∈names∨(x,NameKind.cell)∈names
 | [],_,_,h,_=>by simp at h
 | (n,kk)::r,x,k,h,hk=>by
  have ih:=@Jq env r x k
  simp only[List.map_cons] at h
  have up:((x,NameKind.free)∈r∨(x,NameKind.cell)∈r)->((x,NameKind.free)∈(n,kk)::r∨(x,NameKind.cell)∈(n,kk)::r):=λz=>z.elim (λz=>.inl (List.mem_cons_of_mem _ z)) λz=>.inr (List.mem_cons_of_mem _ z)
  by_cases aZ:(kk==NameKind.free&&env.scope.kind== .function&&env.kindOf n==some .cell)=true
  ·rw[if_pos aZ,List.lookup_cons] at h
   have cm:kk=NameKind.free:=by
    rw[Bool.and_eq_true,Bool.and_eq_true] at aZ
    simpa using aZ.1.1
   cases hx:x==n with
   |true=>
    have:x=n:=by simpa using hx
    subst this;subst cm
    exact .inl List.mem_cons_self
   |false=>rw[hx] at h;exact up (ih h hk)
  ·rw[if_neg aZ,List.lookup_cons] at h
   cases hx:x==n with
   |true=>
    rw[hx] at h
    have eC:kk=k:=Option.some.inj h
    have:x=n:=by simpa using hx
    subst this;subst eC
    rcases hk with z |z
    ·subst z;exact .inr List.mem_cons_self
    ·subst z;exact .inl List.mem_cons_self
   |false=>rw[hx] at h;exact up (ih h hk)
def Hg {Q:Env->Shared->Prop}
  (hQ:∀h',h'.Ns s.heap.objs.size (λ_=>none)->(∀b o,s.heap.get? b=some o->h'.get? b=some o)->
   (∀x c,(cellsFrom (s.heap.objs.size+1) scope.names cl).lookup x=some c->cl.lookup x=some c∨(h'.IsCell c none/\s.heap.objs.size+1<=c))->
   Q (newEnv scope s.heap.objs.size globals (cellsFrom (s.heap.objs.size+1) scope.names cl) qual none .none (some outer) builtinsNs) {s with heap:=h'}):
  wpAny Mqz A (newFunctionEnv scope globals cl [] qual none .none (some outer)) Q E s:=by
 simp only[newFunctionEnv,Option.isSome_some,if_true]
 refine wpAny_bind (wpAny_alloc ?_)
 refine wpAny_bind (wpAny_layCells _ (λname kind cells=>by cases hkc:kind==NameKind.cell<;> simp[hkc]) _ _ _ _ ?_)
 rw[show({s with heap:=s.heap.push {cls:=.type "dict",data:=.dict #[]}}:Shared).heap.objs.size=s.heap.objs.size+1 from Heap.size_push ..]
 rw[List.forIn_nil]
 refine wpAny_bind (wpAny_pure (wpAny_pure (hQ _ ((Heap.Ns.new s.heap (.type "dict")).keeps (pushCells_keeps _ _)) (λb o e=>pushCells_keeps _ _ b o (Heap.get?_push_of_some _ e)) λx c e=>?_)))
 have e':(cellsFrom (s.heap.push {cls:=.type "dict",data:=.dict #[]}).objs.size scope.names cl).lookup x=some c:=by rw[Heap.size_push];exact e
 rcases Qk scope.names _ cl e' with q | ⟨q1,q2⟩
 ·exact .inl q
 ·exact .inr ⟨q1,by rw[Heap.size_push] at q2;exact q2⟩
def U9 (sc scope:Scope)(N0 tns:List Str)(caps:List (Nat×Str)):Bool:=
 scope.kind== .function&&decide (scope.names.map (·.1)).Nodup&&scope.names.all (λy=>!(y.2== .local) || scope.names.lookup y.1==some .local)&&
 scope.names.all (λy=>!(y.2== .free) || (sc.names.lookup y.1==some .cell || sc.names.lookup y.1==some .free))&&caps.all (λp=>N0[p.1]?==some p.2&&(sc.names.lookup p.2==some .cell || sc.names.lookup p.2==some .free)&&scope.names.lookup p.2==some .free)
abbrev Cx.compN (X:Cx)(N:List Str)(scope:Scope)(cl:List (Str×Addr))(C:Addr)(s:Shared)(H:Hp)(ex:List Addr)(E:Value->Shared->Prop):Cx:=
 {X.comp N scope cl C s H ex E with fn:=λx=>scope.names.lookup x==some .cell}
def Tk (scope sc:Scope):Scope:=
 {scope with names:=scope.names.map λ(n,k)=>if(k== .free&&sc.kind== .function&&sc.names.lookup n==some .cell) then(n, .cell) else(n,k)}
section
variable {bc iter:Expr}{sc:Scope}{tns:List Str}{wi:TI}{g:TG}{tt:TT}
def BP {N0:List Str}(hc:X.calm=true)(dJ:X.env.scope=sc)(dQ:X.N=N0)(ok:U9 sc scope N0 tns caps=true)(hn:tns.length=n)(hG:VW n g)
  (hb:∀cl C s H ex E,PG (X.compN (tns++caps.map (·.2)) scope cl C s H ex E) tg g/\PTs (X.compN (tns++caps.map (·.2)) scope cl C s H ex E) bf tt/\PE (X.compN (tns++caps.map (·.2)) scope cl C s H ex E) bc te)
  {J:It}{fp:List Addr}{it:Addr}{tn:Nat->Heap->Prop}{cl:List (Str×Addr)}{Q:V->Hp->Prop}{RR:Value->Addr->Result->Shared->Prop}
  (I:Inv X aa U H s)(T:Turn X.prog X.w X.K tg J fp it tn)(t0:tn 0 s.heap)(hf:∀b∈fp,DZ X aa H b)
  (am:∀x c,cl.lookup x=some c->X.env.cells.lookup x=some c)(aK:∀x,(x,NameKind.free)∈scope.names->∃c,cl.lookup x=some c)
  (W:Nat->Nat->List V->Hp->Prop){m0:Nat}(w0:W 0 m0 [] H)
  (turn:N4 g tt te (X5 n caps U) Q J W)
  (ja:∀D C ys H3 s',CompEnd X aa U H3 D C ys s'->Q (.ref D) (upd H3 D (.lst ys))->RR (.ref D) C (.ok .next) s'):
  wpAny (model X.prog X.w) X.A (newList []) (λacc s₃=>wpAny (model X.prog X.w) X.A (newFunctionEnv scope X.env.globals cl [] X.env.qual none .none (some X.env)) (λeV s₄=>
   codeAny (model X.prog X.w) X.A (.compStart (.ListComp bc [⟨tg,iter,bf,0⟩] scope pos) 0 (.ref it) acc {eV with scope:=relabel scope X.env}) (RR acc eV.locals) s₄) E s₃) E s:=by
 subst dJ
 subst dQ
 unfold U9 at ok
 simp only[Bool.and_eq_true,List.all_eq_true] at ok
 obtain⟨⟨⟨⟨ok1,ok2⟩,ok3⟩,ok4⟩,ok5⟩:=ok
 have eO:scope.kind= .function:=by simpa using ok1
 have cK:(scope.names.map (·.1)).Nodup:=by simpa using ok2
 refine wpAny_newObj_type (Hg (λh₁ eX dh iA=>?_))
 dsimp only at eX dh iA⊢
 generalize gP:s.heap.push {cls:=.type "list",dict:=none,data:=.seq ([]:List Value).toArray}=H2 at eX dh iA⊢
 have hC:H2.objs.size=s.heap.objs.size+1:=by rw[←gP,Heap.size_push]
 have hDC:s.heap.objs.size≠H2.objs.size:=by rw[hC];exact Nat.ne_of_lt (Nat.lt_succ_self _)
 have hCle:s.heap.objs.size<=H2.objs.size:=by rw[hC];exact Nat.le_succ _
 have below:∀b,b<s.heap.objs.size->b≠H2.objs.size/\b≠s.heap.objs.size:=λb hb=>⟨by rw[hC];exact Nat.ne_of_lt (Nat.lt_succ_of_lt hb),Nat.ne_of_lt hb⟩
 have bE:∀b o,s.heap.get? b=some o->h₁.get? b=some o:=λb o e=>dh b o (gP▸Heap.get?_push_of_some _ e)
 have dR:h₁.get? s.heap.objs.size=some {cls:=.type "list",data:=.seq ([]:List Value).toArray 0}:=dh _ _ (gP▸Heap.get?_push_size _ rfl)
 have jc:tn 0 h₁:=T.keep _ _ _ t0 λb _ o e=>bE b o e
 have cf2:∀x,(x,NameKind.free)∈scope.names->∃c,(cellsFrom (H2.objs.size+1) scope.names cl).lookup x=some c/\cl.lookup x=some c:=λx hx=>by
  obtain⟨c,hc⟩:=aK x hx
  exact⟨c,by rw[Zb scope.names _ _ (λhm=>Gq cK hx hm (by decide))];exact hc,hc⟩
 have cf3:∀x,(x,NameKind.cell)∈scope.names->∃c,(cellsFrom (H2.objs.size+1) scope.names cl).lookup x=some c:=λx hx=>QE scope.names _ _ (.inl hx)
 have cf4:∀x y c,(cellsFrom (H2.objs.size+1) scope.names cl).lookup x=some c->(cellsFrom (H2.objs.size+1) scope.names cl).lookup y=some c->x=y:=
  QB scope.names _ _ (λx y c h1 h2=>I.ok.inj x y c (am x c h1) (am y c h2)) (λx c e=>by
   obtain⟨v,z⟩:=I.cell x c (am x c e)
   exact Nat.lt_of_lt_of_le z.lt (by rw[hC];omega))
 have cf5:∀x c,scope.names.lookup x=some NameKind.cell->(cellsFrom (H2.objs.size+1) scope.names cl).lookup x=some c->H2.objs.size+1<=c:=λx c hx e=>QR scope.names _ _ (mem_of_lookup hx) e
 generalize jd:cellsFrom (H2.objs.size+1) scope.names cl=iB at*
 -- addresses
 generalize hD:s.heap.objs.size=D at*
 generalize hCe:H2.objs.size=C at*
 have fL:∀b∈fp,b<D:=λb hb=>by
  obtain⟨o,e,_⟩:=T.obj _ _ t0 b hb
  rw[←hD];exact Heap.lt_size e
 have cb:D<C:=by omega
 have gQ:∀x c,iB.lookup x=some c->c≠D:=λx c e=>by
  rcases iA x c e with q | ⟨_,q⟩
  ·obtain⟨v,z⟩:=I.cell x c (am x c q)
   rw[←hD];exact Nat.ne_of_lt z.lt
  ·exact Nat.ne_of_gt (Nat.lt_trans cb (Nat.lt_of_succ_le q))
 have je:∀b∈fp,∀x c,iB.lookup x=some c->c≠b:=λb hb x c e=>by
  rcases iA x c e with q | ⟨_,q⟩
  ·exact(hf b hb).2.2.2.2.1 x c (am x c q)
  ·exact Nat.ne_of_gt (Nat.lt_trans (fL b hb) (Nat.lt_trans cb (Nat.lt_of_succ_le q)))
 let X':Cx:=X.compN (tns++caps.map (·.2)) scope iB C s H fp (notedBy (model X.prog X.w) X.A (compEnvC scope iB C X.env) λe s'=>RR (.ref D) C (.error e) s')
 have okX:X'.Ok:=by
  refine⟨I.ok.mod,eO,I.ok.glob,I.ok.blt,by show s.heap.objs.size<=C;omega,cf4,λx hx=>?_,λx c hx hcx=>(by show s.heap.objs.size<=c;have:=cf5 x c (by have dS:(scope.names.lookup x==some NameKind.cell)=true:=hx;simpa using dS) hcx;omega),I.ok.hd,I.ok.frames, .inl rfl,λb hb=>?_,I.bs,Nat.le_trans I.ok.bsz I.sz,λb o e hb=>?_,λb hb hz=>?_,I.stack,I.stkFree⟩
  ·have dF:(relabel scope X.env).names.lookup x=some .cell∨(relabel scope X.env).names.lookup x=some .free:=hx
   have hz:(x,NameKind.free)∈scope.names∨(x,NameKind.cell)∈scope.names:=by
    rcases dF with z |z
    ·exact Jq z (.inl rfl)
    ·exact Jq z (.inr rfl)
   rcases hz with z |z
   ·obtain⟨c,q,_⟩:=cf2 x z
    exact⟨c,q⟩
   ·exact cf3 x z
  ·refine⟨Nat.ne_of_lt (Nat.lt_trans (fL b hb) cb),je b hb⟩
  ·rcases(hf b hb).2.2.2.1 with z |z
   ·exact I.ok.noex b o e z
   ·exact absurd (Nat.lt_of_lt_of_le (Heap.lt_size e) (Nat.le_trans I.ok.bsz z)) (Nat.lt_irrefl _)
  ·rcases List.mem_cons.mp (I.stkSub b hz) with z |z
   ·exact(hf b hb).2.1 z
   ·exact(hf b hb).2.2.1 z
 have lenc:(X5 n caps U).length=(tns++caps.map (·.2)).length:=by unfold X5;simp[hn]
 have I1:∀tk,Inv X' [] (X5 n caps U) H {s with heap:=h₁,toks:=tk}:=λtk=>by
  refine⟨okX,rfl,I.bare,Un.kept bE,⟨_,eX,λi x v e1 e2 e3=>?_⟩,λx c e=>?_,I.hok.fresh (by rw[hD];exact Nat.le_of_lt cb),λx c e=>?fc,λp hp=>absurd (show p∈([]:List (Addr×Obj)) from hp) (by simp),I.hok.kept bE,lenc⟩
  ·have hi:n<=i:=by
    by_cases h:n<=i
    ·exact h
    ·have cL:(X5 n caps U)[i]?=some (some v):=e2
     unfold X5 at cL
     rw[List.getElem?_append_left (by simp;omega),List.getElem?_replicate] at cL
     split at cL<;> cases cL
   have cL:(X5 n caps U)[i]?=some (some v):=e2
   unfold X5 at cL
   rw[List.getElem?_append_right (by simpa using hi),List.length_replicate,List.getElem?_map] at cL
   have gN:(tns++caps.map (·.2))[i]?=some x:=e1
   rw[List.getElem?_append_right (by rw[hn];exact hi),hn,List.getElem?_map] at gN
   cases iw:caps[i-n]? with
   |none=>rw[iw] at cL;cases cL
   |some p=>
    rw[iw] at cL gN
    simp only[Option.map_some,Option.some.injEq] at cL gN
    have hp5:=ok5 p (List.mem_of_getElem? iw)
    simp only[beq_iff_eq,Bool.or_eq_true] at hp5
    obtain⟨⟨p1,p2⟩,p3⟩:=hp5
    have hσ:U[p.1]?=some (some v):=by
     cases hq:U[p.1]? with
     |none=>rw[hq] at cL;cases cL
     |some o=>rw[hq] at cL;simp at cL;rw[cL]
    subst gN
    obtain⟨m,hm,hl⟩:=I.loc
    obtain⟨u,r,l⟩:=hl p.1 p.2 v p1 hσ (.inr p2)
    refine⟨u,r, .inr ?_⟩
    rcases l with⟨k,_⟩ | ⟨k,c,e,z⟩
    ·have k':X.env.scope.names.lookup p.2=some .local:=k
     rcases p2 with p2 |p2<;> (rw[p2] at k';cases k')
    ·obtain⟨c',e',e''⟩:=cf2 p.2 (mem_of_lookup p3)
     have:=am _ _ e''
     rw[e] at this;cases this
     obtain⟨o,ho,hd⟩:=z
     exact⟨Q5 (env:=X.env) p3,c,e',⟨o,bE _ _ ho,hd⟩⟩
  ·rcases iA x c e with q | ⟨q,_⟩
   ·obtain⟨v,o,ho,hd⟩:=I.cell x c (am x c q)
    exact⟨v,o,bE _ _ ho,hd⟩
   ·exact⟨_,q⟩
  case fc=>
   rcases iA x c e with q | ⟨_,q⟩
   ·exact I.freeC x c (am x c q)
   ·exact I.hok.fresh (by rw[hD];omega)
 obtain⟨hg,ht,he⟩:=hb iB C s H fp X'.xe
 have fsLt:∀b∈X'.fs,b<D:=λb hb=>by
  obtain⟨_,o,ho,_⟩:=I.stack.mem hb
  rw[←hD];exact Heap.lt_size ho
 have aY:CAt X' fp D:=⟨hc,rfl,Nat.ne_of_lt cb,λhz=>absurd (fsLt _ hz) (Nat.lt_irrefl _),by show s.heap.objs.size<=D;omega,gQ,λb hb=>Nat.ne_of_lt (fL b hb),λb hb H' h'=>⟨h',Nat.ne_of_lt (Nat.lt_trans (fL b hb) cb),okX.exfs b hb, .inl hb,je b hb,λp hp=>DF (M:=Addr×Obj) hp⟩⟩
 have df:∀s₃:Shared,(∃tk,s₃={s with heap:=h₁,toks:=tk})->
   codeAny (model X.prog X.w) X.A (.compLoop (.ListComp bc [⟨tg,iter,bf,0⟩] scope pos) 0 (.ref it) (.ref D) (compEnvC scope iB C X.env)) (RR (.ref D) C) s₃:=by
  rintro s₃ ⟨tk,rfl⟩
  exact Gb (Y:=X') rfl T hG hg ht he aY (λj v e=>(UP e).1) turn (λys its k H3 s4 I4 rv hz q=>ja _ C ys H3 s4 (EG I hf (Nat.le_of_eq hD) cb I4 I4.os I4.base I4.hok rfl rv hz) q)
   (.mk 0 H [] [] 0 ⟨I1 tk,jc,λb hb=>(hf b hb).1,dR,I.hok.fresh (by rw[hD];exact Nat.le_refl _)⟩ .nil w0)
 exact codeAny_compStart_list (df _ ⟨_,rfl⟩) (T.self _ 0 _ _ _ jc (df _ ⟨_,rfl⟩))
def NU (sc:Scope)(N0:List Str)(tns:List Str)(caps:List (Nat×Str))(hc:X.calm=true)(hi:PI X tg iter wi)(hG:VW tns.length g)
  (hb:∀cl C s H ex E,PG (X.compN (tns++caps.map (·.2)) scope cl C s H ex E) tg g/\PTs (X.compN (tns++caps.map (·.2)) scope cl C s H ex E) bf tt/\PE (X.compN (tns++caps.map (·.2)) scope cl C s H ex E) bc te)
  (dJ:X.env.scope=sc:=by rfl)(dQ:X.N=N0:=by rfl)(ok:U9 sc scope N0 tns caps=true:=by decide+kernel)
  (hs:∀x,foldedSetIterable iter X.env x=pure x:=by intro _;rfl):
  PE X (.ListComp bc [⟨tg,iter,bf,0⟩] scope pos) (F1 tns.length caps wi g tt te):=by
 intro aa s U H Q I h
 have ok':=ok
 unfold U9 at ok'
 simp only[Bool.and_eq_true,List.all_eq_true] at ok'
 obtain⟨⟨⟨⟨ok1,ok2⟩,ok3⟩,ok4⟩,ok5⟩:=ok'
 obtain⟨cl,jb,am,aK⟩:=Cq (scope:=scope) (env:=X.env) λx hx fK=>by
  have:=ok4 x hx
  rw[fK] at this
  have z:sc.names.lookup x.1=some .cell∨sc.names.lookup x.1=some .free:=by simpa using this
  exact I.ok.has x.1 (by show X.env.scope.names.lookup x.1=_∨X.env.scope.names.lookup x.1=_;rw[dJ];exact z)
 rw[eval_ListComp]
 refine wpAny_comprehension_free (use:=none) rfl hs jb (by simpa using ok1) (λx hx hl=>by have:=ok3 x hx;rw[hl] at this;simpa using this) (thn (hi aa s U H _ I h) λxv s₁ h₁=>thn h₁ λgH s₂ h₂=>?_)
 obtain⟨it,fp,tn,J,H',rfl,I2,T,iZ,f2,W,⟨m0,w0⟩,turn⟩:=h₂
 refine BP (RR:=λacc C=>compPost (model X.prog X.w) X.A X.xe none (EP X aa U Q) acc C) hc dJ dQ ok rfl hG hb I2 T iZ f2 am aK W w0 turn ?_
 intro D C ys H3 s' ce q
 obtain⟨mm,dH⟩:=ce.ns
 refine⟨mm,dH,λh' dP=>⟨.ref D,_,?_,rfl,q⟩⟩
 obtain⟨c0,c1,c2,c3,c4,c5⟩:=ce.fp
 exact ce.inv.turned (t':=s'.toks) (λb o eD e=>(dP.extBut b o eD e)) c0 c1 c3 c4 c5
end
def U0:∀(xs:List V) (us:List Value),xs.length=us.length->(∀(j:Nat) x u,xs[j]?=some x->us[j]?=some u->XW x u)->X0 xs us
 | [],[],_,_=>.nil
 | [],_::_,h,_=>by simp at h
 |_::_,[],h,_=>by simp at h
 |x::xs,u::us,h,r=>.cons (r 0 x u rfl rfl) (U0 xs us (by simpa using h) λj y v e1 e2=>r (j+1) y v (by simpa using e1) (by simpa using e2))
def Ei (ta:TA):TE:=λU H Q=>ta U H λvs H1=>∃ j:Int,vs=[.int j]/\0<=j/\j<=1000/\∀p,H1 p=none->Q (.ref p) (upd H1 p (.lst ((List.range j.toNat).map λi=>V.int ((i:Nat):Int))))
def Dv {ta:TA}{p q:Pos}(hc:X.calm=true)(hg:Gl X "list")(hg2:Gl X "range")(hm:X.mg "list" =none)(hm2:X.mg "range" =none)(ha:PA X [e] ta)
  (hs:starEach [.Call (.Name "range" q) [e] [] q2] X.env=[(false,eval (.Call (.Name "range" q) [e] [] q2) X.env)]:=by rfl)(gI:starEach [e] X.env=[(false,eval e X.env)]:=by rfl):
  PE X (.Call (.Name "list" p) [.Call (.Name "range" q) [e] [] q2] [] pos) (Ei ta):=by
 intro aa s U H Q I h
 refine wpAny_Call_Name_kw (JP I hg hm boot_list ?_)
 refine callWith_type1 ?_ hs rfl
 rw[hs]
 show wpAny _ _ (spliced ((false,eval (.Call (.Name "range" q) [e] [] q2) X.env)::backTo pos [])) _ _ s
 refine Calls.spliced_cons ?_
 refine wpAny_Call_Name_kw (JP I hg2 hm2 boot_range ?_)
 refine callWith_type1 (thn (ha q2 aa s U H _ I h) λus s1 r9=>?_) gI rfl
 obtain⟨vs,H1,I1,r1,q1⟩:=r9
 obtain⟨j,e,h0,h1,k⟩:=q1
 subst e
 cases r1 with
 |cons r rr=>
  cases rr
  obtain⟨t,rfl⟩:=r
  refine call_range_1 ?_
  refine Calls.spliced_nil ?_
  refine call_list_range (n:=j.toNat) (I.ok.hd hc) (IsRange.new ..) (small_one (by omega) (by omega) (by omega) (by omega)) (by rw[rangeSize_one];split<;> omega) (by omega) λh' tk cA c' hk hS dR=>?_
  refine⟨.ref _,_,I1.laid (h':=h') (t':=tk) (o:=.lst ((List.range j.toNat).map λi=>V.int ((i:Nat):Int))) (λb o e=>hk b o (Heap.get?_push_of_some _ e)) (by rw[Heap.size_push];exact Nat.le_succ _) ?_,rfl,k _ (I1.hok.fresh (by rw[Heap.size_push];exact Nat.le_succ _))⟩
  refine⟨by rw[List.length_map,List.length_range];exact Nat.le_of_lt (Ic (by omega)),cA.toList,c',U0 _ _ (by simp[dR.1]) λi x u e1 e2=>?_,hS⟩
  have cL:cA[i]?=some u:=by simpa using e2
  obtain⟨tk,rfl⟩:=dR.2 i u cL
  rw[List.getElem?_map] at e1
  cases e3:(List.range j.toNat)[i]? with
  |none=>rw[e3] at e1;cases e1
  |some z=>
   rw[e3] at e1
   have hz:z=i:=by
    have hi:i<j.toNat:=by have:=(List.getElem?_eq_some_iff.mp e3).1;simpa using this
    rw[List.getElem?_range hi] at e3
    exact(Option.some.inj e3).symm
   subst hz
   have:x=V.int (z:Int):=(Option.some.inj e1).symm
   subst this
   exact⟨tk,by simp⟩
def XX {p:Pos}:starEach (.List l p::es) env=(false,eval (.List l p) env)::starEach es env:=rfl
def LG (K:W.Frag)(h:X.K=K):MtR X "list.index" (MC K):=by subst h;exact M6
variable {o:Expr}{to:TE}{t:TA}{name:Str}{aI ao:Pos}{T id:String}{r:V->List V->Hp->VK->Prop}
def T7 (K:W.Frag)(hK:X.K=K)(pa:PlainAttrs T)(slot:Slot T name id)(i6:typeOf (.builtin id)=pure (.type "method_descriptor"))(hm:MtR X id r)(ho:PE X o to)(ha:PA X (e::es) t)
  (bU:attributeBase o name X.env (eval o X.env)=eval o X.env:=by rfl)
  (eQ:((backTo ao (starEach (e::es) X.env)).all (λx=>!x.1)&&(backToKw ao (keywordEach [] X.env)).all (λx=>x.1.isSome)
   &&decide ((e::es).length+([]:List Keyword).length+(if([]:List Keyword).isEmpty then 0 else 1)<30))=true:=by rfl)
  (bV:(aI.endLine==ao.line)=true:=by rfl)(hs:starEach (e::es) X.env=(false,eval e X.env)::starEach es X.env:=by rfl)(bW:(backTo ao (starEach es X.env)).any (·.1)=false:=by rfl):
  PE X (.Call (.Attribute o name aI) (e::es) [] ao) (tBM K T r to t):=by
 subst hK
 exact Ze pa slot i6 hm ho ha bU eQ bV hs bW
end L2
namespace PySem
open PySem.Spec
namespace SeqAt
open MeetsSeq
theorem list_indexFrom (l:Addr)(items:Array Value)(n:Nat)(dd:Option Addr)(sl:Array (Option Value))(x:Value)(e:Value->Bool)(k:Nat)(t:Tok)(j:Nat)(hk:k<=j)(hj:j<items.size)(gR:(j:Int)<2^63-1)
  (hit:e items[j]=true)(hno:∀m (hm:m<items.size),k<=m->m<j->e items[m]=false):
  Meets (Builtin.«list.index» ⟨[.ref l,x, .int (k:Int) t],[]⟩)
   (λA R s=>s.heap.get? l=some {cls:=.type "list",dict:=dd,data:=.seq items n,slots:=sl}/\(∀y,y∈items->EqAt A.in1 s y x (e y))/\R (.ok (.ret (.int j s.toks))) {s with toks:=s.toks+1}):=by
 intro prog w A R s h
 obtain⟨hp,g,d,tk,os⟩:=s;obtain⟨hl,he,h⟩:=h
 wp_walk using wpAny_loadPart' hl
 have a1:((λi:Int=>if i<0 then max 0 (i+(items.size:Int)) else i) ((some (k:Int)).getD 0))=((k:Nat):Int):=by
  show(if(k:Int)<0 then max 0 ((k:Int)+(items.size:Int)) else(k:Int))=_
  rw[if_neg (by omega)]
 have a2:((λi:Int=>if i<0 then max 0 (i+(items.size:Int)) else i) ((none:Option Int).getD (2^63-1)))=2^63-1:=by simp
 rw[a1,a2]
 exact⟨plainId_quiet plain_index_loop _,codeAny_builtin entry_index_loop (by
  rw[Around.under_plainId plain_index_loop _]
  exact index_loopAt l items n dd sl x e (2^63-1) j hj gR hit _ k rfl hk (λm hm h1 h2=>hno m hm h1 h2) prog w A R _ ⟨hl,he,h⟩)⟩
end SeqAt
end PySem
namespace L2
open PySem PySem.Spec PyProof.Rows
def HG (K:W.Frag):V->List V->Hp->VK->Prop:=λx vs H Q=>∃ l xs y,∃k j:Nat,∃kk:Int,x= .ref l/\vs=[y, .int kk]/\kk=(k:Int)/\SqL K H l xs/\VD y=true/\xs.all VD=true/\k<=j/\(∃z,xs[j]?=some z/\eqV z y=true)/\(∀(m:Nat) z,k<=m->m<j->xs[m]?=some z->eqV z y=false)/\Q (.int (j:Int)) H
section
theorem IM:MtR X "list.index" (HG X.K):=by
 intro aa s U H x vs v us Q I rx rv h
 obtain⟨l,xs,y,k,j,kk,rfl,rfl,rfl,hq,fy,fs,hkj,⟨z,hz,ez⟩,hm,q⟩:=h
 cases rx
 obtain⟨u,u2,rfl,ry,rk⟩:=X0.two rv
 obtain⟨t,rfl⟩:=rk
 obtain⟨its,r,pl,hle⟩:=I.list hq
 have hl:=r.length
 have hjl:=(List.getElem?_eq_some_iff.mp hz).1
 have ge:∀(m:Nat) (w:V),xs[m]?=some w->∀hm:m<its.toArray.size,eqU y its.toArray[m]=eqV w y:=λm w hw hm=>by
  obtain⟨u',eE,ru'⟩:=r.get hw
  have e:its.toArray[m]=u':=by
   have:=(List.getElem?_eq_some_iff.mp eE).2
   simpa using this
  rw[e]
  exact ER ru' (List.all_eq_true.mp fs w (List.mem_of_getElem? hw))
 obtain⟨o,n,ho,hc,hd,hs⟩:=id pl
 obtain⟨cls,dict,data,slots⟩:=o
 cases hc;cases hd;cases hs
 refine call_meets F.slot_list_index ⟨_,ho,rfl⟩ F.entry_list_index (F.args_list_index_3 _ _ _) (SeqAt.list_indexFrom l its.toArray n none slots u (eqU y) k t j hkj (by rw[List.size_toArray];omega) ?_ ?_ ?_) ⟨ho,λw hw=>QQ ry fy r fs w (by simpa using hw),?_⟩
 ·have:sizeLine<2^63-1:=by decide
  omega
 ·rw[ge j z hz];exact ez
 ·intro m hm' hle1 ah
  rw[ge m xs[m] (List.getElem?_eq_getElem (by omega))]
  exact hm m _ hle1 ah (List.getElem?_eq_getElem (by omega))
 ·exact⟨.int (j:Int),H,I.tok _,⟨_,rfl⟩,q⟩
end
def qd (K:W.Frag):List V->Hp->VK->Prop:=λxs H Q=>∃ (a:Addr) (bs:List Bool),xs=[.ref a]/\SqL K H a (bs.map V.bl)/\Q (.bl (bs.all id)) H
section
def Wk:∀(bs:List Bool),((List.range bs.length).all λi=>(bs[i]?).getD true)=bs.all id:=λbs=>by
 rw[Bool.eq_iff_iff,List.all_eq_true,List.all_eq_true]
 constructor
 ·intro h b hb
  obtain⟨i,hi,rfl⟩:=List.getElem_of_mem hb
  have:=h i (List.mem_range.mpr hi)
  simpa[List.getElem?_eq_getElem hi] using this
 ·intro h i hi
  have cU:=List.mem_range.mp hi
  simpa[List.getElem?_eq_getElem cU] using h _ (List.getElem_mem cU)
def HZ (hc:X.calm=true):ZM X (.builtin "all") (qd X.K):=by
 intro aa s U H xs us Q I r h
 obtain⟨a,bs,rfl,hq,q⟩:=h
 obtain⟨u,rfl,ru⟩:=VI r
 cases ru
 obtain⟨its,rv,pl,hz⟩:=I.list hq
 have af:bs.length=its.length:=by have:=rv.length;rwa [List.length_map] at this
 have ah:a<s.heap.objs.size:=by obtain⟨o,n,ho,_⟩:=pl;exact Heap.lt_size ho
 refine call_all_walk (wpAny_pyIter_list pl.isList ?_)
 refine⟨s.heap.objs.size,[s.heap.objs.size,a],[s.heap.objs.size],its.toArray.size,_,_,λi=>(bs[i]?).getD true,rfl,Walks.list (A:=X.A.in1) (I.ok.hd hc) _ a (Nat.ne_of_lt ah) its.toArray,
  ⟨⟨_,Heap.get?_push_size _ rfl,rfl,rfl⟩,pl.isList.at λo e=>Heap.get?_push_of_some _ e⟩,λi v s' Q' E' hP hQ=>?_,λh' tk hk=>?_⟩
 ·have iy:its[i]?=some v:=by simpa using hP
  obtain⟨x,ex,rx⟩:=Fh rv iy
  rw[List.getElem?_map] at ex
  cases e:bs[i]? with
  |none=>rw[e] at ex;cases ex
  |some z=>
   rw[e] at ex
   have iu:V.bl z=x:=Option.some.inj ex
   subst iu
   cases rx
   simp only[e,Option.getD_some] at hQ
   exact wpAny_truthy_bool hQ
 ·have e:((List.range its.toArray.size).all λi=>(bs[i]?).getD true)=bs.all id:=by
   rw[List.size_toArray, ←af];exact Wk bs
  rw[e]
  have I2:Inv X aa U H {s with heap:=h',toks:=tk}:=I.kept (t':=tk) λb o e=>hk b o (λhm=>by
   rw[List.mem_singleton.mp hm] at e
   exact absurd (Heap.lt_size e) (Nat.lt_irrefl _)) (Heap.get?_push_of_some _ e)
  exact⟨.bl (bs.all id),H,I2,rfl,q⟩
def RJ (i j k:Nat)(ta:TA):TS:=λD U H=>ta U H λvs H1=>∃ v w z,vs=[v,w,z]/\D.nx (((U.set i (some v)).set j (some w)).set k (some z)) H1
def Mm {y z:Str}{a b:Expr}{ta:TA}{kt k2 pt2}(hc:X.calm=true)(hN:X.N.Nodup)(hi:X.N[i]?=some x)(hj:X.N[j]?=some y)(hk:X.N[k]?=some z)(cQ:i≠j)(hik:i≠k)(hjk:j≠k)
  (hx:X.env.scope.names.lookup x=some .local)(hy:X.env.scope.names.lookup y=some .local)(hz:X.env.scope.names.lookup z=some .local)(ha:PA X [a,b,c] ta)
  (hw:swappedStores [.Tuple [.Name x px, .Name y py, .Name z pz] kt pt] (.Tuple [a,b,c] k2 pt2) X.env=pure (some [x,y,z]))
  (hs:swapsWithSole [.Tuple [.Name x px, .Name y py, .Name z pz] kt pt] (.Tuple [a,b,c] k2 pt2) pos.line X.env=pure false:=by rfl):
  PS X (.Assign [.Tuple [.Name x px, .Name y py, .Name z pz] kt pt] (.Tuple [a,b,c] k2 pt2) pos) (RJ i j k ta):=by
 intro aa s U H D I h
 rw[exec_Assign_arm]
 refine wpAny_bind (wpAny_standAt ?_)
 rw[hs]
 refine wpAny_bind (wpAny_pure ?_)
 rw[if_neg (by decide)]
 refine wpAny_bind (Tuple_ (thn (ha _ aa s U H _ I h) λus s1 r9=>?_))
 obtain⟨vs,H1,I1,r1,q1⟩:=r9
 obtain⟨v,w,t,e1,q1⟩:=q1
 subst e1
 obtain⟨u1,u2,u3,rfl,rv,cz,rt⟩:∃u1 u2 u3,us=[u1,u2,u3]/\XW v u1/\XW w u2/\XW t u3:=by
  cases r1 with
  |cons p q=>
   cases q with
   |cons p' q'=>
    cases q' with
    |cons p'' q''=>
     cases q''
     exact⟨_,_,_,rfl,p,p',p''⟩
 refine wpAny_newObj_type ?_ (by show 3<=sizeLine;decide)
 have I2:Inv X aa U H1 {s1 with heap:=s1.heap.push {cls:=.type "tuple",data:=.seq [u1,u2,u3].toArray}}:=I1.kept (t':=s1.toks) λb o e=>Heap.get?_push_of_some _ e
 rw[hw]
 refine wpAny_bind (wpAny_pure ?_)
 show wpAny (model X.prog X.w) X.A (do rule "assign.swapped-stores";let items ←unpackItems (.ref s1.heap.objs.size) 3 none;assignInOrder [λv=>bindName X.env z v,λv=>bindName X.env y v,λv=>bindName X.env x v] items.reverse;pure Flow.next) _ _ _
 refine wpAny_bind (wpAny_rule (wpAny_bind (unpackItems_tuple (items:=#[u1,u2,u3]) (I.ok.hd hc) (IsTup.new s1.heap _) λh' dF=>?_)))
 have I3:=I2.kept (h':=h') (t':=s1.toks) λb o e=>dF b o (Nat.ne_of_lt (Heap.lt_size e)) e
 show wpAny _ _ (assignInOrder [λv=>bindName X.env z v,λv=>bindName X.env y v,λv=>bindName X.env x v] [u3,u2,u1] >>= λ_=>pure Flow.next) _ _ _
 refine wpAny_bind (assignInOrder_cons (wpAny_bindName (Z7 I3 hN hk (.inl hz) rt (λs2 I4=>?_) (.inr hz))))
 refine assignInOrder_cons (wpAny_bindName (Z7 I4 hN hj (.inl hy) cz (λs3 I5=>?_) (.inr hy)))
 refine assignInOrder_cons (wpAny_bindName (Z7 I5 hN hi (.inl hx) rv (λs4 I6=>assignInOrder_nil (wpAny_pure ?_)) (.inr hx)))
 have e:(((U.set k (some t)).set j (some w)).set i (some v))=(((U.set i (some v)).set j (some w)).set k (some t)):=by
  rw[List.set_comm _ _ hjk.symm,List.set_comm _ _ hik.symm,List.set_comm _ _ cQ.symm]
 rw[e] at I6
 exact⟨_,H1,I6,q1⟩
end
section
variable [DecidableEq M]{r:Enc M}{d:Nat}
open Classical in
end
section
end
section
variable {T:String}{name:Str}{id:String}{r:V->List V->Hp->VK->Prop}{o:Expr}{to:TE}{t:TA}{aI ao:Pos}
def WS (hK:X.K=K)(pa:PlainAttrs T)(slot:Slot T name id)(i6:typeOf (.builtin id)=pure (.type "method_descriptor"))(hm:MtR X id r)(ho:PE X o to)(ha:PA X (e::es) t)
  (bU:attributeBase o name X.env (eval o X.env)=eval o X.env:=by rfl)
  (eQ:((backTo ao (starEach (e::es) X.env)).all (λx=>!x.1)&&(backToKw ao (keywordEach [] X.env)).all (λx=>x.1.isSome)
   &&decide ((e::es).length+([]:List Keyword).length+(if([]:List Keyword).isEmpty then 0 else 1)<30))=true:=by rfl)
  (bV:(aI.endLine==ao.line)=true:=by rfl)(hs:starEach (e::es) X.env=(false,eval e X.env)::starEach es X.env:=by rfl)(bW:(backTo ao (starEach es X.env)).any (·.1)=false:=by rfl):
  PE X (.Call (.Attribute o name aI) (e::es) [] ao) (tBM K T r to t):=T7 K hK pa slot i6 hm ho ha bU eQ bV hs bW
end
section
variable {bc iter:Expr}{wi:TI}{g:TG}{tt:TT}
def G5 (hc:X.calm=true)(hi:PI X tg iter wi)(hG:VW tns.length g)
  (hb:∀cl C s H ex E,PG (X.compN (tns++caps.map (·.2)) scope cl C s H ex E) tg g/\PTs (X.compN (tns++caps.map (·.2)) scope cl C s H ex E) bf tt/\PE (X.compN (tns++caps.map (·.2)) scope cl C s H ex E) bc te)
  (dJ:X.env.scope=sc:=by rfl)(dQ:X.N=N0:=by rfl)(ok:U9 sc scope N0 tns caps=true:=by decide+kernel)
  (hs:∀x,foldedSetIterable iter X.env x=pure x:=by intro _;rfl):
  PE X (.ListComp bc [⟨tg,iter,bf,0⟩] scope pos) (F1 tns.length caps wi g tt te):=NU sc N0 tns caps hc hi hG hb dJ dQ ok hs
def Yk (hc:X.calm=true)(hi:PI X tg iter wi)(hG:VW tns.length g)
  (hb:∀cl C s H ex E,PG (X.comp (tns++caps.map (·.2)) scope cl C s H ex E) tg g/\PTs (X.comp (tns++caps.map (·.2)) scope cl C s H ex E) bf tt/\PE (X.comp (tns++caps.map (·.2)) scope cl C s H ex E) bc te)
  (dJ:X.env.scope=sc:=by rfl)(dQ:X.N=N0:=by rfl)(ok:DI sc scope N0 tns caps=true:=by decide+kernel)
  (hs:∀x,foldedSetIterable iter X.env x=pure x:=by intro _;rfl):
  PE X (.ListComp bc [⟨tg,iter,bf,0⟩] scope pos) (F1 tns.length caps wi g tt te):=RM sc N0 tns caps hc hi hG hb dJ dQ ok hs
end
section
variable {l:Expr}{tl:TE}{p:Pos}
def Xq (h:X.K=K)(hl:PE X l tl):PI X tg l (FE K tl):=by subst h;exact RG hl
def Sf (h:X.K=K)(hl:PE X l tl):PI X tg l (WZ K tl):=by subst h;exact Tz hl
end
def Q8:List Int->Int
 | []=>0
 |a::r=>r.foldl max a
def Ng:List Int->Int
 | []=>0
 |a::r=>r.foldl min a
def G0 (ns:List Int):∀k,k<ns.length->ns.getD (argBest (λi j=>decide (ns.getD i 0 > ns.getD j 0)) k) 0=Q8 (ns.take (k+1))
 |0,h=>by
  cases ns with
  |nil=>simp at h
  |cons a r=>simp[argBest,Q8]
 |k+1,h=>by
  have ih:=G0 ns k (by omega)
  have e:Q8 (ns.take (k+1+1))=max (Q8 (ns.take (k+1))) (ns.getD (k+1) 0):=by
   rw[List.take_succ_eq_append_getElem h]
   cases ns with
   |nil=>simp at h
   |cons a r=>
    rw[List.take_succ_cons]
    simp only[Q8,List.cons_append,List.foldl_append,List.foldl_cons,List.foldl_nil]
    rw[List.getD_eq_getElem?_getD,List.getElem?_eq_getElem h]
    rfl
  rw[e, ←ih]
  show ns.getD (if(decide (ns.getD (k+1) 0 > ns.getD (argBest _ k) 0))=true then k+1 else argBest _ k) 0=_
  by_cases hc:ns.getD (k+1) 0 > ns.getD (argBest (λi j=>decide (ns.getD i 0 > ns.getD j 0)) k) 0
  ·rw[if_pos (by simpa using hc)];omega
  ·rw[if_neg (by simpa using hc)];omega
def B7 (ns:List Int):∀k,k<ns.length->ns.getD (argBest (λi j=>decide (ns.getD i 0<ns.getD j 0)) k) 0=Ng (ns.take (k+1))
 |0,h=>by
  cases ns with
  |nil=>simp at h
  |cons a r=>simp[argBest,Ng]
 |k+1,h=>by
  have ih:=B7 ns k (by omega)
  have e:Ng (ns.take (k+1+1))=min (Ng (ns.take (k+1))) (ns.getD (k+1) 0):=by
   rw[List.take_succ_eq_append_getElem h]
   cases ns with
   |nil=>simp at h
   |cons a r=>
    rw[List.take_succ_cons]
    simp only[Ng,List.cons_append,List.foldl_append,List.foldl_cons,List.foldl_nil]
    rw[List.getD_eq_getElem?_getD,List.getElem?_eq_getElem h]
    rfl
  rw[e, ←ih]
  show ns.getD (if(decide (ns.getD (k+1) 0<ns.getD (argBest _ k) 0))=true then k+1 else argBest _ k) 0=_
  by_cases hc:ns.getD (k+1) 0<ns.getD (argBest (λi j=>decide (ns.getD i 0<ns.getD j 0)) k) 0
  ·rw[if_pos (by simpa using hc)];omega
  ·rw[if_neg (by simpa using hc)];omega
section
def Wf (K:W.Frag)(f:List Int->Int):List V->Hp->VK->Prop:=λxs H Q=>∃ (a:Addr) (ns:List Int),xs=[.ref a]/\SqL K H a (ns.map V.int)/\0<ns.length/\Q (.int (f ns)) H
def VY (rv:X0 (ns.map V.int) its):∀(i:Nat) (v:Value),its.toArray[i]?=some v->∃t,v=Value.int (ns.getD i 0) t:=λi v hv=>by
 have iy:its[i]?=some v:=by simpa using hv
 obtain⟨x,ex,rx⟩:=Fh rv iy
 rw[List.getElem?_map] at ex
 cases e:ns[i]? with
 |none=>rw[e] at ex;cases ex
 |some z=>
  rw[e] at ex
  have iu:V.int z=x:=Option.some.inj ex
  subst iu
  obtain⟨t,rfl⟩:=rx
  exact⟨t,by simp[List.getD,e]⟩
def KC (K:W.Frag)(hK:X.K=K)(hc:X.calm=true):ZM X (.builtin "max") (Wf K Q8):=by
 subst hK
 intro aa s U H xs us Q I r h
 obtain⟨a,ns,rfl,hq,aL,q⟩:=h
 obtain⟨u,rfl,ru⟩:=VI r
 cases ru
 obtain⟨its,rv,pl,hz⟩:=I.list hq
 have af:its.length=ns.length:=by have:=rv.length;simpa using this.symm
 have ah:a<s.heap.objs.size:=by obtain⟨o,n,ho,_⟩:=pl;exact Heap.lt_size ho
 refine call_max_walk (wpAny_pyIter_list pl.isList ?_)
 refine⟨s.heap.objs.size,_,_,_,_,_,_,rfl,Walks.list (prog:=X.prog) (w:=X.w) (A:=X.A.in1) (I.ok.hd hc) s.heap.objs.size a (Nat.ne_of_lt ah) its.toArray,⟨⟨_,Heap.get?_push_size _ rfl,rfl,rfl⟩,pl.isList.at λo e=>Heap.get?_push_of_some _ e⟩,λb hb=>?_,by rw[List.size_toArray,af];exact aL,CmpOf.ints_gt (λi=>ns.getD i 0) (VY rv),λv h' tk hP hk=>?_⟩
 ·rcases List.mem_cons.mp hb with e |hb
  ·rw[e,Heap.size_push];exact Nat.lt_succ_self _
  ·rw[List.mem_singleton.mp hb,Heap.size_push];exact Nat.lt_succ_of_lt ah
 ·have I2:Inv X aa U H {s with heap:=h',toks:=tk}:=I.kept (t':=tk) λb o e=>hk b o (λhm=>by
   rw[List.mem_singleton.mp hm] at e
   exact absurd (Heap.lt_size e) (Nat.lt_irrefl _)) (Heap.get?_push_of_some _ e)
  obtain⟨t,rfl⟩:=VY rv _ _ hP
  refine⟨.int (Q8 ns),H,I2,⟨t,?_⟩,q⟩
  rw[List.size_toArray,af,G0 ns (ns.length-1) (by omega),show ns.length-1+1=ns.length by omega,List.take_length]
def Nr (K:W.Frag)(f:List Int->Int):List V->Hp->VK->Prop:=λxs H Q=>∃ (a:Addr) (ns:List Int),xs=[.ref a]/\SqT K H a (ns.map V.int)/\0<ns.length/\Q (.int (f ns)) H
def VE (K:W.Frag)(hK:X.K=K)(hc:X.calm=true):ZM X (.builtin "max") (Nr K Q8):=by
 subst hK
 intro aa s U H xs us Q I r h
 obtain⟨a,ns,rfl,hq,aL,q⟩:=h
 obtain⟨u,rfl,ru⟩:=VI r
 cases ru
 obtain⟨its,rv,pl,hz⟩:=I.tuple hq
 have af:its.length=ns.length:=by have:=rv.length;simpa using this.symm
 have ah:a<s.heap.objs.size:=by obtain⟨o,ho,_⟩:=pl;exact Heap.lt_size ho
 refine call_max_walk (wpAny_pyIter_tuple pl ?_)
 refine⟨s.heap.objs.size,_,_,_,_,_,_,rfl,Walks.tuple (prog:=X.prog) (w:=X.w) (A:=X.A.in1) (I.ok.hd hc) s.heap.objs.size a (Nat.ne_of_lt ah) its.toArray,⟨⟨_,Heap.get?_push_size _ rfl,rfl,rfl⟩,(show s.heap.IsTuple a its.toArray from pl).at λo e=>Heap.get?_push_of_some _ e⟩,λb hb=>?_,by rw[List.size_toArray,af];exact aL,CmpOf.ints_gt (λi=>ns.getD i 0) (VY rv),λv h' tk hP hk=>?_⟩
 ·rcases List.mem_cons.mp hb with e |hb
  ·rw[e,Heap.size_push];exact Nat.lt_succ_self _
  ·rw[List.mem_singleton.mp hb,Heap.size_push];exact Nat.lt_succ_of_lt ah
 ·have I2:Inv X aa U H {s with heap:=h',toks:=tk}:=I.kept (t':=tk) λb o e=>hk b o (λhm=>by
   rw[List.mem_singleton.mp hm] at e
   exact absurd (Heap.lt_size e) (Nat.lt_irrefl _)) (Heap.get?_push_of_some _ e)
  obtain⟨t,rfl⟩:=VY rv _ _ hP
  refine⟨.int (Q8 ns),H,I2,⟨t,?_⟩,q⟩
  rw[List.size_toArray,af,G0 ns (ns.length-1) (by omega),show ns.length-1+1=ns.length by omega,List.take_length]
def YQ (K:W.Frag)(h:X.K=K):SlR X (T1 K):=by subst h;exact TK
end
inductive Pay where
 |non |int (i:Int) |tag (t:Str) (xs:List Int)
 deriving DecidableEq
structure Exc where
 cls:Str
 pay:Pay
inductive Rs (M:Type) where
 |bad |err (x:Exc) |ok (a:M)
def Rs.bind:Rs M->(M->Rs L)->Rs L
 | .bad,_=>.bad
 | .err x,_=>.err x
 | .ok a,f=>f a
def Rs.ok_bind (a:M)(f:M->Rs L):(Rs.ok a).bind f=f a:=rfl
def chk (c:Prop)[Decidable c](m:Rs M):Rs M:=if c then m else .bad
def Xi [Decidable c](h:c):chk c m=m:=if_pos h
abbrev XD:=Addr×HO
def Td:HO->Bool
 | .lst _=>true
 | .dK _=>true
 | .dT _=>true
 |_=>false
def fl (OO:List (List XD)):List Addr:=OO.flatten.map (·.1)
open Classical in
def hid (H:Hp)(OO:List (List XD)):Hp:=λb=>if b∈fl OO then none else H b
structure W (OO:List (List XD))(H:Hp):Prop where
 tr:∀c∈OO.flatten,H c.1=some c.2
 nd:(fl OO).Nodup
 mu:∀c∈OO.flatten,Td c.2=true
def XM {OO}(h:hid H OO b=some o):H b=some o/\b∉fl OO:=by
 unfold hid at h
 split at h
 ·cases h
 ·exact⟨h,by assumption⟩
def YA {OO}(h:H b=some o)(n:b∉fl OO):hid H OO b=some o:=by
 unfold hid;rw[if_neg n];exact h
def Xn {OO}:Xp (hid H OO) H:=λb o h=>(XM h).1
def Xh {OO}(s:Xp H H'):Xp (hid H OO) (hid H' OO):=λb o h=>YA (s _ _ (XM h).1) (XM h).2
def Zv {OO OO'}(s:Xp H H')(h:∀b,b∈fl OO'->b∈fl OO):Xp (hid H OO) (hid H' OO'):=λb o q=>YA (s _ _ (XM q).1) λz=>(XM q).2 (h b z)
def XB {OO}:fl (C::OO)=C.map (·.1)++fl OO:=by simp[fl]
def MN {OO}:fl ([]::OO)=fl OO:=by simp[fl]
def YK {OO}:hid H ([]::OO)=hid H OO:=by unfold hid;rw[MN]
def W.keep {OO}(w:W OO H)(s:Xp H H'):W OO H':=⟨λc hc=>s _ _ (w.tr c hc),w.nd,w.mu⟩
def W.of (w:W OO H)(h:OO'.flatten.Perm OO.flatten):W OO' H:=
 ⟨λc hc=>w.tr c (h.mem_iff.mp hc),(h.map _).nodup_iff.mpr w.nd,λc hc=>w.mu c (h.mem_iff.mp hc)⟩
def W.sub (w:W OO H)(h:OO'.flatten.Sublist OO.flatten):W OO' H:=
 ⟨λc hc=>w.tr c (h.mem hc),(h.map _).nodup w.nd,λc hc=>w.mu c (h.mem hc)⟩
def W.tail {C OO}(w:W (C::OO) H):W OO H:=w.sub (by simp)
def W.nil {OO}(w:W OO H):W ([]::OO) H:=w.of (by simp)
def W.cell {C OO}(w:W (C::OO) H):∀c∈C,H c.1=some c.2:=λc hc=>w.tr c (by simp[hc])
def V9 (h:c∈OO.flatten):c.1∈fl OO:=List.mem_map.mpr ⟨c,h,rfl⟩
def Hk (h:b∈fl OO):∃o,(b,o)∈OO.flatten:=by
 obtain⟨⟨a,o⟩,hc,rfl⟩:=List.mem_map.mp h
 exact⟨o,hc⟩
def W.fresh {OO}(w:W OO H)(h:H p=none):p∉fl OO:=λz=>by
 obtain⟨o,ho⟩:=Hk z
 have:=w.tr _ ho
 rw[h] at this;cases this
def W.new {OO}(w:W OO H)(h:H p=none)(m:Td o=true):W ([(p,o)]::OO) (upd H p o):=by
 have hf:=w.fresh h
 refine⟨λc hc=>?_,?_,λc hc=>?_⟩
 ·simp only[List.flatten_cons,List.cons_append,List.nil_append,List.mem_cons] at hc
  rcases hc with rfl |hc
  ·exact X9
  ·rw[XH (λe=>hf (by rw[←e];exact V9 hc))];exact w.tr c hc
 ·rw[XB];simpa using ⟨hf,w.nd⟩
 ·simp only[List.flatten_cons,List.cons_append,List.nil_append,List.mem_cons] at hc
  rcases hc with rfl |hc
  ·exact m
  ·exact w.mu c hc
def VT {OO}(h:H p=none):Xp (hid H OO) (hid (upd H p o) ([(p,o)]::OO)):=λb u q=>by
 obtain⟨q1,q2⟩:=XM q
 have hb:b≠p:=XQ q1 h
 refine YA (by rw[XH hb];exact q1) ?_
 rw[XB];simpa using ⟨hb,q2⟩
def Z9 {OO}(w:W OO H)(h:H p=none):hid (upd H p o) OO p=some o:=YA X9 (w.fresh h)
class MonoE {M:Type}(r:Enc M):Prop where
 mono:∀{K:W.Frag}{H H':Hp}{v:V}{a:M},Xp H H'->r K H v a->r K H' v a
def qr:HO->Bool
 | .tup _=>true
 | .frz _ _=>true
 |_=>false
def V3 (H H':Hp):Prop:=∀ b o,H b=some o->qr o=true->H' b=some o
def Xp.i {H H':Hp}(s:Xp H H'):V3 H H':=λb o h _=>s b o h
def W.i {OO}{H:Hp}(w:W OO H):V3 H (hid H OO):=λb o h i=>YA h λz=>by
 obtain⟨u,hu⟩:=Hk z
 have h1:=w.tr _ hu
 have h2:=w.mu _ hu
 rw[h] at h1
 have e:o=u:=Option.some.inj h1
 subst e
 revert i h2;cases o<;> simp[qr,Td]
def V3.trans (a:V3 H H1)(b:V3 H1 H2):V3 H H2:=λc o h i=>b c o (a c o h i) i
class FlatE {M:Type}(r:Enc M):Prop where
 flat:∀{K:W.Frag}{H H':Hp}{v:V}{a:M},V3 H H'->r K H v a->r K H' v a
instance {M:Type}{r:Enc M}[f:FlatE r]:MonoE r:=⟨λs h=>f.flat s.i h⟩
def XO:Enc Bool:=λ_ _ v b=>v= .bl b
def B8:Enc Str:=λ_ _ v x=>v= .str x
def JI (r:Enc M):Enc (Option M):=λK H v a=>match a with
 |none=>v= .non
 |some a=>v≠ .non/\r K H v a
def rV (r:Enc M):Enc (List M):=λK H v as=>∃ a xs,v= .ref a/\H a=some (.lst xs)/\Paired (r K H) xs as
def rPL (r:Enc M):Enc (List M):=λK H v as=>∃ a xs,v= .ref a/\H a=some (.tup xs)/\Paired (r K H) xs as
def rP2 (r:Enc M)(q:Enc L):Enc (M×L):=λK H v p=>∃ a x y,v= .ref a/\H a=some (.tup [x,y])/\r K H x p.1/\q K H y p.2
def rP3 (r:Enc M)(q:Enc L)(t:Enc B):Enc (M×L×B):=λK H v p=>∃ a x y z,v= .ref a/\H a=some (.tup [x,y,z])/\r K H x p.1/\q K H y p.2.1/\t K H z p.2.2
instance {M:Type}{r:Enc M}[m:MonoE r]:MonoE (rV r):=⟨λs r9=>by obtain⟨a,xs,e,q,p⟩:=r9;exact⟨a,xs,e,s _ _ q,Paired.imp2 (λ_ _ z=>m.mono s z) p⟩⟩
instance {M:Type}{r:Enc M}[m:MonoE r]:MonoE (rPL r):=⟨λs r9=>by obtain⟨a,xs,e,q,p⟩:=r9;exact⟨a,xs,e,s _ _ q,Paired.imp2 (λ_ _ z=>m.mono s z) p⟩⟩
instance {M:Type}{r:Enc M}[m:FlatE r]:FlatE (rPL r):=⟨λs r9=>by obtain⟨a,xs,e,q,p⟩:=r9;exact⟨a,xs,e,s _ _ q rfl,Paired.imp2 (λ_ _ z=>m.flat s z) p⟩⟩
instance {M L:Type}{r:Enc M}{q:Enc L}[m:MonoE r][n:MonoE q]:MonoE (rP2 r q):=⟨λs r9=>by obtain⟨a,x,y,e,h,p1,p2⟩:=r9;exact⟨a,x,y,e,s _ _ h,m.mono s p1,n.mono s p2⟩⟩
instance {M L:Type}{r:Enc M}{q:Enc L}[m:FlatE r][n:FlatE q]:FlatE (rP2 r q):=⟨λs r9=>by obtain⟨a,x,y,e,h,p1,p2⟩:=r9;exact⟨a,x,y,e,s _ _ h rfl,m.flat s p1,n.flat s p2⟩⟩
instance {M L B:Type}{r:Enc M}{q:Enc L}{t:Enc B}[m:MonoE r][n:MonoE q][k:MonoE t]:MonoE (rP3 r q t):=⟨λs r9=>by obtain⟨a,x,y,z,e,h,p1,p2,p3⟩:=r9;exact⟨a,x,y,z,e,s _ _ h,m.mono s p1,n.mono s p2,k.mono s p3⟩⟩
instance {M L B:Type}{r:Enc M}{q:Enc L}{t:Enc B}[m:FlatE r][n:FlatE q][k:FlatE t]:FlatE (rP3 r q t):=⟨λs r9=>by obtain⟨a,x,y,z,e,h,p1,p2,p3⟩:=r9;exact⟨a,x,y,z,e,s _ _ h rfl,m.flat s p1,n.flat s p2,k.flat s p3⟩⟩
instance:FlatE Xf:=⟨λ_ h=>h⟩
instance:FlatE XO:=⟨λ_ h=>h⟩
instance:FlatE B8:=⟨λ_ h=>h⟩
instance {M:Type}{r:Enc M}[m:MonoE r]:MonoE (rL r):=⟨λs r9=>by obtain⟨a,xs,e,q,p⟩:=r9;exact⟨a,xs,e,s.seq q,Paired.imp2 (λ_ _ z=>m.mono s z) p⟩⟩
instance {M:Type}{r:Enc M}[m:MonoE r]:MonoE (JI r):=⟨fun {K H H' v a} s h=>by cases a with
 |none=>exact h
 |some a=>exact⟨h.1,m.mono s h.2⟩⟩
instance {M:Type}{r:Enc M}[m:FlatE r]:FlatE (JI r):=⟨fun {K H H' v a} s h=>by cases a with
 |none=>exact h
 |some a=>exact⟨h.1,m.flat s h.2⟩⟩
abbrev OE (M:Type):=W.Frag->Hp->V->M->List XD->Prop
inductive P3 {M L B:Type}(F:M->L->B->Prop):List M->List L->List B->Prop where
 |nil:P3 F [] [] []
 |cons {a b c l m n}:F a b c->P3 F l m n->P3 F (a::l) (b::m) (c::n)
def oF (r:Enc M):OE M:=λK h v a C=>C=[]/\r K h v a
def oL (o:OE M):OE (List M):=λK h v as C=>∃ p xs Cs,v= .ref p/\P3 (o K h) xs as Cs/\C=(p, .lst xs)::Cs.flatten
def oT2 (o:OE M)(q:OE L):OE (M×L):=λK h v a C=>∃ p x y C1 C2,v= .ref p/\h p=some (.tup [x,y])/\o K h x a.1 C1/\q K h y a.2 C2/\C=C1++C2
def Sd (o:OE M):OE (Option M):=λK h v a C=>match a with
 |none=>v= .non/\C=[]
 |some a=>v≠ .non/\o K h v a C
section
def P3.imp {F:M->L->B->Prop}(h:∀a b c,F a b c->G a b c):∀{l m n},P3 F l m n->P3 G l m n:=λp=>by
 induction p with
 |nil=>exact .nil
 |cons r _ ih=>exact .cons (h _ _ _ r) ih
def P3.app {F:M->L->B->Prop}:∀{l m n l' m' n'},P3 F l m n->P3 F l' m' n'->P3 F (l++l') (m++m') (n++n'):=λp h=>by
 induction p with
 |nil=>exact h
 |cons r _ ih=>exact .cons r ih
def P3.snoc {F:M->L->B->Prop}{l m n a b c}(h:P3 F l m n)(r:F a b c):P3 F (l++[a]) (m++[b]) (n++[c]):=h.app (.cons r .nil)
def P3.len {F:M->L->B->Prop}:∀{l m n},P3 F l m n->l.length=m.length/\n.length=m.length:=λp=>by
 induction p with
 |nil=>exact⟨rfl,rfl⟩
 |cons _ _ ih=>exact⟨congrArg Nat.succ ih.1,congrArg Nat.succ ih.2⟩
def P3.pair {F:M->L->B->Prop}:∀{l m n},P3 F l m n->(∀a b c,c∈n->F a b c->G a b)->Paired G l m:=λp h=>by
 induction p with
 |nil=>exact .nil
 |cons r _ ih=>exact .cons (h _ _ _ List.mem_cons_self r) (ih λa b c hc=>h a b c (List.mem_cons_of_mem _ hc))
def P3.get {F:M->L->B->Prop}:∀{l m n}{i:Nat}{b:L},P3 F l m n->m[i]?=some b->∃a c,l[i]?=some a/\n[i]?=some c/\F a b c
 |_,_,_,_,_, .nil,e=>by simp at e
 |_,_,_,0,_, .cons r _,e=>by simp at e;subst e;exact⟨_,_,rfl,rfl,r⟩
 |_,_,_,i+1,b, .cons _ t,e=>by
  obtain⟨a,c,h1,h2,h3⟩:=P3.get (i:=i) (b:=b) t (by simpa using e)
  exact⟨a,c,by simpa using h1,by simpa using h2,h3⟩
def P3.set {F:M->L->B->Prop}{a:M}{b:L}(r:F a b c):∀{l m n} (i:Nat),P3 F l m n->P3 F (l.set i a) (m.set i b) (n.set i c)
 |_,_,_,_, .nil=>.nil
 |_,_,_,0, .cons _ t=>.cons r t
 |_,_,_,i+1, .cons q t=>.cons q (P3.set r i t)
def P3.flat:∀{l:List M}{m:List L}{n:List (List XD)},P3 (λa b c=>c=[]/\F a b) l m n->Paired F l m/\n.flatten=[]:=λp=>by
 induction p with
 |nil=>exact⟨.nil,rfl⟩
 |cons r _ ih=>exact⟨.cons r.2 ih.1,by rw[List.flatten_cons,r.1,ih.2];rfl⟩
def P3.of:∀{l:List M}{m:List L},Paired F l m->P3 (λa b (c:List XD)=>c=[]/\F a b) l m (List.replicate m.length [])
 |_,_, .nil=>.nil
 |_,_, .cons r t=>.cons ⟨rfl,r⟩ (P3.of t)
def Yh:∀n:Nat,(List.replicate n ([]:List XD)).flatten=[]
 |0=>rfl
 |n+1=>by simp[List.replicate_succ,Yh n]
end
class MonoO {M:Type}(o:OE M):Prop where
 mono:∀{K:W.Frag}{H H':Hp}{v:V}{a:M}{C:List XD},Xp H H'->o K H v a C->o K H' v a C
class FlatO {M:Type}(o:OE M):Prop where
 flat:∀{K:W.Frag}{H H':Hp}{v:V}{a:M}{C:List XD},V3 H H'->o K H v a C->o K H' v a C
class FrzC {M:Type}(o:OE M)(r:outParam (Enc M)):Prop where
 frz:∀{K:W.Frag}{H H':Hp}{v:V}{a:M}{C:List XD},o K H v a C->Xp H H'->(∀c∈C,H' c.1=some c.2)->r K H' v a
instance {M:Type}{r:Enc M}[m:MonoE r]:MonoO (oF r):=⟨λs h=>⟨h.1,m.mono s h.2⟩⟩
instance {M:Type}{r:Enc M}[m:FlatE r]:FlatO (oF r):=⟨λs h=>⟨h.1,m.flat s h.2⟩⟩
instance {M:Type}{r:Enc M}[m:MonoE r]:FrzC (oF r) r:=⟨λh s _=>m.mono s h.2⟩
instance {M:Type}{o:OE M}[m:MonoO o]:MonoO (oL o):=⟨λs r9=>by obtain⟨p,xs,Cs,e,q,c⟩:=r9;exact⟨p,xs,Cs,e,q.imp λ_ _ _ z=>m.mono s z,c⟩⟩
instance {M:Type}{o:OE M}[m:FlatO o]:FlatO (oL o):=⟨λs r9=>by obtain⟨p,xs,Cs,e,q,c⟩:=r9;exact⟨p,xs,Cs,e,q.imp λ_ _ _ z=>m.flat s z,c⟩⟩
instance {M:Type}{o:OE M}{r:Enc M}[m:FrzC o r]:FrzC (oL o) (rV r):=⟨λ⟨p,xs,Cs,e,q,c⟩ s hc=>by
 subst c
 exact⟨p,xs,e,hc _ List.mem_cons_self,q.pair λa b c hm z=>m.frz z s λx hx=>hc x (List.mem_cons_of_mem _ (List.mem_flatten.mpr ⟨c,hm,hx⟩))⟩⟩
instance {M L:Type}{o:OE M}{q:OE L}[m:MonoO o][n:MonoO q]:MonoO (oT2 o q):=⟨λs r9=>by obtain⟨p,x,y,C1,C2,e,h,h1,h2,c⟩:=r9;exact⟨p,x,y,C1,C2,e,s _ _ h,m.mono s h1,n.mono s h2,c⟩⟩
instance {M L:Type}{o:OE M}{q:OE L}[m:FlatO o][n:FlatO q]:FlatO (oT2 o q):=⟨λs r9=>by obtain⟨p,x,y,C1,C2,e,h,h1,h2,c⟩:=r9;exact⟨p,x,y,C1,C2,e,s _ _ h rfl,m.flat s h1,n.flat s h2,c⟩⟩
instance {M L:Type}{o:OE M}{q:OE L}{r:Enc M}{t:Enc L}[m:FrzC o r][n:FrzC q t]:FrzC (oT2 o q) (rP2 r t):=⟨λ⟨p,x,y,C1,C2,e,h,h1,h2,c⟩ s hc=>by
 subst c
 exact⟨p,x,y,e,s _ _ h,m.frz h1 s λc hm=>hc c (by simp[hm]),n.frz h2 s λc hm=>hc c (by simp[hm])⟩⟩
instance {M:Type}{o:OE M}[m:MonoO o]:MonoO (Sd o):=⟨fun {K H H' v a C} s h=>by cases a with
 |none=>exact h
 |some a=>exact⟨h.1,m.mono s h.2⟩⟩
instance {M:Type}{o:OE M}[m:FlatO o]:FlatO (Sd o):=⟨fun {K H H' v a C} s h=>by cases a with
 |none=>exact h
 |some a=>exact⟨h.1,m.flat s h.2⟩⟩
instance {M:Type}{o:OE M}{r:Enc M}[m:FrzC o r]:FrzC (Sd o) (JI r):=⟨fun {K H H' v a C} h s hc=>by cases a with
 |none=>exact h.1
 |some a=>exact⟨h.1,m.frz h.2 s hc⟩⟩
structure SC where
 p:Hp->Prop
 mono:∀h h',Xp h h'->p h->p h'
def SC.nil:SC:=⟨λ_=>True,λ_ _ _ _=>True.intro⟩
def SC.and (S T:SC):SC:=⟨λh=>S.p h/\T.p h,λ_ _ s q=>⟨S.mono _ _ s q.1,T.mono _ _ s q.2⟩⟩
def SC.one (K:W.Frag)(r:Enc M)[m:MonoE r](v:V)(a:M):SC:=⟨λh=>r K h v a,λ_ _ s q=>m.mono s q⟩
def SC.oneO (K:W.Frag)(o:OE M)[m:MonoO o](v:V)(a:M)(C:List XD):SC:=⟨λh=>o K h v a C,λ_ _ s q=>m.mono s q⟩
abbrev SC.add (S:SC)(K:W.Frag)(r:Enc M)[m:MonoE r](v:V)(a:M):SC:=S.and (SC.one K r v a)
abbrev SC.addO (S:SC)(K:W.Frag)(o:OE M)[m:MonoO o](v:V)(a:M)(C:List XD):SC:=S.and (SC.oneO K o v a C)
def SC.l {S T:SC}{h:Hp}(q:(S.and T).p h):S.p h:=q.1
def SC.r {S:SC}(q:(S.and T).p h):T.p h:=q.2
def SC.i {S T:SC}{h:Hp}(q:S.p h)(p:T.p h):(S.and T).p h:=⟨q,p⟩
def SC.t {h:Hp}:SC.nil.p h:=True.intro
def SC.p.l {S T:SC}{h:Hp}(q:(S.and T).p h):S.p h:=q.1
def SC.p.r {S T:SC}{h:Hp}(q:(S.and T).p h):T.p h:=q.2
def PZ (Er:Exc->Hp->Prop)(F:L->Hp->Prop)(H:Hp)(m:Rs L):Prop:=
 match m with
 | .bad=>False
 | .err x=>∀ H',Xp H H'->Er x H'
 | .ok b=>F b H
section
variable (K:W.Frag)(Er:Exc->Hp->Prop)(S:SC)(OO OO':List (List XD))(U:St)
def FB (r:Enc M)(Q:VK)(a:M)(H:Hp):Prop:=∀ v H',Xp H H'->r K H' v a->Q v H'
def FO (o:OE M)(Q:VK)(a:M)(H:Hp):Prop:=∀ v C H',Xp H H'->W (C::OO') H'->Xp (hid H OO) (hid H' (C::OO'))->o K (hid H' (C::OO')) v a C->Q v H'
def FT (Q:Bool->Hp->Prop)(b:Bool)(H:Hp):Prop:=∀ H',Xp H H'->Q b H'
def EvB (te:TE)(r:Enc M)(m:Rs M):Prop:=∀ H Q,W OO H->S.p (hid H OO)->PZ Er (FB K r Q) H m->te U H Q
def Ev (te:TE)(o:OE M)(m:Rs M):Prop:=∀ H Q,W OO H->S.p (hid H OO)->PZ Er (FO K OO OO' o Q) H m->te U H Q
def EvT (tt:TT)(m:Rs Bool):Prop:=∀ H Q,W OO H->S.p (hid H OO)->PZ Er (FT Q) H m->tt U H Q
end
section
variable {Er:Exc->Hp->Prop}{S:SC}{OO OO' bp:List (List XD)}
def FB.tr {Q:VK}:∀a H H',Xp H H'->FB K r Q a H->FB K r Q a H':=λa H H' s h v H2 s2 q=>h v H2 (s.trans s2) q
def FO.tr {Q:VK}:∀a H H',Xp H H'->FO K OO OO' o Q a H->FO K OO OO' o Q a H':=λa H H' s h v C H2 s2 w m q=>h v C H2 (s.trans s2) w ((Xh s).trans m) q
def FT.tr {Q:Bool->Hp->Prop}:∀b H H',Xp H H'->FT Q b H->FT Q b H':=λa H H' s h H2 s2=>h H2 (s.trans s2)
def EvB.run (he:EvB K Er S OO U te r m){Q:VK}(w:W OO H)(s:S.p (hid H OO)){F:L->Hp->Prop}(hF:∀b H H',Xp H H'->F b H->F b H')(P:PZ Er F H (m.bind f))
  (hk:∀a v H',Xp H H'->W OO H'->S.p (hid H' OO)->r K H' v a->PZ Er F H' (f a)->Q v H'):te U H Q:=by
 refine he H Q w s ?_
 cases m with
 |bad=>exact P
 |err x=>exact P
 |ok a=>
  intro v H' s' hr
  refine hk a v H' s' (w.keep s') (S.mono _ _ (Xh s') s) hr ?_
  have P':PZ Er F H (f a):=P
  revert P'
  cases f a with
  |bad=>exact λz=>z
  |err x=>exact λz H2 s2=>z H2 (s'.trans s2)
  |ok b=>exact λz=>hF b H H' s' z
def EvT.run (he:EvT Er S OO U tt m){Q:Bool->Hp->Prop}(w:W OO H)(s:S.p (hid H OO)){F:L->Hp->Prop}(hF:∀b H H',Xp H H'->F b H->F b H')(P:PZ Er F H (m.bind f))
  (hk:∀b H',Xp H H'->W OO H'->S.p (hid H' OO)->PZ Er F H' (f b)->Q b H'):tt U H Q:=by
 refine he H Q w s ?_
 cases m with
 |bad=>exact P
 |err x=>exact P
 |ok a=>
  intro H' s'
  refine hk a H' s' (w.keep s') (S.mono _ _ (Xh s') s) ?_
  have P':PZ Er F H (f a):=P
  revert P'
  cases f a with
  |bad=>exact λz=>z
  |err x=>exact λz H2 s2=>z H2 (s'.trans s2)
  |ok b=>exact λz=>hF b H H' s' z
def Ev.toB [z:FrzC o r](he:Ev K Er S OO OO U te o m):EvB K Er S OO U te r m:=λH Q w s P=>by
 refine he H Q w s ?_
 cases m with
 |bad=>exact P
 |err x=>exact P
 |ok a=>exact λv C H' s' w' m' ho=>P v H' s' (z.frz ho Xn w'.cell)
def Ev.frz [z:FrzC o r](he:Ev K Er S OO OO' U te o m):Ev K Er S OO OO' U te (oF r) m:=λH Q w s P=>by
 refine he H Q w s ?_
 cases m with
 |bad=>exact P
 |err x=>exact P
 |ok a=>
  intro v C H' s' w' m' ho
  have hs:Xp (hid H' (C::OO')) (hid H' ([]::OO')):=Zv (Xp.refl _) λb hb=>by rw[MN] at hb;rw[XB];simp[hb]
  refine P v [] H' s' w'.tail.nil (m'.trans hs) ⟨rfl,z.frz ho hs λc hc=>YA (w'.cell c hc) ?_⟩
  rw[MN]
  have:=w'.nd
  rw[XB] at this
  intro hb
  exact(List.nodup_append.mp this).2.2 c.1 (List.mem_map.mpr ⟨c,hc,rfl⟩) c.1 hb rfl
def EvB.flat {te:TE}{r:Enc M}[z:FlatE r]{m:Rs M}(he:EvB K Er S OO U te r m):Ev K Er S OO OO U te (oF r) m:=λH Q w s P=>by
 refine he H Q w s ?_
 cases m with
 |bad=>exact P
 |err x=>exact P
 |ok a=>
  intro v H' s' hr
  have w':=w.keep s'
  exact P v [] H' s' w'.nil (by rw[YK];exact Xh s') ⟨rfl,by rw[YK];exact z.flat w'.i hr⟩
def R9 [z:MonoE r]{a:M}(i:Nat)(hσ:U[i]?=some (some v))(h:∀x,S.p x->r K x v a):EvB K Er S OO U (Q0 i) r (.ok a):=λH Q w s P=>
 ⟨v,hσ,P v H (Xp.refl _) (z.mono Xn (h _ s))⟩
def PR [z:FrzC o r]{a:M}(i k:Nat)(hσ:U[i]?=some (some v))(hk:OO[k]?=some C)(h:∀x,S.p x->o K x v a C):EvB K Er S OO U (Q0 i) r (.ok a):=λH Q w s P=>
 ⟨v,hσ,P v H (Xp.refl _) (z.frz (h _ s) Xn λc hc=>w.tr c (List.mem_flatten.mpr ⟨C,List.mem_of_getElem? hk,hc⟩))⟩
def XN:∀{OO:List (List XD)}{k:Nat}{C:List XD},OO[k]?=some C->(C::OO.set k []).flatten.Perm OO.flatten
 | [],_,_,h=>by simp at h
 |D::OO,0,C,h=>by simp at h;subst h;simp
 |D::OO,k+1,C,h=>by
  have:=XN (OO:=OO) (k:=k) (C:=C) (by simpa using h)
  simp only[List.set_cons_succ,List.flatten_cons] at this⊢
  refine List.Perm.trans ?_ (this.append_left D)
  rw[←List.append_assoc, ←List.append_assoc]
  exact List.perm_append_comm.append_right _
def V0 {OO OO':List (List XD)}(h:OO'.flatten.Perm OO.flatten)(b:Addr):b∈fl OO'↔b∈fl OO:=(h.map (·.1)).mem_iff
def XF {OO OO':List (List XD)}(h:OO'.flatten.Perm OO.flatten):hid H OO'=hid H OO:=by
 funext b;unfold hid
 by_cases hb:b∈fl OO
 ·rw[if_pos hb,if_pos ((V0 h b).mpr hb)]
 ·rw[if_neg hb,if_neg λz=>hb ((V0 h b).mp z)]
def Rq {a:M}(i k:Nat)(hσ:U[i]?=some (some v))(hk:OO[k]?=some C)(h:∀x,S.p x->o K x v a C):Ev K Er S OO (OO.set k []) U (Q0 i) o (.ok a):=λH Q w s P=>by
 have hp:=XN hk
 exact⟨v,hσ,P v C H (Xp.refl _) (w.of hp) (by rw[XF hp];exact Xp.refl _) (by rw[XF hp];exact h _ s)⟩
def Gw (n:Int):EvB K Er S OO U (tC (.int n)) Xf (.ok n):=λH Q w s P=>P _ H (Xp.refl _) rfl
def WN (b:Bool):EvB K Er S OO U (tC (.bl b)) XO (.ok b):=λH Q w s P=>P _ H (Xp.refl _) rfl
def Ry (x:Str):EvB K Er S OO U (tC (.str x)) B8 (.ok x):=λH Q w s P=>P _ H (Xp.refl _) rfl
def LJ:Ev K Er S OO OO U (tC .non) (Sd o) (.ok none):=λH Q w s P=>P _ [] H (Xp.refl _) w.nil (by rw[YK];exact Xp.refl _) ⟨rfl,rfl⟩
def KE {g:Int->Int->V}{r:Enc L}{f:Int->Int->L}{ma mb:Rs Int}(hg:∀K H i j,r K H (g i j) (f i j))(ha:EvB K Er S OO U ta Xf ma)(hb:EvB K Er S OO U tb Xf mb):
  EvB K Er S OO U (tOp (rI0 g) ta tb) r (ma.bind λa=>mb.bind λb=>.ok (f a b)):=λH Q w s P=>
 ha.run w s FB.tr P λa x H1 s1 w1 q1 r1 P1=>hb.run w1 q1 FB.tr P1 λb y H2 s2 w2 q2 r2 P2=>⟨a,b,r1,r2,P2 _ H2 (Xp.refl _) (hg K H2 a b)⟩
def FC {Cc:Int->Int->Prop}{g:Int->Int->V}{r:Enc L}{f:Int->Int->Rs L}{ma mb:Rs Int}(hg:∀K H i j c,f i j= .ok c->Cc i j/\r K H (g i j) c)(he:∀i j x,f i j≠ .err x)
  (ha:EvB K Er S OO U ta Xf ma)(hb:EvB K Er S OO U tb Xf mb):
  EvB K Er S OO U (tOp (rI Cc g) ta tb) r (ma.bind λa=>mb.bind λb=>f a b):=λH Q w s P=>
 ha.run w s FB.tr P λa x H1 s1 w1 q1 r1 P1=>hb.run w1 q1 FB.tr P1 λb y H2 s2 w2 q2 r2 P2=>by
  cases e:f a b with
  |bad=>rw[e] at P2;exact P2.elim
  |err x=>exact absurd e (he a b x)
  |ok c=>
   rw[e] at P2
   obtain⟨h1,h2⟩:=hg K H2 a b c e
   exact⟨a,b,r1,r2,h1,P2 _ H2 (Xp.refl _) h2⟩
def MZ (a b:Int):Rs Int:=chk ((-(2^64)<a/\a<2^64)∨(-(2^64)<b/\b<2^64)) (.ok (a*b))
def Wt (a b:Int):Rs Int:=chk (0<b) (.ok (a % b))
def AF (a b:Int):Rs Int:=chk (0<b/\b.natAbs.log2<9000) (.ok (a/b))
def W5 (a b:Int):Rs Int:=chk (0<=b/\b<=1000000/\a.natAbs<2^64) (.ok (a^b.toNat))
def Zf [Decidable c]{a:M}(h:chk c m= .ok a):c/\m= .ok a:=by
 unfold chk at h;split at h
 ·exact⟨by assumption,h⟩
 ·cases h
def QY [Decidable c]{a:M}{x:Exc}:chk c (Rs.ok a)≠ .err x:=by
 unfold chk;split<;> exact λz=>nomatch z
def Jp {ma mb:Rs Int}(ha:EvB K Er S OO U ta Xf ma)(hb:EvB K Er S OO U tb Xf mb):EvB K Er S OO U (tOp (rI Tb λi j=>.int (i*j)) ta tb) Xf (ma.bind λa=>mb.bind λb=>MZ a b):=
 FC (λK H i j c h=>by obtain⟨h1,h2⟩:=Zf h;cases h2;exact⟨h1,rfl⟩) (λi j x=>QY) ha hb
def Se {ma mb:Rs Int}(ha:EvB K Er S OO U ta Xf ma)(hb:EvB K Er S OO U tb Xf mb):EvB K Er S OO U (tOp (rI (λ_ j=>0<j) λi j=>.int (i % j)) ta tb) Xf (ma.bind λa=>mb.bind λb=>Wt a b):=
 FC (λK H i j c h=>by obtain⟨h1,h2⟩:=Zf h;cases h2;exact⟨h1,rfl⟩) (λi j x=>QY) ha hb
def Sa {ma mb:Rs Int}(ha:EvB K Er S OO U ta Xf ma)(hb:EvB K Er S OO U tb Xf mb):EvB K Er S OO U (tOp (rI (λ_ j=>0<j/\j.natAbs.log2<9000) λi j=>.int (i/j)) ta tb) Xf (ma.bind λa=>mb.bind λb=>AF a b):=
 FC (λK H i j c h=>by obtain⟨h1,h2⟩:=Zf h;cases h2;exact⟨h1,rfl⟩) (λi j x=>QY) ha hb
def PK {ma mb:Rs Int}(ha:EvB K Er S OO U ta Xf ma)(hb:EvB K Er S OO U tb Xf mb):EvB K Er S OO U (tOp (rI AC λi j=>.int (i^j.toNat)) ta tb) Xf (ma.bind λa=>mb.bind λb=>W5 a b):=
 FC (λK H i j c h=>by obtain⟨h1,h2⟩:=Zf h;cases h2;exact⟨h1,rfl⟩) (λi j x=>QY) ha hb
def CG {ma mb:Rs Int}(ha:EvB K Er S OO U ta Xf ma)(hb:EvB K Er S OO U tb Xf mb):EvB K Er S OO U (tOp (rI0 λi j=>.int (i+j)) ta tb) Xf (ma.bind λa=>mb.bind λb=>.ok (a+b)):=KE (λ_ _ _ _=>rfl) ha hb
def UW {ma mb:Rs Int}(ha:EvB K Er S OO U ta Xf ma)(hb:EvB K Er S OO U tb Xf mb):EvB K Er S OO U (tOp (rI0 λi j=>.int (i-j)) ta tb) Xf (ma.bind λa=>mb.bind λb=>.ok (a-b)):=KE (λ_ _ _ _=>rfl) ha hb
def Lb {ma mb:Rs Int}(ha:EvB K Er S OO U ta Xf ma)(hb:EvB K Er S OO U tb Xf mb):EvB K Er S OO U (tOp (rI0 λi j=>.bl (decide (i<j))) ta tb) XO (ma.bind λa=>mb.bind λb=>.ok (decide (a<b))):=KE (λ_ _ _ _=>rfl) ha hb
def Wi {ma mb:Rs Int}(ha:EvB K Er S OO U ta Xf ma)(hb:EvB K Er S OO U tb Xf mb):EvB K Er S OO U (tOp (rI0 λi j=>.bl (decide (i<=j))) ta tb) XO (ma.bind λa=>mb.bind λb=>.ok (decide (a<=b))):=KE (λ_ _ _ _=>rfl) ha hb
def OJ {ma mb:Rs Int}(ha:EvB K Er S OO U ta Xf ma)(hb:EvB K Er S OO U tb Xf mb):EvB K Er S OO U (tOp (rI0 λi j=>.bl (decide (j<i))) ta tb) XO (ma.bind λa=>mb.bind λb=>.ok (decide (b<a))):=KE (λ_ _ _ _=>rfl) ha hb
def GV (ha:EvB K Er S OO U ta Xf ma):EvB K Er S OO U (tUn (rU λi=>.int (-i)) ta) Xf (ma.bind λa=>.ok (-a)):=λH Q w s P=>
 ha.run w s FB.tr P λa x H1 s1 w1 q1 r1 P1=>⟨a,r1,P1 _ H1 (Xp.refl _) rfl⟩
class Scal {M:Type}[DecidableEq M](r:Enc M):Prop where
 to:∀{K:W.Frag}{H H':Hp}{x y:V}{a b:M},r K H x a->r K H' y b->AG x y=true/\decide (x=y)=decide (a=b)
instance:Scal Xf:=⟨fun {K H H' x y a b} h1 h2=>by cases(show x= .int a from h1);cases(show y= .int b from h2);exact⟨rfl,by simp⟩⟩
instance:Scal XO:=⟨fun {K H H' x y a b} h1 h2=>by cases(show x= .bl a from h1);cases(show y= .bl b from h2);exact⟨rfl,by simp⟩⟩
instance:Scal B8:=⟨fun {K H H' x y a b} h1 h2=>by cases(show x= .str a from h1);cases(show y= .str b from h2);exact⟨rfl,by simp⟩⟩
def JN [DecidableEq M]{r:Enc M}[z:Scal r][MonoE r]{ma mb:Rs M}(ha:EvB K Er S OO U ta r ma)(hb:EvB K Er S OO U tb r mb):EvB K Er S OO U (tOp rEq ta tb) XO (ma.bind λa=>mb.bind λb=>.ok (decide (a=b))):=λH Q w s P=>
 ha.run w s FB.tr P λa x H1 s1 w1 q1 r1 P1=>hb.run w1 q1 FB.tr P1 λb y H2 s2 w2 q2 r2 P2=>by
  obtain⟨h1,h2⟩:=z.to r1 r2
  exact⟨h1,P2 _ H2 (Xp.refl _) (by rw[h2];rfl)⟩
def De [DecidableEq M]{r:Enc M}[z:Scal r][MonoE r]{ma mb:Rs M}(ha:EvB K Er S OO U ta r ma)(hb:EvB K Er S OO U tb r mb):EvB K Er S OO U (tOp rNe ta tb) XO (ma.bind λa=>mb.bind λb=>.ok (!decide (a=b))):=λH Q w s P=>
 ha.run w s FB.tr P λa x H1 s1 w1 q1 r1 P1=>hb.run w1 q1 FB.tr P1 λb y H2 s2 w2 q2 r2 P2=>by
  obtain⟨h1,h2⟩:=z.to r1 r2
  exact⟨h1,P2 _ H2 (Xp.refl _) (by rw[h2];rfl)⟩
def Cv [DecidableEq M]{r:Enc M}[z:MonoE r]{ma mb:Rs M}(ha:EvB K Er S OO U ta r ma)(hb:EvB K Er S OO U tb r mb):EvB K Er S OO U (tOp (WW K r) ta tb) XO (ma.bind λa=>mb.bind λb=>.ok (!decide (a=b))):=λH Q w s P=>
 ha.run w s FB.tr P λa x H1 s1 w1 q1 r1 P1=>hb.run w1 q1 FB.tr P1 λb y H2 s2 w2 q2 r2 P2=>⟨a,b,z.mono s2 r1,r2,P2 _ H2 (Xp.refl _) rfl⟩
def E4 (h:EvB K Er S OO U te XO m):EvT Er S OO U (tB te) m:=λH Q w s P=>h H _ w s (by
 cases m with
 |bad=>exact P
 |err x=>exact P
 |ok a=>exact λv H' s' r=>⟨a,r,P H' s'⟩)
def XT (h:EvB K Er S OO U te XO m):EvT Er S OO U (HK te) m:=E4 h
def CC (h:EvT Er S OO U t m):EvT Er S OO U (AB t) (m.bind λb=>.ok (!b)):=λH Q w s P=>h.run w s FT.tr P λb H1 s1 w1 q1 P1=>P1 H1 (Xp.refl _)
def Pe (a b:Rs Bool):Rs Bool:=a.bind λx=>if x=true then b else .ok false
def orR (a b:Rs Bool):Rs Bool:=a.bind λx=>if x=true then .ok true else b
def Rz {u:TT}{n:Rs Bool}(h:EvT Er S OO U t m)(k:EvT Er S OO U u n):EvT Er S OO U (Am t u) (Pe m n):=λH Q w s P=>h.run w s FT.tr P λb H1 s1 w1 q1 P1=>by
 cases b with
 |true=>rw[if_pos rfl] at P1⊢;exact k H1 Q w1 q1 P1
 |false=>exact P1 H1 (Xp.refl _)
def Ku {u:TT}{n:Rs Bool}(h:EvT Er S OO U t m)(k:EvT Er S OO U u n):EvT Er S OO U (tOr t u) (orR m n):=λH Q w s P=>h.run w s FT.tr P λb H1 s1 w1 q1 P1=>by
 cases b with
 |true=>exact P1 H1 (Xp.refl _)
 |false=>exact k H1 Q w1 q1 P1
def Gz {u:TE}{n:Rs Bool}(h:EvB K Er S OO U t XO m)(k:EvB K Er S OO U u XO n):EvB K Er S OO U (RE t u) XO (Pe m n):=λH Q w s P=>h.run w s FB.tr P λb x H1 s1 w1 q1 r1 P1=>⟨b,r1,by
 cases b with
 |true=>rw[if_pos rfl] at P1⊢;exact k H1 Q w1 q1 P1
 |false=>exact P1 _ H1 (Xp.refl _) rfl⟩
def Ah (hc:EvT Er S OO U c mc)(ha:Ev K Er S OO OO' U ta o ma)(hb:Ev K Er S OO OO' U tb o mb):Ev K Er S OO OO' U (tIf c ta tb) o (mc.bind λb=>if b=true then ma else mb):=λH Q w s P=>
 hc.run w s FO.tr P λb H1 s1 w1 q1 P1=>by
  cases b with
  |true=>rw[if_pos rfl] at P1⊢;exact ha H1 Q w1 q1 P1
  |false=>exact hb H1 Q w1 q1 P1
end
end L2
variable {S:L2.SC}{r:L2.Enc M}{r0:L2.Enc α0}{r1:L2.Enc α1}{r2:L2.Enc α2}{r3:L2.Enc α3}{r4:L2.Enc α4}{r5:L2.Enc α5}{OO OO' OO1 bp Cs:List (List L2.XD)}{Er:L2.Exc->L2.Hp->Prop}{C Cx_ Cy:List L2.XD}{o:L2.OE M}{ma m:L2.Rs (List M)}{mb mi mk:L2.Rs Int}{mc:L2.Rs Bool}{f:M->L2.Rs L}{tb_:L2.TS}
namespace L2
open PySem PySem.Spec PyProof.Rows
section
variable (K:W.Frag)(Er:Exc->Hp->Prop)(S:SC)(OO:List (List XD))(U:St)
def FS (r:Enc M)(Q:VK)(a:M)(H:Hp):Prop:=∀ v H',Xp H H'->r K (hid H' OO) v a->Q v H'
def EvS (te:TE)(r:Enc M)(m:Rs M):Prop:=∀ H Q,W OO H->S.p (hid H OO)->PZ Er (FS K OO r Q) H m->te U H Q
def rE (r:Enc M)(H:Hp)(v:V)(as:List M):Prop:=∃ p xs,v= .ref p/\H p=some (.lst xs)/\Paired (r K (hid H OO)) xs as
def FL (r:Enc M)(Q:VK)(as:List M)(H:Hp):Prop:=∀ v H',Xp H H'->rE K OO r H' v as->Q v H'
def EvL (te:TE)(r:Enc M)(m:Rs (List M)):Prop:=∀ H Q,W OO H->S.p (hid H OO)->PZ Er (FL K OO r Q) H m->te U H Q
end
section
def FS.tr {Q:VK}:∀a H H',Xp H H'->FS K OO r Q a H->FS K OO r Q a H':=λa H H' s h v H2 s2 q=>h v H2 (s.trans s2) q
def PZ.run {F:L->Hp->Prop}{a:M}{m:Rs M}(hm:m= .ok a)(hF:∀b H H',Xp H H'->F b H->F b H')(s:Xp H H')(P:PZ Er F H (m.bind f)):PZ Er F H' (f a):=by
 subst hm
 have P':PZ Er F H (f a):=P
 revert P'
 cases f a with
 |bad=>exact λz=>z
 |err x=>exact λz H2 s2=>z H2 (s.trans s2)
 |ok b=>exact λz=>hF b H H' s z
def EvS.run {m:Rs M}(he:EvS K Er S OO U te r m){Q:VK}(w:W OO H)(s:S.p (hid H OO)){F:L->Hp->Prop}(hF:∀b H H',Xp H H'->F b H->F b H')(P:PZ Er F H (m.bind f))
  (hk:∀a v H',Xp H H'->W OO H'->S.p (hid H' OO)->r K (hid H' OO) v a->PZ Er F H' (f a)->Q v H'):te U H Q:=by
 refine he H Q w s ?_
 cases e:m with
 |bad=>rw[e] at P;exact P
 |err x=>rw[e] at P;exact P
 |ok a=>exact λv H' s' hr=>hk a v H' s' (w.keep s') (S.mono _ _ (Xh s') s) hr (PZ.run e hF s' P)
def EvL.run (he:EvL K Er S OO U te r m){Q:VK}(w:W OO H)(s:S.p (hid H OO)){f:List M->Rs L}{F:L->Hp->Prop}(hF:∀b H H',Xp H H'->F b H->F b H')(P:PZ Er F H (m.bind f))
  (hk:∀a v H',Xp H H'->W OO H'->S.p (hid H' OO)->rE K OO r H' v a->PZ Er F H' (f a)->Q v H'):te U H Q:=by
 refine he H Q w s ?_
 cases e:m with
 |bad=>rw[e] at P;exact P
 |err x=>rw[e] at P;exact P
 |ok a=>exact λv H' s' hr=>hk a v H' s' (w.keep s') (S.mono _ _ (Xh s') s) hr (PZ.run e hF s' P)
def PZ.imp {F:L->Hp->Prop}{m:Rs L}(P:PZ Er F H m)(h:∀b,m= .ok b->F b H->G b H):PZ Er G H m:=by
 cases m with
 |bad=>exact P
 |err x=>exact P
 |ok b=>exact h b rfl P
def EvS.ev {m:Rs M}(he:EvS K Er S OO U te r m):Ev K Er S OO OO U te (oF r) m:=λH Q w s P=>he H Q w s (P.imp λb _ h v H' s' q=>
 h v [] H' s' (w.keep s').nil (by rw[YK];exact Xh s') ⟨rfl,by rw[YK];exact q⟩)
def EvB.sh [z:FlatE r]{m:Rs M}(he:EvB K Er S OO U te r m):EvS K Er S OO U te r m:=λH Q w s P=>he H Q w s (P.imp λb _ h v H' s' q=>h v H' s' (z.flat (w.keep s').i q))
def Ev.sh [z:FrzC o r]{m:Rs M}(he:Ev K Er S OO OO U te o m):EvS K Er S OO U te r m:=λH Q w s P=>he.frz H Q w s (P.imp λb _ h v C H' s' w' m' q=>by
 obtain⟨rfl,q⟩:=q
 rw[YK] at q
 exact h v H' s' q)
def SW {a:M}(i:Nat)(hσ:U[i]?=some (some v))(h:∀x,S.p x->r K x v a):EvS K Er S OO U (Q0 i) r (.ok a):=λH Q w s P=>⟨v,hσ,P v H (Xp.refl _) (h _ s)⟩
def EvS.ls (he:EvS K Er S OO U te (rV r) m):EvL K Er S OO U te r m:=λH Q w s P=>he H Q w s (P.imp λb _ h v H' s' r9=>by obtain⟨p,xs,e,q,pr⟩:=r9;exact h v H' s' ⟨p,xs,e,Xn _ _ q,pr⟩)
def EvB.ls [z:FlatE r](he:EvB K Er S OO U te (rV r) m):EvL K Er S OO U te r m:=λH Q w s P=>he H Q w s (P.imp λb _ h v H' s' r9=>by obtain⟨p,xs,e,q,pr⟩:=r9;exact h v H' s' ⟨p,xs,e,q,Paired.imp2 (λ_ _ z'=>z.flat (w.keep s').i z') pr⟩)
def Ev.ls [z:MonoE r](he:Ev K Er S OO OO U te (oL (oF r)) m):EvL K Er S OO U te r m:=he.sh.ls
def atR (as:List M)(i:Int):Rs M:=match atI as i with
 |some a=>.ok a
 |none=>.bad
def FR {a:M}(h:atR as i= .ok a):atI as i=some a:=by
 unfold atR at h;split at h
 ·cases h;assumption
 ·cases h
def V8 {x:Exc}:atR as i≠ .err x:=by unfold atR;split<;> exact λz=>nomatch z
def JC {F:V->M->Prop}{a:M}(p:Paired F xs as)(h:atI as i=some a):∃x,atI xs i=some x/\F x a:=by
 unfold atI at h⊢
 rw[Paired.len p]
 cases e:ixN as.length i with
 |none=>rw[e] at h;cases h
 |some j=>
  rw[e] at h
  obtain⟨x,h1,h2⟩:=Paired.getR p h
  exact⟨x,h1,h2⟩
def PZ.okOf {F:L->Hp->Prop}{m:Rs L}(he:∀x,m≠ .err x)(P:PZ Er F H m):∃b,m= .ok b/\F b H:=by
 cases m with
 |bad=>exact P.elim
 |err x=>exact absurd rfl (he x)
 |ok b=>exact⟨b,rfl,P⟩
def OM [z:MonoE r](ha:EvB K Er S OO U ta (rV r) ma)(hb:EvB K Er S OO U tb Xf mb):EvB K Er S OO U (tOp (BC K) ta tb) r (ma.bind λas=>mb.bind λi=>atR as i):=λH Q w s P=>
 ha.run w s FB.tr P λa x H1 s1 w1 q1 ⟨p,xs,e,q,pr⟩ P1=>hb.run w1 q1 FB.tr P1 λb y H2 s2 w2 q2 r2 P2=>by
  obtain⟨c,hc,P3⟩:=P2.okOf λx=>V8
  obtain⟨u,h1,h2⟩:=JC pr (FR hc)
  exact⟨p,xs,b,u,e,r2,SqL.of (s2 _ _ q),h1,P3 u H2 (Xp.refl _) (z.mono s2 h2)⟩
def Ww [z:MonoE r](ha:EvL K Er S OO U ta r ma)(hb:EvB K Er S OO U tb Xf mb):EvS K Er S OO U (tOp (BC K) ta tb) r (ma.bind λas=>mb.bind λi=>atR as i):=λH Q w s P=>
 ha.run w s FS.tr P λa x H1 s1 w1 q1 ⟨p,xs,e,q,pr⟩ P1=>hb.run w1 q1 FS.tr P1 λb y H2 s2 w2 q2 r2 P2=>by
  obtain⟨c,hc,P3⟩:=P2.okOf λx=>V8
  obtain⟨u,h1,h2⟩:=JC pr (FR hc)
  exact⟨p,xs,b,u,e,r2,SqL.of (s2 _ _ q),h1,P3 u H2 (Xp.refl _) (z.mono (Xh s2) h2)⟩
def Ra [z:MonoE r](ha:EvB K Er S OO U ta (rPL r) ma)(hb:EvB K Er S OO U tb Xf mb):EvB K Er S OO U (tOp (Uy K) ta tb) r (ma.bind λas=>mb.bind λi=>atR as i):=λH Q w s P=>
 ha.run w s FB.tr P λa x H1 s1 w1 q1 ⟨p,xs,e,q,pr⟩ P1=>hb.run w1 q1 FB.tr P1 λb y H2 s2 w2 q2 r2 P2=>by
  obtain⟨c,hc,P3⟩:=P2.okOf λx=>V8
  obtain⟨u,h1,h2⟩:=JC pr (FR hc)
  exact⟨p,xs,b,u,e,r2,SqT.of (s2 _ _ q),h1,P3 u H2 (Xp.refl _) (z.mono s2 h2)⟩
def L3 {q:Enc L}{m:Rs (M×L)}(ha:EvB K Er S OO U ta (rP2 r q) m):EvB K Er S OO U (tOp (Uy K) ta (tC (.int 0))) r (m.bind λp=>.ok p.1):=λH Q w s P=>
 ha.run w s FB.tr P λa x H1 s1 w1 q1 r9 P1=>by obtain⟨p,x,y,e,q,h1,h2⟩:=r9;exact⟨p,_,0,x,e,rfl,SqT.of q,rfl,P1 _ H1 (Xp.refl _) h1⟩
def IN {q:Enc L}{m:Rs (M×L)}(ha:EvB K Er S OO U ta (rP2 r q) m):EvB K Er S OO U (tOp (Uy K) ta (tC (.int 1))) q (m.bind λp=>.ok p.2):=λH Q w s P=>
 ha.run w s FB.tr P λa x H1 s1 w1 q1 r9 P1=>by obtain⟨p,x,y,e,q,h1,h2⟩:=r9;exact⟨p,_,1,y,e,rfl,SqT.of q,rfl,P1 _ H1 (Xp.refl _) h2⟩
def S9 {q:Enc L}{m:Rs (M×L)}(ha:EvS K Er S OO U ta (rP2 r q) m):EvS K Er S OO U (tOp (Uy K) ta (tC (.int 0))) r (m.bind λp=>.ok p.1):=λH Q w s P=>
 ha.run w s FS.tr P λa x H1 s1 w1 q1 r9 P1=>by obtain⟨p,x,y,e,q,h1,h2⟩:=r9;exact⟨p,_,0,x,e,rfl,SqT.of (Xn _ _ q),rfl,P1 _ H1 (Xp.refl _) h1⟩
def Sw {q:Enc L}{m:Rs (M×L)}(ha:EvS K Er S OO U ta (rP2 r q) m):EvS K Er S OO U (tOp (Uy K) ta (tC (.int 1))) q (m.bind λp=>.ok p.2):=λH Q w s P=>
 ha.run w s FS.tr P λa x H1 s1 w1 q1 r9 P1=>by obtain⟨p,x,y,e,q,h1,h2⟩:=r9;exact⟨p,_,1,y,e,rfl,SqT.of (Xn _ _ q),rfl,P1 _ H1 (Xp.refl _) h2⟩
def Bd (ha:EvB K Er S OO U ta (rV r) m):EvB K Er S OO U (tCB (Gj K) (Xm ta Yo)) Xf (m.bind λas=>.ok (as.length:Int)):=λH Q w s P=>
 ha.run w s FB.tr P λa x H1 s1 w1 q1 r9 P1=>by obtain⟨p,xs,e,q,pr⟩:=r9;exact⟨p,xs,by rw[e], .inl (SqL.of q),P1 _ H1 (Xp.refl _) (by rw[Paired.len pr];rfl)⟩
def MX [z:MonoE r]{Q:VK}(w:W OO H)(pr:Paired (r K (hid H OO)) xs as)(P:FO K OO OO (oL (oF r)) Q as H):∀p,H p=none->Q (.ref p) (upd H p (.lst xs)):=λp hp=>by
 have hn:=VT (OO:=OO) hp (o:=.lst xs)
 refine P (.ref p) [(p, .lst xs)] _ (Xv hp _) (w.new hp rfl) hn ?_
 refine⟨p,xs,List.replicate as.length [],rfl,(P3.of (Paired.imp2 (λ_ _ h=>z.mono hn h) pr)).imp λ_ _ _ h=>h,by rw[Yh]⟩
def Paired.take':∀{l:List M}{m:List L} (n:Nat),Paired F l m->Paired F (l.take n) (m.take n)
 |_,_,0,_=>.nil
 |_,_,_+1, .nil=>.nil
 |_,_,n+1, .cons r t=>.cons r (Paired.take' n t)
def Paired.drop':∀{l:List M}{m:List L} (n:Nat),Paired F l m->Paired F (l.drop n) (m.drop n)
 |_,_,0,h=>h
 |_,_,_+1, .nil=>.nil
 |_,_,n+1, .cons _ t=>Paired.drop' n t
def Paired.rev':∀{l:List M}{m:List L},Paired F l m->Paired F l.reverse m.reverse
 |_,_, .nil=>.nil
 |_,_, .cons r t=>by rw[List.reverse_cons,List.reverse_cons];exact Paired.app (Paired.rev' t) (.cons r .nil)
def Paired.rep' {m:List L}(h:Paired F l m):∀n:Nat,Paired F (List.replicate n l).flatten (List.replicate n m).flatten
 |0=>.nil
 |n+1=>by simp only[List.replicate_succ,List.flatten_cons];exact Paired.app h (Paired.rep' h n)
def KR (as:List M)(lo hi:Option Int):List M:=(as.drop (HT.sIx as.length 0 lo)).take (HT.sIx as.length as.length hi-HT.sIx as.length 0 lo)
def V6 {F:V->M->Prop}(p:Paired F xs as)(lo hi:Option Int):Paired F (O6 xs lo hi) (KR as lo hi):=by
 unfold O6 KR;rw[Paired.len p];exact Paired.take' _ (Paired.drop' _ p)
def FP (Q:Option Int->Hp->Prop)(a:Option Int)(H:Hp):Prop:=∀ H',Xp H H'->Q a H'
def EvP (Er:Exc->Hp->Prop)(S:SC)(OO:List (List XD))(U:St)(t:TO)(m:Rs (Option Int)):Prop:=∀ H Q,W OO H->S.p (hid H OO)->PZ Er (FP Q) H m->t U H Q
def EvP.run {m:Rs (Option Int)}(he:EvP Er S OO U t m){Q:Option Int->Hp->Prop}(w:W OO H)(s:S.p (hid H OO)){f:Option Int->Rs L}{F:L->Hp->Prop}(hF:∀b H H',Xp H H'->F b H->F b H')(P:PZ Er F H (m.bind f))
  (hk:∀a H',Xp H H'->W OO H'->S.p (hid H' OO)->PZ Er F H' (f a)->Q a H'):t U H Q:=by
 refine he H Q w s ?_
 cases e:m with
 |bad=>rw[e] at P;exact P
 |err x=>rw[e] at P;exact P
 |ok a=>exact λH' s'=>hk a H' s' (w.keep s') (S.mono _ _ (Xh s') s) (PZ.run e hF s' P)
def Eo:EvP Er S OO U Fv (.ok none):=λH Q w s P=>P H (Xp.refl _)
def Ef {m:Rs Int}(h:EvB K Er S OO U te Xf m):EvP Er S OO U (Nt te) (m.bind λi=>.ok (some i)):=λH Q w s P=>
 h.run w s (λ_ _ _ s h H2 s2=>h H2 (s.trans s2)) P λa v H1 s1 w1 q1 r1 P1=>⟨a,r1,P1 H1 (Xp.refl _)⟩
def NB [z:MonoE r](he:EvL K Er S OO U te r m)(hl:EvP Er S OO U tl ml)(hh:EvP Er S OO U th mh):
  Ev K Er S OO OO U (tSl (TZ K) te tl th) (oL (oF r)) (m.bind λas=>ml.bind λlo=>mh.bind λhi=>.ok (KR as lo hi)):=λH Q w s P=>
 he.run w s FO.tr P λas x H1 s1 w1 q1 ⟨p,xs,e,q,pr⟩ P1=>hl.run w1 q1 FO.tr P1 λlo H2 s2 w2 q2 P2=>hh.run w2 q2 FO.tr P2 λhi H3 s3 w3 q3 az=>
  ⟨p,xs,e,SqL.of (s3 _ _ (s2 _ _ q)),MX w3 (V6 (Paired.imp2 (λ_ _ h=>z.mono ((Xh s2).trans (Xh s3)) h) pr) lo hi) az⟩
def NW (ha:EvB K Er S OO U ta (rL r) m):EvB K Er S OO U (tCB (Gj K) (Xm ta Yo)) Xf (m.bind λas=>.ok (as.length:Int)):=λH Q w s P=>
 ha.run w s FB.tr P λa x H1 s1 w1 q1 r9 P1=>by obtain⟨p,xs,e,q,pr⟩:=r9;exact⟨p,xs,by rw[e], .inl q,P1 _ H1 (Xp.refl _) (by rw[Paired.len pr];rfl)⟩
def Rh {ma:Rs (List Int)}(ha:EvB K Er S OO U ta (rL Xf) ma)(hb:EvB K Er S OO U tb Xf mb):EvB K Er S OO U (tOp (BC K) ta tb) Xf (ma.bind λas=>mb.bind λi=>atR as i):=λH Q w s P=>
 ha.run w s FB.tr P λa x H1 s1 w1 q1 ⟨p,xs,e,q,pr⟩ P1=>hb.run w1 q1 FB.tr P1 λb y H2 s2 w2 q2 r2 P2=>by
  obtain⟨c,hc,P3⟩:=P2.okOf λx=>V8
  obtain⟨u,h1,h2⟩:=JC pr (FR hc)
  exact⟨p,xs,b,u,e,r2,s2.seq q,h1,P3 u H2 (Xp.refl _) h2⟩
def MI {m:Rs (List Int)}(he:EvB K Er S OO U te (rL Xf) m)(hl:EvP Er S OO U tl ml)(hh:EvP Er S OO U th mh):
  Ev K Er S OO OO U (tSl (TZ K) te tl th) (oL (oF Xf)) (m.bind λas=>ml.bind λlo=>mh.bind λhi=>.ok (KR as lo hi)):=λH Q w s P=>
 he.run w s FO.tr P λas x H1 s1 w1 q1 ⟨p,xs,e,q,pr⟩ P1=>hl.run w1 q1 FO.tr P1 λlo H2 s2 w2 q2 P2=>hh.run w2 q2 FO.tr P2 λhi H3 s3 w3 q3 az=>
  ⟨p,xs,e,s3.seq (s2.seq q),MX w3 (V6 (Paired.imp2 (λ_ _ h=>h) pr) lo hi) az⟩
def NC (as bs:List M):Rs (List M):=chk (as.length+bs.length<=sizeLine) (.ok (as++bs))
def OT [z:MonoE r]{mb:Rs (List M)}(ha:EvL K Er S OO U ta r ma)(hb:EvL K Er S OO U tb r mb):Ev K Er S OO OO U (tOp Af ta tb) (oL (oF r)) (ma.bind λas=>mb.bind λbs=>NC as bs):=λH Q w s P=>
 ha.run w s FO.tr P λas x H1 s1 w1 q1 ⟨p,xs,e,q,pr⟩ P1=>hb.run w1 q1 FO.tr P1 λbs y H2 s2 w2 q2 ⟨p',ys,e',q',eF⟩ P2=>by
  obtain⟨c,hc,P3⟩:=P2.okOf λx=>QY
  obtain⟨h1,h2⟩:=Zf hc
  cases h2
  exact⟨p,p',xs,ys,e,e',s2 _ _ q,q',by rw[Paired.len pr,Paired.len eF];exact h1,MX w2 (Paired.app (Paired.imp2 (λ_ _ h=>z.mono (Xh s2) h) pr) eF) P3⟩
def Iv (as:List M)(n:Int):Rs (List M):=chk (-(2^63)<=n/\n<2^63/\as.length*n.toNat<=sizeLine) (.ok (List.replicate n.toNat as).flatten)
def Wd [z:MonoE r](ha:EvL K Er S OO U ta r ma)(hb:EvB K Er S OO U tb Xf mb):Ev K Er S OO OO U (tOp AL ta tb) (oL (oF r)) (ma.bind λas=>mb.bind λn=>Iv as n):=λH Q w s P=>
 ha.run w s FO.tr P λas x H1 s1 w1 q1 ⟨p,xs,e,q,pr⟩ P1=>hb.run w1 q1 FO.tr P1 λn y H2 s2 w2 q2 r2 P2=>by
  obtain⟨c,hc,P3⟩:=P2.okOf λx=>QY
  obtain⟨⟨h0,h1,h3⟩,h2⟩:=Zf hc
  cases h2
  exact⟨p,n,xs,e,r2,s2 _ _ q,h0,h1,by rw[Paired.len pr];exact h3,MX w2 (Paired.rep' (Paired.imp2 (λ_ _ h=>z.mono (Xh s2) h) pr) _) P3⟩
def Rg [z:MonoE r](ha:EvL K Er S OO U ta r ma):Ev K Er S OO OO U (tCB (Ca K) (Xm ta Yo)) (oL (oF r)) (ma.bind λas=>.ok as):=λH Q w s P=>
 ha.run w s FO.tr P λas x H1 s1 w1 q1 r9 P1=>by obtain⟨p,xs,e,q,pr⟩:=r9;exact⟨p,xs,by rw[e], .inl (SqL.of q),MX w1 pr P1⟩
def VA (lo hi:Int):List Int:=(List.range (hi-lo).toNat).map λ(i:Nat)=>lo+(i:Int)
def F8 {ma:Rs Int}(ha:EvB K Er S OO U ta Xf ma):Ev K Er S OO OO U (Ei (Xm ta Yo)) (oL (oF Xf)) (ma.bind λn=>chk (0<=n/\n<=1000) (.ok (VA 0 n))):=λH Q w s P=>
 ha.run w s FO.tr P λn x H1 s1 w1 q1 r1 P1=>by
  obtain⟨c,hc,P3⟩:=P1.okOf λx=>QY
  obtain⟨⟨h0,h1⟩,h2⟩:=Zf hc
  cases h2
  refine⟨n,by rw[show x= .int n from r1],h0,h1,MX w1 ?_ P3⟩
  unfold VA
  rw[Int.sub_zero]
  have:∀l:List Nat,Paired (Xf K (hid H1 OO)) (l.map λ(i:Nat)=>V.int (i:Int)) (l.map λ(i:Nat)=>(0:Int)+(i:Int)):=λl=>by
   induction l with
   |nil=>exact .nil
   |cons a l ih=>exact .cons (by show V.int (a:Int)=V.int (0+(a:Int));rw[Int.zero_add]) ih
  exact this _
def ZZ:Ev K Er S OO OO U (Hd Yo) (oL o) (.ok []):=λH Q w s P=>⟨Nat.zero_le _,λp hp=>P (.ref p) [(p, .lst [])] _ (Xv hp _) (w.new hp rfl) (VT hp) ⟨p,[],[],rfl, .nil,rfl⟩⟩
def FA (K:W.Frag)(OO:List (List XD))(r:Enc M)(Q:List V->Hp->Prop)(as:List M)(H:Hp):Prop:=∀ vs H',Xp H H'->Paired (r K (hid H' OO)) vs as->Q vs H'
def EvA (K:W.Frag)(Er:Exc->Hp->Prop)(S:SC)(OO:List (List XD))(U:St)(t:TA)(r:Enc M)(m:Rs (List M)):Prop:=∀ H Q,W OO H->S.p (hid H OO)->PZ Er (FA K OO r Q) H m->t U H Q
def Po:EvA K Er S OO U Yo r (.ok []):=λH Q w s P=>P [] H (Xp.refl _) .nil
def YF [z:MonoE r]{m:Rs M}{n:Rs (List M)}(he:EvS K Er S OO U te r m)(ht:EvA K Er S OO U t r n):EvA K Er S OO U (Xm te t) r (m.bind λa=>n.bind λas=>.ok (a::as)):=λH Q w s P=>
 he.run w s (λb H H' s h vs H2 s2 p=>h vs H2 (s.trans s2) p) P λa x H1 s1 w1 q1 r1 P1=>by
  refine ht H1 _ w1 q1 ?_
  cases e:n with
  |bad=>rw[e] at P1;exact P1
  |err x=>rw[e] at P1;exact P1
  |ok as=>rw[e] at P1;exact λvs H2 s2 p=>P1 (x::vs) H2 s2 (.cons (z.mono (Xh s2) r1) p)
def Vj [z:MonoE r](h:EvA K Er S OO U t r m):Ev K Er S OO OO U (Hd t) (oL (oF r)) (m.bind λas=>chk (as.length<=sizeLine) (.ok as)):=λH Q w s P=>by
 refine h H _ w s ?_
 cases e:m with
 |bad=>rw[e] at P;exact P
 |err x=>rw[e] at P;exact P
 |ok as=>
  rw[e] at P
  intro vs H1 s1 p
  obtain⟨c,hc,P3⟩:=PZ.okOf (λx=>QY) (show PZ Er _ H (chk (as.length<=sizeLine) (.ok as)) from P)
  obtain⟨h1,h2⟩:=Zf hc
  cases h2
  exact⟨by rw[Paired.len p];exact h1,MX (w.keep s1) p (FO.tr _ _ _ s1 P3)⟩
def JG [z:MonoE r](h:EvA K Er S OO U t r m):EvS K Er S OO U (Pa t) (rPL r) (m.bind λas=>chk (as.length<=sizeLine) (.ok as)):=λH Q w s P=>by
 refine h H _ w s ?_
 cases e:m with
 |bad=>rw[e] at P;exact P
 |err x=>rw[e] at P;exact P
 |ok as=>
  rw[e] at P
  intro vs H1 s1 p
  obtain⟨c,hc,P3⟩:=PZ.okOf (λx=>QY) (show PZ Er _ H (chk (as.length<=sizeLine) (.ok as)) from P)
  obtain⟨h1,h2⟩:=Zf hc
  cases h2
  have w1:=w.keep s1
  refine⟨by rw[Paired.len p];exact h1,λa ha=>P3 _ _ (s1.trans (Xv ha _)) ⟨a,vs,rfl,Z9 w1 ha,Paired.imp2 (λ_ _ q=>z.mono (Xh (Xv ha _)) q) p⟩⟩
def Uu {q:Enc L}[z:MonoE r][y:MonoE q]{ma:Rs M}{mb:Rs L}(ha:EvS K Er S OO U ta r ma)(hb:EvS K Er S OO U tb q mb):EvS K Er S OO U (Pa (Xm ta (Xm tb Yo))) (rP2 r q) (ma.bind λa=>mb.bind λb=>.ok (a,b)):=λH Q w s P=>
 ha.run w s FS.tr P λa x H1 s1 w1 q1 r1 P1=>hb.run w1 q1 FS.tr P1 λb y' H2 s2 w2 q2 r2 P2=>
  ⟨by show 2<=sizeLine;decide,λp hp=>P2 _ _ (Xv hp _) ⟨p,x,y',rfl,Z9 w2 hp,z.mono ((Xh s2).trans (Xh (Xv hp _))) r1,y.mono (Xh (Xv hp _)) r2⟩⟩
def Vz {q:Enc L}[z:MonoE r][y:MonoE q][x:MonoE t]{ma:Rs M}{mb:Rs L}{mc:Rs B}(ha:EvS K Er S OO U ta r ma)(hb:EvS K Er S OO U tb q mb)(hc:EvS K Er S OO U tc t mc):
  EvS K Er S OO U (Pa (Xm ta (Xm tb (Xm tc Yo)))) (rP3 r q t) (ma.bind λa=>mb.bind λb=>mc.bind λc=>.ok (a,b,c)):=λH Q w s P=>
 ha.run w s FS.tr P λa x' H1 s1 w1 q1 r1 P1=>hb.run w1 q1 FS.tr P1 λb y' H2 s2 w2 q2 r2 P2=>hc.run w2 q2 FS.tr P2 λc z' H3 s3 w3 q3 r3 P3=>
  ⟨by show 3<=sizeLine;decide,λp hp=>P3 _ _ (Xv hp _) ⟨p,x',y',z',rfl,Z9 w3 hp,z.mono (((Xh s2).trans (Xh s3)).trans (Xh (Xv hp _))) r1,y.mono ((Xh s3).trans (Xh (Xv hp _))) r2,x.mono (Xh (Xv hp _)) r3⟩⟩
end
section
variable {α6:Type}
def noE (m:Rs M):Rs M:=match m with
 | .ok a=>.ok a
 |_=>.bad
def U4 {m:Rs M}{a:M}(h:noE m= .ok a):m= .ok a:=by
 cases m with
 |ok b=>exact h
 |bad=>cases h
 |err x=>cases h
def U1 {m:Rs M}{x:Exc}:noE m≠ .err x:=by cases m<;> exact λz=>nomatch z
def FF (K:W.Frag)(o:OE M)(Q:VK)(a:M)(H:Hp):Prop:=∀ v C H',W [C] H'->Xp H (hid H' [C])->o K (hid H' [C]) v a C->Q v H'
def sp1 (r1:Enc α1)(o:OE ρ)(f:α1->Rs ρ)(K:W.Frag):Sp:=λvs H Q _=>∃ v1 a1 b,vs=[v1]/\r1 K H v1 a1/\f a1= .ok b/\FF K o Q b H
def sp2 (r1:Enc α1)(r2:Enc α2)(o:OE ρ)(f:α1->α2->Rs ρ)(K:W.Frag):Sp:=λvs H Q _=>∃ v1 v2 a1 a2 b,vs=[v1,v2]/\r1 K H v1 a1/\r2 K H v2 a2/\f a1 a2= .ok b/\FF K o Q b H
def sp3 (r1:Enc α1)(r2:Enc α2)(r3:Enc α3)(o:OE ρ)(f:α1->α2->α3->Rs ρ)(K:W.Frag):Sp:=λvs H Q _=>∃ v1 v2 v3 a1 a2 a3 b,vs=[v1,v2,v3]/\r1 K H v1 a1/\r2 K H v2 a2/\r3 K H v3 a3/\f a1 a2 a3= .ok b/\FF K o Q b H
def sp4 (r1:Enc α1)(r2:Enc α2)(r3:Enc α3)(r4:Enc α4)(o:OE ρ)(f:α1->α2->α3->α4->Rs ρ)(K:W.Frag):Sp:=λvs H Q _=>∃ v1 v2 v3 v4 a1 a2 a3 a4 b,vs=[v1,v2,v3,v4]/\r1 K H v1 a1/\r2 K H v2 a2/\r3 K H v3 a3/\r4 K H v4 a4/\f a1 a2 a3 a4= .ok b/\FF K o Q b H
def Rk (w:W OO H)(w':W [C] H')(m':Xp H (hid H' [C])):W (C::OO) H'/\Xp (hid H OO) (hid H' (C::OO))/\V3 (hid H' [C]) (hid H' (C::OO)):=by
 have s:Xp H H':=m'.trans Xn
 have f1:fl [C]=C.map (·.1):=by simp[fl]
 have hd:∀b,b∈fl OO->b∉C.map (·.1):=λb hb hc=>by
  obtain⟨u,hu⟩:=Hk hb
  exact(XM (m' _ _ (w.tr _ hu))).2 (by rw[f1];exact hc)
 have w2:W (C::OO) H':=by
  refine⟨λc hc=>?_,?_,λc hc=>?_⟩
  ·rw[List.flatten_cons,List.mem_append] at hc
   rcases hc with hc |hc
   ·exact w'.tr c (by simp[hc])
   ·exact s _ _ (w.tr c hc)
  ·rw[XB]
   refine List.nodup_append.mpr ⟨by rw[←f1];exact w'.nd,w.nd,λa ha b hb e=>?_⟩
   subst e;exact hd a hb ha
  ·rw[List.flatten_cons,List.mem_append] at hc
   rcases hc with hc |hc
   ·exact w'.mu c (by simp[hc])
   ·exact w.mu c hc
 refine⟨w2,λb u q=>?_,λb u q i=>?_⟩
 ·obtain⟨q1,q2⟩:=XM q
  obtain⟨q3,q4⟩:=XM (m' _ _ q1)
  refine YA q3 ?_
  rw[XB,List.mem_append]
  exact λz=>z.elim (λz=>q4 (by rw[f1];exact z)) q2
 ·exact w2.i b u (XM q).1 i
def Fp [z:FlatO o]{Q:VK}{b:M}(w:W OO H)(P:FO K OO OO o Q b H):FF K o Q b H:=λv C H' w' m' ho=>by
 obtain⟨w2,h2,h3⟩:=Rk w w' m'
 exact P v C H' (m'.trans Xn) w2 h2 (z.flat h3 ho)
def EU {o:OE ρ}[FlatO o]{f:α1->Rs ρ}{ma:Rs α1}(ha:EvB K Er S OO U ta r1 ma):Ev K Er S OO OO U (Q6 (sp1 r1 o f K) [] E0 (Xm ta Yo)) o (ma.bind λa=>noE (f a)):=λH Q w s P=>
 ha.run w s FO.tr P λa x H1 s1 w1 q1 r1 P1=>by
  obtain⟨b,hb,P2⟩:=P1.okOf λx=>U1
  exact⟨x,a,b,rfl,r1,U4 hb,Fp w1 P2⟩
def Qa [z1:MonoE r1]{o:OE ρ}[FlatO o]{f:α1->α2->Rs ρ}{ma:Rs α1}{mb:Rs α2}(ha:EvB K Er S OO U ta r1 ma)(hb:EvB K Er S OO U tb r2 mb):
  Ev K Er S OO OO U (Q6 (sp2 r1 r2 o f K) [] E0 (Xm ta (Xm tb Yo))) o (ma.bind λa=>mb.bind λb=>noE (f a b)):=λH Q w s P=>
 ha.run w s FO.tr P λa x H1 s1 w1 q1 r1 P1=>hb.run w1 q1 FO.tr P1 λb y H2 s2 w2 q2 r2 P2=>by
  obtain⟨c,hc,P3⟩:=P2.okOf λx=>U1
  exact⟨x,y,a,b,c,rfl,z1.mono s2 r1,r2,U4 hc,Fp w2 P3⟩
def EL [z1:MonoE r1][z2:MonoE r2]{o:OE ρ}[FlatO o]{f:α1->α2->α3->Rs ρ}{ma:Rs α1}{mb:Rs α2}{mc:Rs α3}(ha:EvB K Er S OO U ta r1 ma)(hb:EvB K Er S OO U tb r2 mb)(hc:EvB K Er S OO U tc r3 mc):
  Ev K Er S OO OO U (Q6 (sp3 r1 r2 r3 o f K) [] E0 (Xm ta (Xm tb (Xm tc Yo)))) o (ma.bind λa=>mb.bind λb=>mc.bind λc=>noE (f a b c)):=λH Q w s P=>
 ha.run w s FO.tr P λa x H1 s1 w1 q1 r1 P1=>hb.run w1 q1 FO.tr P1 λb y H2 s2 w2 q2 r2 P2=>hc.run w2 q2 FO.tr P2 λc z H3 s3 w3 q3 r3 P3=>by
  obtain⟨d,hd,P4⟩:=P3.okOf λx=>U1
  exact⟨x,y,z,a,b,c,d,rfl,z1.mono (s2.trans s3) r1,z2.mono s3 r2,r3,U4 hd,Fp w3 P4⟩
def M3 [z1:MonoE r1][z2:MonoE r2][z3:MonoE r3]{o:OE ρ}[FlatO o]{f:α1->α2->α3->α4->Rs ρ}{ma:Rs α1}{mb:Rs α2}{mc:Rs α3}(ha:EvB K Er S OO U ta r1 ma)(hb:EvB K Er S OO U tb r2 mb)(hc:EvB K Er S OO U tc r3 mc)(hd:EvB K Er S OO U td r4 md):
  Ev K Er S OO OO U (Q6 (sp4 r1 r2 r3 r4 o f K) [] E0 (Xm ta (Xm tb (Xm tc (Xm td Yo))))) o (ma.bind λa=>mb.bind λb=>mc.bind λc=>md.bind λd=>noE (f a b c d)):=λH Q w s P=>
 ha.run w s FO.tr P λa x H1 s1 w1 q1 r1 P1=>hb.run w1 q1 FO.tr P1 λb y H2 s2 w2 q2 r2 P2=>hc.run w2 q2 FO.tr P2 λc z H3 s3 w3 q3 r3 P3=>hd.run w3 q3 FO.tr P3 λd u H4 s4 w4 q4 r4 P4=>by
  obtain⟨e,he,P5⟩:=P4.okOf λx=>U1
  exact⟨x,y,z,u,a,b,c,d,e,rfl,z1.mono (s2.trans (s3.trans s4)) r1,z2.mono (s3.trans s4) r2,z3.mono s4 r3,r4,U4 he,Fp w4 P5⟩
structure Jn (B ι:Type) where
 oo:ι->List (List XD)
 ss:ι->St
 sc:B->ι->SC
inductive Ctl (ρ B:Type) where
 |ret (r:ρ) |nx (g:B)
def FTd (K:W.Frag)(o:OE ρ)(D:Ends)(r:ρ)(h:Hp):Prop:=∀ v C OO' H',W (C::OO') H'->Xp h (hid H' (C::OO'))->o K (hid H' (C::OO')) v r C->D.rt v H'
def FNd (J:Jn B ι)(D:Ends)(g:B)(h:Hp):Prop:=∀ x H',W (J.oo x) H'->Xp h (hid H' (J.oo x))->(J.sc g x).p (hid H' (J.oo x))->D.nx (J.ss x) H'
def FCd (K:W.Frag)(o:OE ρ)(J:Jn B ι)(D:Ends)(c:Ctl ρ B)(h:Hp):Prop:=match c with
 | .ret r=>FTd K o D r h
 | .nx g=>FNd J D g h
class FdOk (Fd:Ends->L->Hp->Prop):Prop where
 tr:∀D b h h',Xp h h'->Fd D b h->Fd D b h'
instance {o:OE ρ}:FdOk (FTd K o):=⟨λD b h h' s q v C O H' w m x=>q v C O H' w (s.trans m) x⟩
instance {J:Jn B ι}:FdOk (FNd J):=⟨λD b h h' s q x H' w m y=>q x H' w (s.trans m) y⟩
instance {o:OE ρ}{J:Jn B ι}:FdOk (FCd K o J):=⟨λD b h h' s q=>by
 cases b with
 |ret r=>exact λv C O H' w m x=>q v C O H' w (s.trans m) x
 |nx g=>exact λx H' w m y=>q x H' w (s.trans m) y⟩
def PZ.tr {F:L->Hp->Prop}(hF:∀b H H',Xp H H'->F b H->F b H'){m:Rs L}(s:Xp H H')(P:PZ Er F H m):PZ Er F H' m:=by
 cases m with
 |bad=>exact P
 |err x=>exact λH2 s2=>P H2 (s.trans s2)
 |ok b=>exact hF b H H' s P
def Sv (Er:Exc->Hp->Prop)(S:SC)(OO:List (List XD))(U:St)(t:TS)(Fd:Ends->L->Hp->Prop)(m:Rs L):Prop:=∀ H D,W OO H->S.p (hid H OO)->PZ Er (Fd D) (hid H OO) m->t D U H
variable [fd:FdOk Fd]{u:TS}
def Ev.st {m:Rs M}(he:Ev K Er S OO OO' U te o m){Q:VK}(w:W OO H)(s:S.p (hid H OO))(P:PZ Er (Fd D) (hid H OO) (m.bind f))
  (hk:∀a v C H',W (C::OO') H'->S.p (hid H' (C::OO'))->o K (hid H' (C::OO')) v a C->PZ Er (Fd D) (hid H' (C::OO')) (f a)->Q v H'):te U H Q:=by
 refine he H Q w s ?_
 cases m with
 |bad=>exact P
 |err x=>exact λH' s'=>P H' (Xn.trans s')
 |ok a=>exact λv C H' s' w' m' ho=>hk a v C H' w' (S.mono _ _ m' s) ho (PZ.tr (fd.tr D) m' P)
def EvB.st {m:Rs M}(he:EvB K Er S OO U te r m){Q:VK}(w:W OO H)(s:S.p (hid H OO))(P:PZ Er (Fd D) (hid H OO) (m.bind f))
  (hk:∀a v H',Xp H H'->W OO H'->S.p (hid H' OO)->r K H' v a->PZ Er (Fd D) (hid H' OO) (f a)->Q v H'):te U H Q:=by
 refine he H Q w s ?_
 cases m with
 |bad=>exact P
 |err x=>exact λH' s'=>P H' (Xn.trans s')
 |ok a=>exact λv H' s' hr=>hk a v H' s' (w.keep s') (S.mono _ _ (Xh s') s) hr (PZ.tr (fd.tr D) (Xh s') P)
def EvS.st {m:Rs M}(he:EvS K Er S OO U te r m){Q:VK}(w:W OO H)(s:S.p (hid H OO))(P:PZ Er (Fd D) (hid H OO) (m.bind f))
  (hk:∀a v H',Xp H H'->W OO H'->S.p (hid H' OO)->r K (hid H' OO) v a->PZ Er (Fd D) (hid H' OO) (f a)->Q v H'):te U H Q:=by
 refine he H Q w s ?_
 cases m with
 |bad=>exact P
 |err x=>exact λH' s'=>P H' (Xn.trans s')
 |ok a=>exact λv H' s' hr=>hk a v H' s' (w.keep s') (S.mono _ _ (Xh s') s) hr (PZ.tr (fd.tr D) (Xh s') P)
def EvT.st {m:Rs Bool}(he:EvT Er S OO U tt m){Q:Bool->Hp->Prop}(w:W OO H)(s:S.p (hid H OO)){f:Bool->Rs L}(P:PZ Er (Fd D) (hid H OO) (m.bind f))
  (hk:∀b H',W OO H'->S.p (hid H' OO)->PZ Er (Fd D) (hid H' OO) (f b)->Q b H'):tt U H Q:=by
 refine he H Q w s ?_
 cases m with
 |bad=>exact P
 |err x=>exact λH' s'=>P H' (Xn.trans s')
 |ok a=>exact λH' s'=>hk a H' (w.keep s') (S.mono _ _ (Xh s') s) (PZ.tr (fd.tr D) (Xh s') P)
def set_set:(OO.set k C).set k []=OO.set k []:=by simp
def As (w:W (C::OO) H)(hk:k<OO.length):W (OO.set k C) H/\Xp (hid H (C::OO)) (hid H (OO.set k C)):=by
 have h1:=XN (OO:=OO) (k:=k) (C:=OO[k]) (by simp[hk])
 have h2:=XN (OO:=OO.set k C) (k:=k) (C:=C) (by simp[hk])
 rw[set_set] at h2
 have h3:(OO.set k C).flatten.Perm (C++(OO.set k []).flatten):=by simpa using h2.symm
 have h4:(C::OO).flatten.Perm (C++(OO[k]++(OO.set k []).flatten)):=by
  rw[List.flatten_cons];exact(by simpa using h1.symm:OO.flatten.Perm (OO[k]++(OO.set k []).flatten)).append_left C
 have h5:(C++(OO.set k []).flatten).Sublist (C++(OO[k]++(OO.set k []).flatten)):=List.Sublist.append (List.Sublist.refl _) (List.sublist_append_right _ _)
 have w1:W [C++(OO[k]++(OO.set k []).flatten)] H:=w.of (by simpa using h4.symm)
 have w2:W [C++(OO.set k []).flatten] H:=w1.sub (by simpa using h5)
 refine⟨w2.of (by simpa using h3),Zv (Xp.refl _) λb hb=>?_⟩
 obtain⟨o,ho⟩:=Hk hb
 exact V9 (h4.mem_iff.mpr (h5.mem (h3.mem_iff.mp ho)))
def Md [MonoO o]{m:Rs M}(i k:Nat)(he:Ev K Er S OO OO' U te o m)(hk:k<OO'.length)(hr:∀a v C,Sv Er (S.addO K o v a C) (OO'.set k C) (U.set i (some v)) u Fd (f a)):Sv Er S OO U (Zd (BG te (YI i)) u) Fd (m.bind f):=λH D w s P=>
 he.st w s P λa v C H' w' s' ho P'=>by
  obtain⟨w2,h2⟩:=As w' hk
  exact hr a v C H' D w2 ⟨S.mono _ _ h2 s',MonoO.mono h2 ho⟩ (PZ.tr (fd.tr D) h2 P')
def Tl [MonoE r]{m:Rs M}(i:Nat)(he:EvS K Er S OO U te r m)(hr:∀a v,Sv Er (S.add K r v a) OO (U.set i (some v)) u Fd (f a)):Sv Er S OO U (Zd (BG te (YI i)) u) Fd (m.bind f):=λH D w s P=>
 he.st w s P λa v H' s1 w' s' ho P'=>hr a v H' D w' ⟨s',ho⟩ P'
def Xw {o:OE ρ}{m:Rs ρ}(he:Ev K Er S OO OO' U te o m):Sv Er S OO U (Zd (W9 te) u) (FTd K o) m:=λH D w s P=>
 he H _ w s (by
  cases m with
  |bad=>exact P
  |err x=>exact λH' s'=>P H' (Xn.trans s')
  |ok a=>exact λv C H' s' w' m' ho=>P v C OO' H' w' m' ho)
def ZY {o:OE ρ}{m:Rs B}(h:Sv Er S OO U t (FNd J) m):Sv Er S OO U t (FCd K o J) (m.bind λr=>.ok (.nx r)):=λH D w s P=>h H D w s (by
 cases m with
 |bad=>exact P
 |err x=>exact P
 |ok a=>exact P)
def WF (x:ι)(g:B)(h1:OO=J.oo x)(h2:U=J.ss x)(h3:∀h,S.p h->(J.sc g x).p h):Sv Er S OO U GC (FNd J) (.ok g):=λH D w s P=>by
 subst h1 h2
 exact P x H w (Xp.refl _) (h3 _ s)
def WR:Sv Er S OO U t Fd .bad:=λH D w s P=>P.elim
def Jb {o:OE ρ}(hc:EvT Er S OO U c mc)(h1:Sv Er S OO U t1 (FTd K o) m1)(h2:Sv Er S OO U u (FTd K o) m2):Sv Er S OO U (Zd (Tc c t1 GC) u) (FTd K o) (mc.bind λb=>if b=true then m1 else m2):=λH D w s P=>
 hc.st (Fd:=FTd K o) w s P λb H' w' s' P'=>by
  cases b with
  |true=>rw[if_pos rfl] at P'⊢;exact h1 H' _ w' s' P'
  |false=>exact h2 H' D w' s' P'
def Qi {o:OE ρ}(hc:EvT Er S OO U c mc)(h1:Sv Er S OO U t1 (FTd K o) m1)(h2:Sv Er S OO U u (FCd K o J) m2):Sv Er S OO U (Zd (Tc c t1 GC) u) (FCd K o J) (mc.bind λb=>if b=true then m1.bind (λr=>.ok (.ret r)) else m2):=λH D w s P=>
 hc.st (Fd:=FCd K o J) w s P λb H' w' s' P'=>by
  cases b with
  |true=>
   rw[if_pos rfl] at P'⊢
   refine h1 H' _ w' s' ?_
   cases m1 with
   |bad=>exact P'
   |err x=>exact P'
   |ok a=>exact P'
  |false=>exact h2 H' D w' s' P'
def X2 (hc:EvT Er S OO U c mc)(h1:Sv Er S OO U t1 Fd m1)(h2:Sv Er S OO U t2 Fd m2):Sv Er S OO U (Tc c t1 t2) Fd (mc.bind λb=>if b=true then m1 else m2):=λH D w s P=>
 hc.st w s P λb H' w' s' P'=>by
  cases b with
  |true=>rw[if_pos rfl] at P'⊢;exact h1 H' _ w' s' P'
  |false=>exact h2 H' D w' s' P'
def SE {m:Rs B}{f:B->Rs L}(hb:Sv Er S OO U t (FNd J) m)(hr:∀g x,Sv Er (J.sc g x) (J.oo x) (J.ss x) u Fd (f g)):Sv Er S OO U (Zd t u) Fd (m.bind f):=λH D w s P=>
 hb H _ w s (by
  cases m with
  |bad=>exact P
  |err x=>exact P
  |ok g=>exact λx H' w' m' q=>hr g x H' D w' q (PZ.tr (fd.tr D) m' P))
def Kg (f:B->Rs ρ):Ctl ρ B->Rs ρ
 | .ret r=>.ok r
 | .nx g=>f g
def ZB (f:B->Rs (Ctl ρ δ)):Ctl ρ B->Rs (Ctl ρ δ)
 | .ret r=>.ok (.ret r)
 | .nx g=>f g
def So {o:OE ρ}{m:Rs (Ctl ρ B)}{f:B->Rs ρ}(hb:Sv Er S OO U t (FCd K o J) m)(hr:∀g x,Sv Er (J.sc g x) (J.oo x) (J.ss x) u (FTd K o) (f g)):Sv Er S OO U (Zd t u) (FTd K o) (m.bind (Kg f)):=λH D w s P=>
 hb H _ w s (by
  cases m with
  |bad=>exact P
  |err x=>exact P
  |ok g=>
   cases g with
   |ret r=>exact P
   |nx g=>exact λx H' w' m' q=>hr g x H' D w' q (PZ.tr (FdOk.tr D) m' P))
def MT [z:FrzC o r][MonoE r]{a:M}{m:Rs L}(k:Nat)(hk:OO[k]?=some C)(h:∀x,S.p x->o K x v a C)(hr:Sv Er (S.add K r v a) (OO.set k []) U t Fd m):Sv Er S OO U t Fd m:=λH D w s P=>by
 have hp:=XN hk
 have w1:W (C::OO.set k []) H:=w.of hp
 have hs:Xp (hid H OO) (hid H (OO.set k [])):=by
  rw[←XF hp]
  exact Zv (Xp.refl _) λb hb=>by rw[XB];simp[hb]
 refine hr H D w1.tail ⟨S.mono _ _ hs s,z.frz (h _ s) hs λc hc=>YA (w1.cell c hc) ?_⟩ (PZ.tr (fd.tr D) hs P)
 have:=w1.nd
 rw[XB] at this
 exact λhb=>(List.nodup_append.mp this).2.2 c.1 (List.mem_map.mpr ⟨c,hc,rfl⟩) c.1 hb rfl
def qc {D:List XD}{o:HO}(w:W (D::OO) H)(hk:OO[k]?=some C)(hp:p∈C.map (·.1))(hC:(C'.map (·.1)).Perm ((C++D).map (·.1)))(ht:∀c∈C',upd H p o c.1=some c.2)(hm:∀c∈C',Td c.2=true):
  W (OO.set k C') (upd H p o)/\hid (upd H p o) (OO.set k C')=hid H (D::OO):=by
 have ah:k<OO.length:=by
  rcases Nat.lt_or_ge k OO.length with h |h
  ·exact h
  ·rw[List.getElem?_eq_none h] at hk;cases hk
 have h1:=XN hk
 have h2:=XN (OO:=OO.set k C') (k:=k) (C:=C') (by simp[ah])
 rw[set_set] at h2
 have h3:(OO.set k C').flatten.Perm (C'++(OO.set k []).flatten):=by simpa using h2.symm
 have h4:(D::OO).flatten.Perm (D++(C++(OO.set k []).flatten)):=by
  rw[List.flatten_cons];exact(by simpa using h1.symm:OO.flatten.Perm (C++(OO.set k []).flatten)).append_left D
 have jf:(fl (OO.set k C')).Perm (fl (D::OO)):=by
  unfold fl
  refine(h3.map _).trans (List.Perm.trans ?_ (h4.map _).symm)
  simp only[List.map_append]
  refine(hC.append_right _).trans ?_
  simp only[List.map_append]
  rw[←List.append_assoc]
  exact List.perm_append_comm.append_right _
 have nd:=w.nd
 refine⟨⟨λc hc=>?_,jf.nodup_iff.mpr nd,λc hc=>?_⟩,?_⟩
 ·rcases List.mem_append.mp (h3.mem_iff.mp hc) with hc |hc
  ·exact ht c hc
  ·have aL:c.1≠p:=λe=>by
    have fu:((D++(C++(OO.set k []).flatten)).map (·.1)).Nodup:=(h4.map _).nodup_iff.mp nd
    simp only[List.map_append] at fu
    have fM:=(List.nodup_append.mp fu).2.1
    exact(List.nodup_append.mp fM).2.2 p hp c.1 (List.mem_map.mpr ⟨c,hc,rfl⟩) e.symm
   rw[XH aL]
   exact w.tr c (h4.mem_iff.mpr (by simp[hc]))
 ·rcases List.mem_append.mp (h3.mem_iff.mp hc) with hc |hc
  ·exact hm c hc
  ·exact w.mu c (h4.mem_iff.mpr (by simp[hc]))
 ·funext b
  unfold hid
  by_cases hb:b∈fl (D::OO)
  ·rw[if_pos hb,if_pos (jf.mem_iff.mpr hb)]
  ·rw[if_neg hb,if_neg λz=>hb (jf.mem_iff.mp z)]
   refine XH λe=>hb ?_
   rw[e]
   obtain⟨c,hc,rfl⟩:=List.mem_map.mp hp
   exact V9 (h4.mem_iff.mpr (by simp[hc]))
def YY {D:List XD}:(Cs++[D]).flatten=Cs.flatten++D:=by simp
def Wy [MonoO o]{m:Rs M}{f:List M->Rs L}(i k:Nat)(hσ:U[i]?=some (some v))(hk:OO[k]?=some C)(bF:OO'[k]?=some C)(h:∀x,S.p x->oL o K x v as C)(he:Ev K Er S OO OO' U ta o m)
  (hr:∀a C',Sv Er (S.addO K (oL o) v (as++[a]) C') (OO'.set k C') U u Fd (f (as++[a]))):Sv Er S OO U (Zd (JJ (tBM K "list" Qn (Q0 i) (Xm ta Yo))) u) Fd (m.bind λa=>chk (as.length<sizeLine) (f (as++[a]))):=λH D w s P=>by
 obtain⟨p,xs,Cs,e,q,c⟩:=h _ s
 subst c
 have hH:H p=some (.lst xs):=w.tr (p, .lst xs) (List.mem_flatten.mpr ⟨_,List.mem_of_getElem? hk,List.mem_cons_self⟩)
 refine⟨v,hσ,by rw[e];exact .inl ⟨rfl,_,SqL.of hH⟩,he.st w s P λa y D' H' w' s' ho P'=>?_⟩
 obtain⟨p',xs',Cs',e2,q2,c2⟩:=h _ s'
 rw[e] at e2;cases e2
 have c3:(p,HO.lst xs)=(p,HO.lst xs')/\Cs.flatten=Cs'.flatten:=by
  injection c2 with h1 h2
  exact⟨h1,h2⟩
 obtain⟨c3,c4⟩:=c3
 cases c3
 have gS:H' p=some (.lst xs):=w'.tr (p, .lst xs) (by rw[List.flatten_cons];exact List.mem_append_right _ (List.mem_flatten.mpr ⟨_,List.mem_of_getElem? bF,List.mem_cons_self⟩))
 cases ah:decide (as.length<sizeLine) with
 |false=>rw[chk,if_neg (by simpa using ah)] at P';exact P'.elim
 |true=>
  have eZ:as.length<sizeLine:=by simpa using ah
  rw[Xi eZ] at P'
  have wnd:=w'.nd
  have bg:∀c∈(p,HO.lst (xs++[y]))::(Cs'++[D']).flatten,upd H' p (.lst (xs++[y])) c.1=some c.2:=λc hc=>by
   rcases List.mem_cons.mp hc with rfl |hc
   ·exact X9
   ·have jg:=XN bF
    have w3:W [D'++(((p,HO.lst xs)::Cs.flatten)++(OO'.set k []).flatten)] H':=w'.of (by
     simp only[List.flatten_cons,List.flatten_nil,List.append_nil]
     exact(by simpa using jg:(((p,HO.lst xs)::Cs.flatten)++(OO'.set k []).flatten).Perm OO'.flatten).append_left D')
    have bd:c∈D'++(((p,HO.lst xs)::Cs.flatten)++(OO'.set k []).flatten):=by
     rw[YY,List.mem_append] at hc
     rcases hc with hc |hc
     ·rw[←c4] at hc;simp[hc]
     ·simp[hc]
    have aL:c.1≠p:=λee=>by
     have fM:=w3.nd
     rw[YY,List.mem_append, ←c4] at hc
     simp only[fl,List.flatten_cons,List.flatten_nil,List.append_nil,List.map_append,List.cons_append,List.map_cons] at fM
     rw[List.nodup_append] at fM
     obtain⟨_,n2,n3⟩:=fM
     rcases hc with hc |hc
     ·exact(List.nodup_cons.mp n2).1 (List.mem_append_left _ (List.mem_map.mpr ⟨c,hc,ee⟩))
     ·exact n3 c.1 (List.mem_map.mpr ⟨c,hc,rfl⟩) p List.mem_cons_self ee
    rw[XH aL]
    exact w3.tr c (by simpa using bd)
  obtain⟨w4,h4⟩:=qc (C':=(p, .lst (xs++[y]))::(Cs'++[D']).flatten) w' bF List.mem_cons_self (by simp[YY,c4]) bg (λc hc=>by
   rcases List.mem_cons.mp hc with rfl |hc
   ·rfl
   ·rw[YY,List.mem_append, ←c4] at hc
    rcases hc with hc |hc
    ·exact w'.mu c (by rw[List.flatten_cons];exact List.mem_append_right _ (List.mem_flatten.mpr ⟨_,List.mem_of_getElem? bF,List.mem_cons_of_mem _ hc⟩))
    ·exact w'.mu c (by rw[List.flatten_cons];exact List.mem_append_left _ hc))
  refine⟨p,xs,y,e,rfl,gS,by rw[(P3.len q).1];exact eZ,?_⟩
  refine hr a _ _ D w4 ?_ (by rw[h4];exact P')
  rw[h4]
  exact⟨s',⟨p,xs++[y],Cs'++[D'],e,q2.snoc ho,rfl⟩⟩
end
section
variable [fd:FdOk Fd]{u:TS}
def forN:List M->B->(B->M->Rs B)->Rs B
 | [],g,_=>.ok g
 |a::as,g,f=>(f g a).bind λg'=>forN as g' f
def JO:List M->B->(B->M->Rs (Ctl ρ B))->Rs (Ctl ρ B)
 | [],g,_=>.ok (.nx g)
 |a::as,g,f=>(f g a).bind λc=>match c with
  | .ret r=>.ok (.ret r)
  | .nx g'=>JO as g' f
def XZ {m:Rs M}:(m.bind f).bind g=m.bind λa=>(f a).bind g:=by cases m<;> rfl
structure Tgt (K:W.Frag)(OO:List (List XD))(g:TG)(r:Enc M)(κ:Type) where
 set:κ->St->St
 sc:M->κ->SC->SC
 ok:∀{H:Hp}{v:V}{a:M}{U:St}{S:SC}{Q:St->Hp->Prop},r K (hid H OO) v a->S.p (hid H OO)->(∀x,(sc a x S).p (hid H OO)->Q (set x U) H)->g v U H Q
@[reducible] def tg1 [MonoE r](i:Nat):Tgt K OO (YI i) r V where
 set:=λv U=>U.set i (some v)
 sc:=λa v S=>S.add K r v a
 ok:=fun {H v a U S Q} hr hs hq=>hq v ⟨hs,hr⟩
@[reducible] def tg2 {q:Enc L}[MonoE r][MonoE q](i j:Nat):Tgt K OO (Oq K 2 (Z0 (YI i) (Z0 (YI j) ON))) (rP2 r q) (V×V) where
 set:=λv U=>(U.set i (some v.1)).set j (some v.2)
 sc:=λa v S=>(S.add K r v.1 a.1).add K q v.2 a.2
 ok:=fun {H v a U S Q} r9 hs hq=>by obtain⟨p,x,y,e,h,h1,h2⟩:=r9;exact⟨p,_,e,SqT.of (Xn _ _ h),rfl,x,[y],rfl,y,[],rfl,rfl,hq (x,y) ⟨⟨hs,h1⟩,h2⟩⟩
@[reducible] def tg3 {q:Enc L}[MonoE r][MonoE q][MonoE t](i j k:Nat):Tgt K OO (Oq K 3 (Z0 (YI i) (Z0 (YI j) (Z0 (YI k) ON)))) (rP3 r q t) (V×V×V) where
 set:=λv U=>((U.set i (some v.1)).set j (some v.2.1)).set k (some v.2.2)
 sc:=λa v S=>((S.add K r v.1 a.1).add K q v.2.1 a.2.1).add K t v.2.2 a.2.2
 ok:=fun {H v a U S Q} r9 hs hq=>by obtain⟨p,x,y,z,e,h,h1,h2,h3⟩:=r9;exact⟨p,_,e,SqT.of (Xn _ _ h),rfl,x,[y,z],rfl,y,[z],rfl,z,[],rfl,rfl,hq (x,y,z) ⟨⟨⟨hs,h1⟩,h2⟩,h3⟩⟩
structure Walk (K:W.Frag)(Er:Exc->Hp->Prop)(S:SC)(OO:List (List XD))(U:St)(wi:TI)(r:Enc M)(m:Rs (List M)):Prop where
 ok:∀{H:Hp}{R:It->Hp->Prop},W OO H->S.p (hid H OO)->PZ Er (λas H=>∀ J H',Xp H H'->
   (∀(i:Nat) a,as[i]?=some a->∀bp H2,W bp H2->Xp (hid H' OO) (hid H2 bp)->J.go i H2/\∀x H3,J.yld i H2 x H3->Xp H2 H3/\r K (hid H3 bp) x a)->
   (∀bp H2,W bp H2->Xp (hid H' OO) (hid H2 bp)->J.stop as.length H2)->R J H') H m->wi U H R
def Zu [z:MonoE r](he:EvS K Er S OO U te (rV r) m):Walk K Er S OO U (FE K te) r m:=⟨fun {H R} w s P=>by
 refine he H _ w s (P.imp λas _ h v H' s' ⟨p,xs,e,hp,pr⟩=>⟨p,e,⟨xs,SqL.of (Xn _ _ hp)⟩,h _ H' s' ?_ ?_⟩)
 ·intro i a ha bp H2 w2 m2
  obtain⟨x,hx,rx⟩:=Paired.getR pr ha
  have hq:SqL K H2 p xs:=SqL.of (Xn _ _ (m2 _ _ hp))
  refine⟨⟨xs,x,hq,hx⟩,λy H3 r9=>?_⟩
  obtain⟨e3,hy⟩:=r9
  subst e3
  refine⟨Xp.refl _,?_⟩
  have:=hy xs hq
  rw[hx] at this
  cases this
  exact z.mono m2 rx
 ·intro bp H2 w2 m2
  exact⟨xs,SqL.of (Xn _ _ (m2 _ _ hp)),by rw[Paired.len pr];exact Nat.le_refl _⟩⟩
def EM [z:MonoE r](he:EvS K Er S OO U te (rPL r) m):Walk K Er S OO U (WZ K te) r m:=⟨fun {H R} w s P=>by
 refine he H _ w s (P.imp λas _ h v H' s' ⟨p,xs,e,hp,pr⟩=>⟨p,e,⟨xs,SqT.of (Xn _ _ hp)⟩,h _ H' s' ?_ ?_⟩)
 ·intro i a ha bp H2 w2 m2
  obtain⟨x,hx,rx⟩:=Paired.getR pr ha
  have hq:SqT K H2 p xs:=SqT.of (Xn _ _ (m2 _ _ hp))
  refine⟨⟨xs,x,hq,hx⟩,λy H3 r9=>?_⟩
  obtain⟨e3,hy⟩:=r9
  subst e3
  refine⟨Xp.refl _,?_⟩
  have:=hy xs hq
  rw[hx] at this
  cases this
  exact z.mono m2 rx
 ·intro bp H2 w2 m2
  exact⟨xs,SqT.of (Xn _ _ (m2 _ _ hp)),by rw[Paired.len pr];exact Nat.le_refl _⟩⟩
def CD (as:List M):List (Int×M):=(List.range as.length).map (λ(i:Nat)=>(i:Int)) |>.zip as
def DM {i:Nat}{p:Int×M}(h:(CD as)[i]?=some p):p.1=(i:Int)/\as[i]?=some p.2:=by
 unfold CD at h
 rw[List.getElem?_zip_eq_some] at h
 obtain⟨h1,h2⟩:=h
 rw[List.getElem?_map] at h1
 have ah:i<as.length:=by
  rcases Nat.lt_or_ge i as.length with q |q
  ·exact q
  ·rw[List.getElem?_eq_none q] at h2;cases h2
 rw[List.getElem?_range ah] at h1
 exact⟨(Option.some.inj h1).symm,h2⟩
def Ie:(CD as).length=as.length:=by simp[CD]
def Jl [z:MonoE r](he:EvS K Er S OO U te (rV r) m):Walk K Er S OO U (Wc K te) (rP2 Xf r) (m.bind λas=>.ok (CD as)):=⟨fun {H R} w s P=>by
 refine he H _ w s ?_
 cases em:m with
 |bad=>rw[em] at P;exact P
 |err x=>rw[em] at P;exact P
 |ok as=>
  rw[em] at P
  intro v H' s' ⟨p,xs,e,hp,pr⟩
  refine⟨p,e,⟨xs,SqL.of (Xn _ _ hp)⟩,P _ H' s' ?_ ?_⟩
  ·intro i a ha bp H2 w2 m2
   obtain⟨ha1,ha2⟩:=DM ha
   obtain⟨x,hx,rx⟩:=Paired.getR pr ha2
   have hq:SqL K H2 p xs:=SqL.of (Xn _ _ (m2 _ _ hp))
   refine⟨⟨xs,x,hq,hx⟩,λy H3 h3=>?_⟩
   obtain⟨b,x',rfl,hb,rfl,hy⟩:=h3
   have:=hy xs hq
   rw[hx] at this
   cases this
   refine⟨Xv hb _,⟨b, .int i,x,rfl,Z9 w2 hb,by show V.int _=V.int _;rw[ha1],z.mono (m2.trans (Xh (Xv hb _))) rx⟩⟩
  ·intro bp H2 w2 m2
   exact⟨xs,SqL.of (Xn _ _ (m2 _ _ hp)),by rw[Ie,Paired.len pr];exact Nat.le_refl _⟩⟩
def K3 {lo hi:Int}{i:Nat}{a:Int}(h:(VA lo hi)[i]?=some a):a=lo+i/\i<(hi-lo).toNat:=by
 unfold VA at h
 rw[List.getElem?_map] at h
 rcases Nat.lt_or_ge i (hi-lo).toNat with q |q
 ·rw[List.getElem?_range q] at h;exact⟨(Option.some.inj h).symm,q⟩
 ·rw[List.getElem?_eq_none (by simpa using q)] at h;cases h
def K8 {lo hi:Int}:(VA lo hi).length=(hi-lo).toNat:=by simp[VA]
def MY (lo hi:Int):Rs (List Int):=chk (-(2^62)<=lo/\lo<2^62/\ -(2^62)<=hi/\hi<2^62) (.ok (VA lo hi))
def Kb {m:Rs Int}(he:EvB K Er S OO U te Xf m):Walk K Er S OO U (Sk (Xm te Yo)) Xf (m.bind λn=>MY 0 n):=⟨fun {H R} w s P=>
 he.run w s (λas H H' s' h J H2 s2=>h J H2 (s'.trans s2)) P λn v H1 s1 w1 q1 r1 P1=>by
  obtain⟨c,hc,P2⟩:=P1.okOf λx=>QY
  obtain⟨⟨_,_,h1,h2⟩,h3⟩:=Zf hc
  cases h3
  refine⟨n,by rw[show v= .int n from r1],h1,h2,P2 _ H1 (Xp.refl _) (λi a ha bp H2 w2 m2=>?_) λbp H2 w2 m2=>?_⟩
  ·obtain⟨e1,e2⟩:=K3 ha
   rw[Int.sub_zero] at e2
   refine⟨e2,λx H3 r9=>?_⟩
   obtain⟨e3,e4⟩:=r9
   subst e3
   exact⟨Xp.refl _,by rw[e4,e1];rfl⟩
  ·show n.toNat<=_
   rw[K8,Int.sub_zero];exact Nat.le_refl _⟩
def BA {ma:Rs Int}(ha:EvB K Er S OO U ta Xf ma)(hb:EvB K Er S OO U tb Xf mb):Walk K Er S OO U (Ps (Xm ta (Xm tb Yo))) Xf (ma.bind λlo=>mb.bind λn=>MY lo n):=⟨fun {H R} w s P=>
 ha.run w s (λas H H' s' h J H2 s2=>h J H2 (s'.trans s2)) P λlo v H1 s1 w1 q1 r1 P1=>hb.run w1 q1 (λas H H' s' h J H2 s2=>h J H2 (s'.trans s2)) P1 λn v2 H2 s2 w2 q2 r2 P2'=>by
  obtain⟨c,hc,P2⟩:=P2'.okOf λx=>QY
  obtain⟨h1,h3⟩:=Zf hc
  cases h3
  refine⟨lo,n,by rw[show v= .int lo from r1,show v2= .int n from r2],h1,P2 _ H2 (Xp.refl _) (λi a ha bp H3 w3 m3=>?_) λbp H3 w3 m3=>?_⟩
  ·obtain⟨e1,e2⟩:=K3 ha
   refine⟨e2,λx H4 r9=>?_⟩
   obtain⟨e3,e4⟩:=r9
   subst e3
   exact⟨Xp.refl _,by rw[e4,e1];rfl⟩
  ·show(n-lo).toNat<=_
   rw[K8];exact Nat.le_refl _⟩
def WQ {tb:TS}{f:B->Rs L}(J:Jn B ι)(T:∀OO,Tgt K OO g r κ)(x0:ι)(g0:B)(he:Walk K Er S OO U wi r m)(h1:OO=J.oo x0)(h2:U=J.ss x0)(h3:∀h,S.p h->(J.sc g0 x0).p h)
  (hb:∀g x a v,Sv Er ((T (J.oo x)).sc a v (J.sc g x)) (J.oo x) ((T (J.oo x)).set v (J.ss x)) tb (FNd J) (body g a))
  (hr:∀g x,Sv Er (J.sc g x) (J.oo x) (J.ss x) u Fd (f g)):Sv Er S OO U (Zd (Hv wi g tb) u) Fd (m.bind λas=>(forN as g0 body).bind f):=λH D w s P=>by
 refine he.ok w s ?_
 cases em:m with
 |bad=>rw[em] at P;exact P
 |err x=>rw[em] at P;exact λH' s'=>P H' (Xn.trans s')
 |ok as=>
  rw[em] at P
  have P:PZ Er (Fd D) (hid H OO) ((forN as g0 body).bind f):=P
  intro It H' s' e7 bx
  refine⟨λi mm U' H2=>mm=as.length-i/\i<=as.length/\∃x gg,U'=J.ss x/\W (J.oo x) H2/\Xp (hid H' OO) (hid H2 (J.oo x))/\(J.sc gg x).p (hid H2 (J.oo x))/\PZ Er (Fd D) (hid H2 (J.oo x)) ((forN (as.drop i) gg body).bind f),⟨as.length,rfl,Nat.zero_le _,x0,g0,h2,?_,?_,?_,?_⟩,?_⟩
  ·rw[←h1];exact w.keep s'
  ·rw[←h1];exact Xp.refl _
  ·rw[←h1];exact h3 _ (S.mono _ _ (Xh s') s)
  ·rw[←h1,List.drop_zero];exact PZ.tr (fd.tr D) (Xh s') P
  ·rintro i mm U' H2 ⟨rfl,hi,x,gg,rfl,w2,m2,c7,P2⟩
   by_cases ah:i<as.length
   ·right
    have ha:as[i]?=some as[i]:=by simp[ah]
    obtain⟨h4,h5⟩:=e7 i _ ha (J.oo x) H2 w2 m2
    refine⟨h4,λσ3 H3=>∃ x gg,σ3=J.ss x/\W (J.oo x) H3/\Xp (hid H' OO) (hid H3 (J.oo x))/\(J.sc gg x).p (hid H3 (J.oo x))/\PZ Er (Fd D) (hid H3 (J.oo x)) ((forN (as.drop (i+1)) gg body).bind f),λσ3 H3 q=>⟨as.length-(i+1),Nat.sub_lt_sub_left ah (Nat.lt_succ_self i),rfl,ah,q⟩,λy H3 hy=>?_⟩
    obtain⟨s3,r3⟩:=h5 y H3 hy
    have w3:=w2.keep s3
    have m3:=Xh (OO:=J.oo x) s3
    refine(T (J.oo x)).ok r3 ((J.sc gg x).mono _ _ m3 c7) λv hv=>hb gg x as[i] v H3 _ w3 hv ?_
    rw[List.drop_eq_getElem_cons ah] at P2
    have P3:PZ Er (Fd D) (hid H2 (J.oo x)) ((body gg as[i]).bind λg'=>(forN (as.drop (i+1)) g' body).bind f):=by rw[←XZ];exact P2
    cases eb:body gg as[i] with
    |bad=>rw[eb] at P3;exact P3
    |err x=>rw[eb] at P3;exact λH4 s4=>P3 H4 (m3.trans s4)
    |ok g'=>
     rw[eb] at P3
     exact λx' H4 w4 m4 fN=>⟨x',g',rfl,w4,m2.trans (m3.trans m4),fN,PZ.tr (fd.tr D) (m3.trans m4) P3⟩
   ·left
    have e:i=as.length:=Nat.le_antisymm hi (Nat.not_lt.mp ah)
    subst e
    refine⟨bx (J.oo x) H2 w2 m2,hr gg x H2 D w2 c7 ?_⟩
    rw[List.drop_length] at P2
    exact P2
def RD {o:OE ρ}{tb:TS}{f:B->Rs ρ}(J:Jn B ι)(T:∀OO,Tgt K OO g r κ)(x0:ι)(g0:B)(he:Walk K Er S OO U wi r m)(h1:OO=J.oo x0)(h2:U=J.ss x0)(h3:∀h,S.p h->(J.sc g0 x0).p h)
  (hb:∀g x a v,Sv Er ((T (J.oo x)).sc a v (J.sc g x)) (J.oo x) ((T (J.oo x)).set v (J.ss x)) tb (FCd K o J) (body g a))
  (hr:∀g x,Sv Er (J.sc g x) (J.oo x) (J.ss x) u (FTd K o) (f g)):Sv Er S OO U (Zd (Hv wi g tb) u) (FTd K o) (m.bind λas=>(JO as g0 body).bind (Kg f)):=λH D w s P=>by
 refine he.ok w s ?_
 cases em:m with
 |bad=>rw[em] at P;exact P
 |err x=>rw[em] at P;exact λH' s'=>P H' (Xn.trans s')
 |ok as=>
  rw[em] at P
  have P:PZ Er (FTd K o D) (hid H OO) ((JO as g0 body).bind (Kg f)):=P
  intro It H' s' e7 bx
  refine⟨λi mm U' H2=>mm=as.length-i/\i<=as.length/\∃x gg,U'=J.ss x/\W (J.oo x) H2/\Xp (hid H' OO) (hid H2 (J.oo x))/\(J.sc gg x).p (hid H2 (J.oo x))/\PZ Er (FTd K o D) (hid H2 (J.oo x)) ((JO (as.drop i) gg body).bind (Kg f)),⟨as.length,rfl,Nat.zero_le _,x0,g0,h2,?_,?_,?_,?_⟩,?_⟩
  ·rw[←h1];exact w.keep s'
  ·rw[←h1];exact Xp.refl _
  ·rw[←h1];exact h3 _ (S.mono _ _ (Xh s') s)
  ·rw[←h1,List.drop_zero];exact PZ.tr (FdOk.tr D) (Xh s') P
  ·rintro i mm U' H2 ⟨rfl,hi,x,gg,rfl,w2,m2,c7,P2⟩
   by_cases ah:i<as.length
   ·right
    have ha:as[i]?=some as[i]:=by simp[ah]
    obtain⟨h4,h5⟩:=e7 i _ ha (J.oo x) H2 w2 m2
    refine⟨h4,λσ3 H3=>∃ x gg,σ3=J.ss x/\W (J.oo x) H3/\Xp (hid H' OO) (hid H3 (J.oo x))/\(J.sc gg x).p (hid H3 (J.oo x))/\PZ Er (FTd K o D) (hid H3 (J.oo x)) ((JO (as.drop (i+1)) gg body).bind (Kg f)),λσ3 H3 q=>⟨as.length-(i+1),Nat.sub_lt_sub_left ah (Nat.lt_succ_self i),rfl,ah,q⟩,λy H3 hy=>?_⟩
    obtain⟨s3,r3⟩:=h5 y H3 hy
    have w3:=w2.keep s3
    have m3:=Xh (OO:=J.oo x) s3
    refine(T (J.oo x)).ok r3 ((J.sc gg x).mono _ _ m3 c7) λv hv=>hb gg x as[i] v H3 _ w3 hv ?_
    rw[List.drop_eq_getElem_cons ah] at P2
    have P3:PZ Er (FTd K o D) (hid H2 (J.oo x)) ((body gg as[i]).bind λc=>(match c with
     | .ret r=>Rs.ok (Ctl.ret r)
     | .nx g'=>JO (as.drop (i+1)) g' body).bind (Kg f)):=by rw[←XZ];exact P2
    cases eb:body gg as[i] with
    |bad=>rw[eb] at P3;exact P3
    |err x=>rw[eb] at P3;exact λH4 s4=>P3 H4 (m3.trans s4)
    |ok c=>
     rw[eb] at P3
     cases c with
     |ret r=>exact FdOk.tr (Fd:=FTd K o) D r _ _ m3 P3
     |nx g'=>exact λx' H4 w4 m4 fN=>⟨x',g',rfl,w4,m2.trans (m3.trans m4),fN,PZ.tr (FdOk.tr D) (m3.trans m4) P3⟩
   ·left
    have e:i=as.length:=Nat.le_antisymm hi (Nat.not_lt.mp ah)
    subst e
    refine⟨bx (J.oo x) H2 w2 m2,hr gg x H2 D w2 c7 ?_⟩
    rw[List.drop_length] at P2
    exact P2
def Oe {o:OE ρ}{tb:TS}{f:B->Rs (Ctl ρ δ)}(J:Jn B ι)(T:∀OO,Tgt K OO g r κ)(x0:ι)(g0:B)(he:Walk K Er S OO U wi r m)(h1:OO=J.oo x0)(h2:U=J.ss x0)(h3:∀h,S.p h->(J.sc g0 x0).p h)
  (hb:∀g x a v,Sv Er ((T (J.oo x)).sc a v (J.sc g x)) (J.oo x) ((T (J.oo x)).set v (J.ss x)) tb (FCd K o J) (body g a))
  (hr:∀g x,Sv Er (J.sc g x) (J.oo x) (J.ss x) u (FCd K o J2) (f g)):Sv Er S OO U (Zd (Hv wi g tb) u) (FCd K o J2) (m.bind λas=>(JO as g0 body).bind (ZB f)):=λH D w s P=>by
 refine he.ok w s ?_
 cases em:m with
 |bad=>rw[em] at P;exact P
 |err x=>rw[em] at P;exact λH' s'=>P H' (Xn.trans s')
 |ok as=>
  rw[em] at P
  have P:PZ Er (FCd K o J2 D) (hid H OO) ((JO as g0 body).bind (ZB f)):=P
  intro It H' s' e7 bx
  refine⟨λi mm U' H2=>mm=as.length-i/\i<=as.length/\∃x gg,U'=J.ss x/\W (J.oo x) H2/\Xp (hid H' OO) (hid H2 (J.oo x))/\(J.sc gg x).p (hid H2 (J.oo x))/\PZ Er (FCd K o J2 D) (hid H2 (J.oo x)) ((JO (as.drop i) gg body).bind (ZB f)),⟨as.length,rfl,Nat.zero_le _,x0,g0,h2,?_,?_,?_,?_⟩,?_⟩
  ·rw[←h1];exact w.keep s'
  ·rw[←h1];exact Xp.refl _
  ·rw[←h1];exact h3 _ (S.mono _ _ (Xh s') s)
  ·rw[←h1,List.drop_zero];exact PZ.tr (FdOk.tr D) (Xh s') P
  ·rintro i mm U' H2 ⟨rfl,hi,x,gg,rfl,w2,m2,c7,P2⟩
   by_cases ah:i<as.length
   ·right
    have ha:as[i]?=some as[i]:=by simp[ah]
    obtain⟨h4,h5⟩:=e7 i _ ha (J.oo x) H2 w2 m2
    refine⟨h4,λσ3 H3=>∃ x gg,σ3=J.ss x/\W (J.oo x) H3/\Xp (hid H' OO) (hid H3 (J.oo x))/\(J.sc gg x).p (hid H3 (J.oo x))/\PZ Er (FCd K o J2 D) (hid H3 (J.oo x)) ((JO (as.drop (i+1)) gg body).bind (ZB f)),λσ3 H3 q=>⟨as.length-(i+1),Nat.sub_lt_sub_left ah (Nat.lt_succ_self i),rfl,ah,q⟩,λy H3 hy=>?_⟩
    obtain⟨s3,r3⟩:=h5 y H3 hy
    have w3:=w2.keep s3
    have m3:=Xh (OO:=J.oo x) s3
    refine(T (J.oo x)).ok r3 ((J.sc gg x).mono _ _ m3 c7) λv hv=>hb gg x as[i] v H3 _ w3 hv ?_
    rw[List.drop_eq_getElem_cons ah] at P2
    have P3:PZ Er (FCd K o J2 D) (hid H2 (J.oo x)) ((body gg as[i]).bind λc=>(match c with
     | .ret r=>Rs.ok (Ctl.ret r)
     | .nx g'=>JO (as.drop (i+1)) g' body).bind (ZB f)):=by rw[←XZ];exact P2
    cases eb:body gg as[i] with
    |bad=>rw[eb] at P3;exact P3
    |err x=>rw[eb] at P3;exact λH4 s4=>P3 H4 (m3.trans s4)
    |ok c=>
     rw[eb] at P3
     cases c with
     |ret r=>exact FdOk.tr (Fd:=FTd K o) D r _ _ m3 P3
     |nx g'=>exact λx' H4 w4 m4 fN=>⟨x',g',rfl,w4,m2.trans (m3.trans m4),fN,PZ.tr (FdOk.tr D) (m3.trans m4) P3⟩
   ·left
    have e:i=as.length:=Nat.le_antisymm hi (Nat.not_lt.mp ah)
    subst e
    refine⟨bx (J.oo x) H2 w2 m2,hr gg x H2 D w2 c7 ?_⟩
    rw[List.drop_length] at P2
    exact P2
def Kf:Nat->B->(B->Rs Bool)->(B->Rs B)->Rs B
 |0,_,_,_=>.bad
 |n+1,g,c,f=>(c g).bind λb=>if b=true then(f g).bind λg'=>Kf n g' c f else .ok g
def NP {tb:TS}{mc:B->Rs Bool}{f:B->Rs L}(J:Jn B ι)(n:Nat)(x0:ι)(g0:B)(h1:OO=J.oo x0)(h2:U=J.ss x0)(h3:∀h,S.p h->(J.sc g0 x0).p h)
  (hc:∀g x,EvT Er (J.sc g x) (J.oo x) (J.ss x) c (mc g))(hb:∀g x,Sv Er (J.sc g x) (J.oo x) (J.ss x) tb (FNd J) (body g))
  (hr:∀g x,Sv Er (J.sc g x) (J.oo x) (J.ss x) u Fd (f g)):Sv Er S OO U (Zd (HV c tb) u) Fd ((Kf n g0 mc body).bind f):=λH D w s P=>by
 refine⟨λmm U' H2=>∃ x gg,U'=J.ss x/\W (J.oo x) H2/\(J.sc gg x).p (hid H2 (J.oo x))/\PZ Er (Fd D) (hid H2 (J.oo x)) ((Kf mm gg mc body).bind f),⟨n,x0,g0,h2,by rw[←h1];exact w,by rw[←h1];exact h3 _ s,by rw[←h1];exact P⟩,?_⟩
 rintro mm U' H2 ⟨x,gg,rfl,w2,c7,P2⟩
 cases mm with
 |zero=>exact P2.elim
 |succ mm=>
  have P3:PZ Er (Fd D) (hid H2 (J.oo x)) ((mc gg).bind λb=>(if b=true then(body gg).bind λg'=>Kf mm g' mc body else .ok gg).bind f):=by rw[←XZ];exact P2
  refine(hc gg x).st w2 c7 P3 λb H3 w3 sc3 P4=>?_
  cases b with
  |false=>exact hr gg x H3 D w3 sc3 P4
  |true=>
   rw[if_pos rfl] at P4⊢
   refine⟨λσ3 H4=>∃ x gg,σ3=J.ss x/\W (J.oo x) H4/\(J.sc gg x).p (hid H4 (J.oo x))/\PZ Er (Fd D) (hid H4 (J.oo x)) ((Kf mm gg mc body).bind f),λσ3 H4 q=>⟨mm,Nat.lt_succ_self _,q⟩,hb gg x H3 _ w3 sc3 ?_⟩
   rw[XZ] at P4
   cases eb:body gg with
   |bad=>rw[eb] at P4;exact P4
   |err x=>rw[eb] at P4;exact P4
   |ok g'=>
    rw[eb] at P4
    exact λx' H5 w5 m5 sc5=>⟨x',g',rfl,w5,sc5,PZ.tr (fd.tr D) m5 P4⟩
def Ek (as:List M)(f:M->Rs L):Rs (List L):=match as with
 | []=>.ok []
 |a::as=>(f a).bind λb=>(Ek as f).bind λbs=>.ok (b::bs)
def OB (as:List M)(f:M->Rs L):Rs (List L):=chk (as.length<=sizeLine) (Ek as f)
def KP (as:List M)(c:M->Rs Bool)(f:M->Rs L):Rs (List L):=match as with
 | []=>.ok []
 |a::as=>(c a).bind λb=>if b=true then(f a).bind λb=>(KP as c f).bind λbs=>.ok (b::bs) else KP as c f
def T6 (as:List M)(c:M->Rs Bool)(f:M->Rs L):Rs (List L):=chk (as.length<=sizeLine) (KP as c f)
def PZ.chk {F:L->Hp->Prop}[Decidable c]{m:Rs L}(P:PZ Er F H (chk c m)):c/\PZ Er F H m:=by
 unfold L2.chk at P;split at P
 ·exact⟨by assumption,P⟩
 ·exact P.elim
def PJ [z:MonoO o]{Q:VK}(w:W (Cs.flatten::OO) H)(m0:Xp (hid H0 OO) (hid H (Cs.flatten::OO)))(s0:Xp H0 H)(pr:P3 (o K (hid H (Cs.flatten::OO))) xs as Cs)(P:FO K OO OO (oL o) Q as H0):∀p,H p=none->Q (.ref p) (upd H p (.lst xs)):=λp hp=>by
 have hn:=VT (OO:=Cs.flatten::OO) hp (o:=.lst xs)
 have wn:=w.new hp (o:=.lst xs) rfl
 have pe:(((p,HO.lst xs)::Cs.flatten)::OO).flatten.Perm ([(p,HO.lst xs)]::Cs.flatten::OO).flatten:=by simp
 refine P (.ref p) ((p, .lst xs)::Cs.flatten) _ (s0.trans (Xv hp _)) (wn.of pe) ?_ ?_
 ·rw[XF pe];exact m0.trans hn
 ·rw[XF pe]
  exact⟨p,xs,Cs,rfl,pr.imp λ_ _ _ h=>z.mono hn h,rfl⟩
def YL {o:OE L}[z:MonoO o](T:∀OO,Tgt K OO g r κ)(he:Walk K Er S OO U wi r m)
  (hb:∀C a v,Ev K Er ((T (C::OO)).sc a v S) (C::OO) (C::OO) ((T (C::OO)).set v (X5 n caps U)) te o (f a)):Ev K Er S OO OO U (F1 n caps wi g G1 te) (oL o) (m.bind λas=>OB as f):=λH Q w s P=>by
 refine he.ok w s ?_
 cases em:m with
 |bad=>rw[em] at P;exact P
 |err x=>rw[em] at P;exact P
 |ok as=>
  rw[em] at P
  obtain⟨hsz,P⟩:=PZ.chk (show PZ Er _ H (chk (as.length<=sizeLine) (Ek as f)) from P)
  intro It H' s' e7 bx
  -- what is left: dB ZA of dB items, then all
  refine⟨λi mm ys H2=>mm=as.length-i/\i<=as.length/\∃bs Cs,Xp H H2/\W (Cs.flatten::OO) H2/\Xp (hid H' OO) (hid H2 (Cs.flatten::OO))/\P3 (o K (hid H2 (Cs.flatten::OO))) ys bs Cs/\bs.length=i/\PZ Er (FO K OO OO (oL o) Q) H ((Ek (as.drop i) f).bind λZA=>.ok (bs++ZA)),
   ⟨as.length,rfl,Nat.zero_le _,[],[],s',(w.keep s').nil,by show Xp _ (hid H' ([]::OO));rw[YK];exact Xp.refl _, .nil,rfl,?_⟩,?_⟩
  ·rw[List.drop_zero]
   revert P
   cases Ek as f<;> exact λz=>z
  ·rintro i mm ys H2 ⟨rfl,hi,bs,Cs,s2,w2,m2,pr,af,P2⟩
   refine⟨by rw[pr.len.1,af];omega,?_⟩
   by_cases ah:i<as.length
   ·right
    have ha:as[i]?=some as[i]:=by simp[ah]
    obtain⟨h4,h5⟩:=e7 i _ ha (Cs.flatten::OO) H2 w2 m2
    refine⟨h4,λys' H3=>∃ bs Cs,Xp H H3/\W (Cs.flatten::OO) H3/\Xp (hid H' OO) (hid H3 (Cs.flatten::OO))/\P3 (o K (hid H3 (Cs.flatten::OO))) ys' bs Cs/\bs.length=i+1/\PZ Er (FO K OO OO (oL o) Q) H ((Ek (as.drop (i+1)) f).bind λZA=>.ok (bs++ZA)),λys' H3 q=>⟨as.length-(i+1),Nat.sub_lt_sub_left ah (Nat.lt_succ_self i),rfl,ah,q⟩,λy H3 hy=>?_⟩
    obtain⟨s3,r3⟩:=h5 y H3 hy
    have w3:=w2.keep s3
    have m3:=Xh (OO:=Cs.flatten::OO) s3
    have sS:S.p (hid H3 (Cs.flatten::OO)):=S.mono _ _ ((Xh s').trans (m2.trans m3)) s
    refine(T (Cs.flatten::OO)).ok r3 sS λv hv=>?_
    show G1 _ _ _
    refine WC ?_
    rw[List.drop_eq_getElem_cons ah] at P2
    have az:PZ Er (FO K OO OO (oL o) Q) H ((f as[i]).bind λb=>(Ek (as.drop (i+1)) f).bind λZA=>.ok (bs++b::ZA)):=by
     have:((f as[i]).bind λb=>(Ek (as.drop (i+1)) f).bind λZA=>Rs.ok (bs++b::ZA))=(Ek (as[i]::as.drop (i+1)) f).bind λZA=>.ok (bs++ZA):=by
      show _=((f as[i]).bind λb=>(Ek (as.drop (i+1)) f).bind λbs=>Rs.ok (b::bs)).bind _
      rw[XZ];congr 1;funext b;rw[XZ];rfl
     rw[this];exact P2
    refine hb Cs.flatten as[i] v H3 _ w3 hv ?_
    cases eb:f as[i] with
    |bad=>rw[eb] at az;exact az
    |err x=>rw[eb] at az;exact λH4 s4=>az H4 (s2.trans (s3.trans s4))
    |ok b=>
     rw[eb] at az
     intro v' C' H4 s4 w4 m4 ho
     have pe:((Cs++[C']).flatten::OO).flatten.Perm (C'::Cs.flatten::OO).flatten:=by
      simp only[YY,List.flatten_cons]
      rw[List.append_assoc, ←List.append_assoc, ←List.append_assoc]
      exact List.perm_append_comm.append_right _
     refine⟨bs++[b],Cs++[C'],s2.trans (s3.trans s4),w4.of pe,?_,?_,by simp[af],?_⟩
     ·rw[XF pe];exact m2.trans (m3.trans m4)
     ·rw[XF pe];exact P3.snoc (pr.imp λ_ _ _ h=>z.mono (m3.trans m4) h) ho
     ·have P4:PZ Er (FO K OO OO (oL o) Q) H ((Ek (as.drop (i+1)) f).bind λZA=> .ok (bs++b::ZA)):=az
      simpa using P4
   ·left
    have e:i=as.length:=Nat.le_antisymm hi (Nat.not_lt.mp ah)
    subst e
    refine⟨bx (Cs.flatten::OO) H2 w2 m2,?_⟩
    rw[List.drop_length] at P2
    have az:FO K OO OO (oL o) Q (bs++[]) H:=P2
    rw[List.append_nil] at az
    exact PJ (H0:=H) w2 ((Xh s').trans m2) s2 pr az
def Z4 {o:OE L}[z:MonoO o](T:∀OO,Tgt K OO g r κ)(he:Walk K Er S OO U wi r m)
  (hc:∀C a v,EvT Er ((T (C::OO)).sc a v S) (C::OO) ((T (C::OO)).set v (X5 n caps U)) tt (c a))
  (hb:∀C a v,Ev K Er ((T (C::OO)).sc a v S) (C::OO) (C::OO) ((T (C::OO)).set v (X5 n caps U)) te o (f a)):Ev K Er S OO OO U (F1 n caps wi g tt te) (oL o) (m.bind λas=>T6 as c f):=λH Q w s P=>by
 refine he.ok w s ?_
 cases em:m with
 |bad=>rw[em] at P;exact P
 |err x=>rw[em] at P;exact P
 |ok as=>
  rw[em] at P
  obtain⟨hsz,P⟩:=PZ.chk (show PZ Er _ H (chk (as.length<=sizeLine) (KP as c f)) from P)
  intro It H' s' e7 bx
  refine⟨λi mm ys H2=>mm=as.length-i/\i<=as.length/\∃bs Cs,Xp H H2/\W (Cs.flatten::OO) H2/\Xp (hid H' OO) (hid H2 (Cs.flatten::OO))/\P3 (o K (hid H2 (Cs.flatten::OO))) ys bs Cs/\bs.length<=i/\PZ Er (FO K OO OO (oL o) Q) H ((KP (as.drop i) c f).bind λZA=>.ok (bs++ZA)),
   ⟨as.length,rfl,Nat.zero_le _,[],[],s',(w.keep s').nil,by show Xp _ (hid H' ([]::OO));rw[YK];exact Xp.refl _, .nil,Nat.zero_le _,?_⟩,?_⟩
  ·rw[List.drop_zero]
   revert P
   cases KP as c f<;> exact λz=>z
  ·rintro i mm ys H2 ⟨rfl,hi,bs,Cs,s2,w2,m2,pr,af,P2⟩
   refine⟨by rw[pr.len.1];omega,?_⟩
   by_cases ah:i<as.length
   ·right
    have ha:as[i]?=some as[i]:=by simp[ah]
    obtain⟨h4,h5⟩:=e7 i _ ha (Cs.flatten::OO) H2 w2 m2
    refine⟨h4,λys' H3=>∃ bs Cs,Xp H H3/\W (Cs.flatten::OO) H3/\Xp (hid H' OO) (hid H3 (Cs.flatten::OO))/\P3 (o K (hid H3 (Cs.flatten::OO))) ys' bs Cs/\bs.length<=i+1/\PZ Er (FO K OO OO (oL o) Q) H ((KP (as.drop (i+1)) c f).bind λZA=>.ok (bs++ZA)),λys' H3 q=>⟨as.length-(i+1),Nat.sub_lt_sub_left ah (Nat.lt_succ_self i),rfl,ah,q⟩,λy H3 hy=>?_⟩
    obtain⟨s3,r3⟩:=h5 y H3 hy
    have w3:=w2.keep s3
    have m3:=Xh (OO:=Cs.flatten::OO) s3
    have sS:S.p (hid H3 (Cs.flatten::OO)):=S.mono _ _ ((Xh s').trans (m2.trans m3)) s
    refine(T (Cs.flatten::OO)).ok r3 sS λv hv=>?_
    rw[List.drop_eq_getElem_cons ah] at P2
    have az:PZ Er (FO K OO OO (oL o) Q) H ((c as[i]).bind λb=>(if b=true then(f as[i]).bind λb=>(KP (as.drop (i+1)) c f).bind λbs=>.ok (b::bs) else KP (as.drop (i+1)) c f).bind λZA=>.ok (bs++ZA)):=by
     rw[←XZ];exact P2
    refine hc Cs.flatten as[i] v H3 _ w3 hv ?_
    cases ec:c as[i] with
    |bad=>rw[ec] at az;exact az
    |err x=>rw[ec] at az;exact λH4 s4=>az H4 (s2.trans (s3.trans s4))
    |ok b=>
     rw[ec] at az
     intro H4 s4
     have w4:=w3.keep s4
     have m4:=Xh (OO:=Cs.flatten::OO) s4
     cases b with
     |false=>exact⟨bs,Cs,s2.trans (s3.trans s4),w4,m2.trans (m3.trans m4),pr.imp λ_ _ _ h=>z.mono (m3.trans m4) h,Nat.le_succ_of_le af,az⟩
     |true=>
      rw[if_pos rfl]
      have P4:PZ Er (FO K OO OO (oL o) Q) H ((f as[i]).bind λb=>(KP (as.drop (i+1)) c f).bind λZA=>.ok (bs++b::ZA)):=by
       have:((f as[i]).bind λb=>(KP (as.drop (i+1)) c f).bind λZA=>Rs.ok (bs++b::ZA))=((f as[i]).bind λb=>(KP (as.drop (i+1)) c f).bind λbs=>Rs.ok (b::bs)).bind λZA=>.ok (bs++ZA):=by
        rw[XZ];congr 1;funext b;rw[XZ];rfl
       rw[this];exact az
      refine hb Cs.flatten as[i] v H4 _ w4 (((T (Cs.flatten::OO)).sc as[i] v S).mono _ _ m4 hv) ?_
      cases eb:f as[i] with
      |bad=>rw[eb] at P4;exact P4
      |err x=>rw[eb] at P4;exact λH5 s5=>P4 H5 (s2.trans (s3.trans (s4.trans s5)))
      |ok b=>
       rw[eb] at P4
       intro v' C' H5 s5 w5 m5 ho
       have pe:((Cs++[C']).flatten::OO).flatten.Perm (C'::Cs.flatten::OO).flatten:=by
        simp only[YY,List.flatten_cons]
        rw[List.append_assoc, ←List.append_assoc, ←List.append_assoc]
        exact List.perm_append_comm.append_right _
       refine⟨bs++[b],Cs++[C'],s2.trans (s3.trans (s4.trans s5)),w5.of pe,?_,?_,by simpa using af,?_⟩
       ·rw[XF pe];exact m2.trans (m3.trans (m4.trans m5))
       ·rw[XF pe];exact P3.snoc (pr.imp λ_ _ _ h=>z.mono (m3.trans (m4.trans m5)) h) ho
       ·have P5:PZ Er (FO K OO OO (oL o) Q) H ((KP (as.drop (i+1)) c f).bind λZA=> .ok (bs++b::ZA)):=P4
        simpa using P5
   ·left
    have e:i=as.length:=Nat.le_antisymm hi (Nat.not_lt.mp ah)
    subst e
    refine⟨bx (Cs.flatten::OO) H2 w2 m2,?_⟩
    rw[List.drop_length] at P2
    have az:FO K OO OO (oL o) Q (bs++[]) H:=P2
    rw[List.append_nil] at az
    exact PJ (H0:=H) w2 ((Xh s').trans m2) s2 pr az
def JK (as:List M)(i:Int)(a:M):Rs (List M):=match ixN as.length i with
 |some j=>.ok (as.set j a)
 |none=>.bad
end
section
variable [fd:FdOk Fd]{u:TS}
def MB {D:List XD}{o:HO}(w:W (D::OO) H)(hk:OO[k]?=some C)(hp:p∈C.map (·.1))(di:p∈C'.map (·.1))(cK:(C'.map (·.1)).Nodup)(bd:∀b∈C'.map (·.1),b∈(C++D).map (·.1))(ht:∀c∈C',upd H p o c.1=some c.2)(hm:∀c∈C',Td c.2=true):
  W (OO.set k C') (upd H p o)/\Xp (hid H (D::OO)) (hid (upd H p o) (OO.set k C')):=by
 have ah:k<OO.length:=by
  rcases Nat.lt_or_ge k OO.length with h |h
  ·exact h
  ·rw[List.getElem?_eq_none h] at hk;cases hk
 have h1:=XN hk
 have h2:=XN (OO:=OO.set k C') (k:=k) (C:=C') (by simp[ah])
 rw[set_set] at h2
 have h3:(OO.set k C').flatten.Perm (C'++(OO.set k []).flatten):=by simpa using h2.symm
 have h4:(D::OO).flatten.Perm ((C++D)++(OO.set k []).flatten):=by
  rw[List.flatten_cons]
  refine((by simpa using h1.symm:OO.flatten.Perm (C++(OO.set k []).flatten)).append_left D).trans ?_
  rw[←List.append_assoc]
  exact List.perm_append_comm.append_right _
 have fu:(((C++D)++(OO.set k []).flatten).map (·.1)).Nodup:=(h4.map _).nodup_iff.mp w.nd
 rw[List.map_append] at fu
 obtain⟨n1,n2,n3⟩:=List.nodup_append.mp fu
 refine⟨⟨λc hc=>?_,?_,λc hc=>?_⟩,λb v q=>?_⟩
 ·rcases List.mem_append.mp (h3.mem_iff.mp hc) with hc |hc
  ·exact ht c hc
  ·have aL:c.1≠p:=λe=>n3 p (bd p di) c.1 (List.mem_map.mpr ⟨c,hc,rfl⟩) e.symm
   rw[XH aL]
   exact w.tr c (h4.mem_iff.mpr (by simp[hc]))
 ·refine((h3.map _).nodup_iff).mpr ?_
  rw[List.map_append]
  exact List.nodup_append.mpr ⟨cK,n2,λa ha b hb=>n3 a (bd a ha) b hb⟩
 ·rcases List.mem_append.mp (h3.mem_iff.mp hc) with hc |hc
  ·exact hm c hc
  ·exact w.mu c (h4.mem_iff.mpr (by simp[hc]))
 ·obtain⟨q1,q2⟩:=XM q
  have hbp:b≠p:=λe=>q2 (by
   rw[e]
   obtain⟨c,hc,rfl⟩:=List.mem_map.mp hp
   exact V9 (h4.mem_iff.mpr (by simp[hc])))
  refine YA (by rw[XH hbp];exact q1) λz=>q2 ?_
  obtain⟨o',cI⟩:=Hk z
  rcases List.mem_append.mp (h3.mem_iff.mp cI) with hc |hc
  ·obtain⟨c,eP,e⟩:=List.mem_map.mp (bd b (List.mem_map.mpr ⟨_,hc,rfl⟩))
   rw[←e]
   exact V9 (h4.mem_iff.mpr (List.mem_append_left _ eP))
  ·exact V9 (c:=(b,o')) (h4.mem_iff.mpr (by simp[hc]))
def Aj {D:List XD}{Cs':List (List XD)}{xs':List V}(w:W (D::OO) H)(hk:OO[k]?=some ((p, .lst xs)::Cs.flatten))(bd:∀c∈Cs'.flatten,c∈Cs.flatten++D)(cK:(Cs'.flatten.map (·.1)).Nodup):
  W (OO.set k ((p, .lst xs')::Cs'.flatten)) (upd H p (.lst xs'))/\Xp (hid H (D::OO)) (hid (upd H p (.lst xs')) (OO.set k ((p, .lst xs')::Cs'.flatten))):=by
 have h1:=XN hk
 have w3:W [((p,HO.lst xs)::(Cs.flatten++D))++(OO.set k []).flatten] H:=w.of (by
  simp only[List.flatten_cons,List.flatten_nil,List.append_nil]
  refine List.Perm.trans ?_ ((by simpa using h1:(((p,HO.lst xs)::Cs.flatten)++(OO.set k []).flatten).Perm OO.flatten).append_left D)
  rw[←List.append_assoc]
  refine List.Perm.append_right _ ?_
  exact(List.perm_append_comm (l₁:=(p,HO.lst xs)::Cs.flatten) (l₂:=D)))
 have nd:=w3.nd
 simp only[fl,List.flatten_cons,List.flatten_nil,List.append_nil,List.map_append,List.cons_append,List.map_cons] at nd
 have aL:∀c∈Cs'.flatten,c.1≠p:=λc hc e=>by
  refine(List.nodup_cons.mp nd).1 ?_
  rw[←e]
  refine List.mem_append_left _ ?_
  rw[←List.map_append]
  exact List.mem_map.mpr ⟨c,bd c hc,rfl⟩
 refine MB w hk List.mem_cons_self List.mem_cons_self ?_ ?_ ?_ ?_
 ·rw[List.map_cons,List.nodup_cons]
  refine⟨λz=>?_,cK⟩
  obtain⟨c,hc,e⟩:=List.mem_map.mp z
  exact aL c hc e
 ·intro b hb
  rcases List.mem_cons.mp hb with rfl |hb
  ·exact List.mem_cons_self
  ·obtain⟨c,hc,rfl⟩:=List.mem_map.mp hb
   rw[List.cons_append,List.map_cons]
   exact List.mem_cons_of_mem _ (List.mem_map.mpr ⟨c,bd c hc,rfl⟩)
 ·intro c hc
  rcases List.mem_cons.mp hc with rfl |hc
  ·exact X9
  ·rw[XH (aL c hc)]
   exact w3.tr c (by
    rw[List.flatten_cons,List.flatten_nil,List.append_nil]
    exact List.mem_append_left _ (List.mem_cons_of_mem _ (bd c hc)))
 ·intro c hc
  rcases List.mem_cons.mp hc with rfl |hc
  ·rfl
  ·exact w3.mu c (by
    rw[List.flatten_cons,List.flatten_nil,List.append_nil]
    exact List.mem_append_left _ (List.mem_cons_of_mem _ (bd c hc)))
def LD {R:List XD}(q:oL o K h (.ref p) as ((p, .lst xs)::R)):∃Cs,P3 (o K h) xs as Cs/\R=Cs.flatten:=by
 obtain⟨p',xs',Cs,e,q,c⟩:=q
 injection c with c1 c2
 injection c1 with c3 c4
 injection c4 with c5
 subst c5
 exact⟨Cs,q,c2⟩
def Ix {a:M}(h:JK as i a= .ok bs):∃j,ixN as.length i=some j/\bs=as.set j a:=by
 unfold JK at h;split at h
 ·cases h;exact⟨_,by assumption,rfl⟩
 ·cases h
def Mw {a:M}{x:Exc}:JK as i a≠ .err x:=by unfold JK;split<;> exact λz=>nomatch z
def VV {r m:List XD}(h:(l++r).Perm m)(n:(m.map (·.1)).Nodup):(l.map (·.1)).Nodup:=by
 have:((l++r).map (·.1)).Nodup:=(h.map _).nodup_iff.mpr n
 rw[List.map_append] at this
 exact(List.nodup_append.mp this).1
def JD {D:List XD}(hj:j<Cs.length):((Cs.set j D).flatten++Cs[j]).Perm (Cs.flatten++D):=by
 have h1:=XN (OO:=Cs) (k:=j) (C:=Cs[j]) (by simp[hj])
 have h2:=XN (OO:=Cs.set j D) (k:=j) (C:=D) (by simp[hj])
 rw[set_set] at h2
 have h3:(Cs.set j D).flatten.Perm (D++(Cs.set j []).flatten):=by simpa using h2.symm
 have h4:Cs.flatten.Perm (Cs[j]++(Cs.set j []).flatten):=by simpa using h1.symm
 refine(h3.append_right _).trans (List.Perm.trans ?_ (h4.append_right _).symm)
 refine List.perm_append_comm.trans ((List.perm_append_comm.append_left _).trans ?_)
 rw[List.append_assoc]
def JZ {D:List XD}(w:W (D::OO) H)(hk:OO[k]?=some ((p, .lst xs)::Cs.flatten)):((Cs.flatten++D).map (·.1)).Nodup:=by
 have h1:=XN hk
 have w3:W [((p,HO.lst xs)::(Cs.flatten++D))++(OO.set k []).flatten] H:=w.of (by
  simp only[List.flatten_cons,List.flatten_nil,List.append_nil]
  refine List.Perm.trans ?_ ((by simpa using h1:(((p,HO.lst xs)::Cs.flatten)++(OO.set k []).flatten).Perm OO.flatten).append_left D)
  rw[←List.append_assoc]
  refine List.Perm.append_right _ ?_
  exact(List.perm_append_comm (l₁:=(p,HO.lst xs)::Cs.flatten) (l₂:=D)))
 have nd:=w3.nd
 simp only[fl,List.flatten_cons,List.flatten_nil,List.append_nil,List.cons_append,List.map_cons] at nd
 have n2:=(List.nodup_cons.mp nd).2
 rw[List.map_append] at n2
 exact(List.nodup_append.mp n2).1
def Np {ti:TE}[MonoO o]{m:Rs M}{f:List M->Rs L}{v:V}(i k:Nat)(hσ:U[i]?=some (some v))(bF:OO'[k]?=some C)(h:∀x,S.p x->oL o K x v as C)(he:Ev K Er S OO OO' U ta o m)
  (hi:∀D,EvB K Er S (D::OO') U ti Xf mi)
  (hr:∀bs C',Sv Er (S.addO K (oL o) v bs C') (OO'.set k C') U u Fd (f bs)):Sv Er S OO U (Zd (BG ta (W8 (Q0 i) ti Nk)) u) Fd (m.bind λa=>mi.bind λj=>(JK as j a).bind f):=λH D w s P=>
 he.st w s P λa y D' H' w' s' ho P'=>⟨v,hσ,(hi D').st w' s' P' λj z H2 s2 w2 q2 r2 P2=>by
  obtain⟨p,xs,Cs,e,q,c⟩:=h _ q2
  subst c
  have hH:H2 p=some (.lst xs):=w2.tr (p, .lst xs) (by rw[List.flatten_cons];exact List.mem_append_right _ (List.mem_flatten.mpr ⟨_,List.mem_of_getElem? bF,List.mem_cons_self⟩))
  cases es:JK as j a with
  |bad=>rw[es] at P2;exact P2.elim
  |err x=>exact absurd es Mw
  |ok bs=>
   rw[es] at P2
   obtain⟨jj,h1,rfl⟩:=Ix es
   have hjl:jj<as.length:=by
    unfold ixN at h1
    split at h1
    ·split at h1
     ·cases h1;omega
     ·cases h1
    ·split at h1
     ·cases h1;omega
     ·cases h1
   have hjC:jj<Cs.length:=by rw[q.len.2];exact hjl
   have hp:=JD (Cs:=Cs) (j:=jj) (D:=D') hjC
   obtain⟨w3,m3⟩:=Aj (xs':=xs.set jj y) (Cs':=Cs.set jj D') w2 bF (λc hc=>hp.mem_iff.mp (List.mem_append_left _ hc)) (VV hp (JZ w2 bF))
   refine⟨p,xs,j,jj,e,r2,hH,by rw[q.len.1];exact h1,hr _ _ _ D w3 ⟨S.mono _ _ m3 q2,⟨p,_,_,e,P3.imp (λ_ _ _ z=>MonoO.mono m3 z) (P3.set (MonoO.mono (Xh s2) ho) jj q),rfl⟩⟩ (PZ.tr (fd.tr D) m3 P2)⟩⟩
def WD [MonoO o]{f:List M->Rs L}{v:V}(i k:Nat)(hσ:U[i]?=some (some v))(hk:OO[k]?=some C)(bF:OO'[k]?=some C)(h:∀x,S.p x->oL o K x v as C)(he:Ev K Er S OO OO' U ta (oL o) m)
  (hr:∀bs C',Sv Er (S.addO K (oL o) v (as++bs) C') (OO'.set k C') U u Fd (f (as++bs))):Sv Er S OO U (Zd (JJ (tBM K "list" Cz (Q0 i) (Xm ta Yo))) u) Fd (m.bind λbs=>chk (as.length+bs.length<=sizeLine) (f (as++bs))):=λH D w s P=>by
 obtain⟨p,xs,Cs,e,q,c⟩:=h _ s
 subst c
 have hH:H p=some (.lst xs):=w.tr (p, .lst xs) (List.mem_flatten.mpr ⟨_,List.mem_of_getElem? hk,List.mem_cons_self⟩)
 refine⟨v,hσ,by rw[e];exact .inl ⟨rfl,_,SqL.of hH⟩,he.st w s P λbs y D' H' w' s' ho P'=>?_⟩
 obtain⟨hsz,P'⟩:=PZ.chk P'
 subst e
 obtain⟨Cs2,q2,c2⟩:=LD (h _ s')
 obtain⟨p',zs,Ds,e3,q3,c3⟩:=ho
 subst c3
 have gS:H' p=some (.lst xs):=w'.tr (p, .lst xs) (by rw[List.flatten_cons];exact List.mem_append_right _ (List.mem_flatten.mpr ⟨_,List.mem_of_getElem? bF,List.mem_cons_self⟩))
 have gP:H' p'=some (.lst zs):=w'.tr (p', .lst zs) (by rw[List.flatten_cons];exact List.mem_append_left _ List.mem_cons_self)
 have cn:=JZ w' bF
 obtain⟨w3,m3⟩:=Aj (xs':=xs++zs) (Cs':=Cs2++Ds) w' bF (λc hc=>by
   rw[List.flatten_append,List.mem_append] at hc
   rcases hc with hc |hc
   ·rw[c2];exact List.mem_append_left _ hc
   ·exact List.mem_append_right _ (List.mem_cons_of_mem _ hc)) (by
   rw[List.flatten_append, ←c2]
   refine List.Nodup.sublist (List.Sublist.map _ ?_) cn
   exact List.Sublist.append (List.Sublist.refl _) (List.sublist_cons_self _ _))
 refine⟨p,p',xs,zs,rfl,by rw[e3],gS,gP,by rw[q2.len.1,q3.len.1];exact hsz,?_⟩
 exact hr bs _ _ D w3 ⟨S.mono _ _ m3 s',⟨p,_,_,rfl,P3.imp (λ_ _ _ z=>MonoO.mono m3 z) (q2.app q3),rfl⟩⟩ (PZ.tr (fd.tr D) m3 P')
def NG (as:List M)(i:Int):Rs (M×List M):=chk (-(2^63)<=i/\i<2^63) (match seqIndex? i as.length with
 |none=>.bad
 |some k=>match as[k]? with
  |none=>.bad
  |some a=>.ok (a,as.eraseIdx k))
def Pw {p:M×List M}(h:NG as i= .ok p):(-(2^63)<=i/\i<2^63)/\∃k,seqIndex? i as.length=some k/\as[k]?=some p.1/\p.2=as.eraseIdx k:=by
 obtain⟨h1,h2⟩:=Zf h
 refine⟨h1,?_⟩
 split at h2
 ·cases h2
 ·split at h2
  ·cases h2
  ·cases h2;exact⟨_,by assumption,by assumption,rfl⟩
def SA {x:Exc}:NG as i≠ .err x:=by
 unfold NG chk;split
 ·split
  ·exact λz=>nomatch z
  ·split<;> exact λz=>nomatch z
 ·exact λz=>nomatch z
def Paired.erase' {F:M->B->Prop}:∀{l:List M}{m:List B} (n:Nat),Paired F l m->Paired F (l.eraseIdx n) (m.eraseIdx n)
 |_,_,_, .nil=>.nil
 |_,_,0, .cons _ t=>t
 |_,_,n+1, .cons r t=>.cons r (Paired.erase' n t)
def S5 {te ti:TE}[MonoE r]{f:M×List M->Rs L}{v:V}{Q:VK}(i k:Nat)(hσ:U[i]?=some (some v))(hk:OO[k]?=some C)(h:∀x,S.p x->oL (oF r) K x v as C)(hi:EvB K Er S OO U ti Xf mi)
  (w:W OO H)(s:S.p (hid H OO))(P:PZ Er (Fd D) (hid H OO) (mi.bind λj=>(NG as j).bind f))
  (hr:∀a bs y C' H',W (OO.set k C') H'->((S.add K r y a).addO K (oL (oF r)) v bs C').p (hid H' (OO.set k C'))->PZ Er (Fd D) (hid H' (OO.set k C')) (f (a,bs))->Q y H'):tBM K "list" Ej (Q0 i) (Xm ti Yo) U H Q:=by
 obtain⟨p,xs,Cs,e,q,c⟩:=h _ s
 subst c
 have hH:H p=some (.lst xs):=w.tr (p, .lst xs) (List.mem_flatten.mpr ⟨_,List.mem_of_getElem? hk,List.mem_cons_self⟩)
 refine⟨v,hσ,by rw[e];exact .inl ⟨rfl,_,SqL.of hH⟩,hi.st w s P λj z H' s1 w' s' ho P'=>?_⟩
 subst e
 obtain⟨Cs2,q2,c2⟩:=LD (h _ s')
 obtain⟨pr,jf⟩:=P3.flat q2
 cases es:NG as j with
 |bad=>rw[es] at P';exact P'.elim
 |err x=>exact absurd es SA
 |ok pp=>
  rw[es] at P'
  obtain⟨a,bs⟩:=pp
  obtain⟨h1,kk,h2,h3,h4⟩:=Pw es
  obtain⟨y,hy,ry⟩:=Paired.getR pr h3
  have w0:W ([]::OO) H':=w'.nil
  have hk0:OO[k]?=some ((p, .lst xs)::([]:List (List XD)).flatten):=by rw[hk,c2,jf];rfl
  obtain⟨w3,m3⟩:=Aj (D:=[]) (Cs:=[]) (xs':=xs.eraseIdx kk) (Cs':=List.replicate bs.length []) w0 hk0 (λc hc=>by rw[Yh] at hc;cases hc) (by rw[Yh];exact List.nodup_nil)
  rw[YK] at m3
  refine⟨p,xs,j,kk,y,rfl,by rw[show z= .int j from ho],s1 _ _ hH,h1.1,h1.2,by rw[Paired.len pr];exact h2,hy,?_⟩
  have cV:Paired (r K (hid H' OO)) (xs.eraseIdx kk) bs:=by rw[show bs=as.eraseIdx kk from h4];exact Paired.erase' kk pr
  exact hr a bs y _ _ w3 ⟨⟨S.mono _ _ m3 s',MonoE.mono m3 ry⟩,⟨p,_,_,rfl,(P3.of (Paired.imp2 (λ_ _ z=>MonoE.mono m3 z) cV)).imp λ_ _ _ z=>z,rfl⟩⟩ (PZ.tr (fd.tr D) m3 P')
def WE [MonoE r]{f:M×List M->Rs L}(x i k:Nat)(hσ:U[i]?=some (some v))(hk:OO[k]?=some C)(h:∀x,S.p x->oL (oF r) K x v as C)(hi:EvB K Er S OO U ti Xf mi)
  (hr:∀a bs y C',Sv Er ((S.add K r y a).addO K (oL (oF r)) v bs C') (OO.set k C') (U.set x (some y)) u Fd (f (a,bs))):Sv Er S OO U (Zd (BG (tBM K "list" Ej (Q0 i) (Xm ti Yo)) (YI x)) u) Fd (mi.bind λj=>(NG as j).bind f):=λH D w s P=>
 S5 (te:=ti) i k hσ hk h hi w s P λa bs y C' H' w' s' P'=>hr a bs y C' H' D w' s' P'
def EO {q:Enc B}[z:MonoE r][MonoE q]{ma:Rs M}{mb:Rs B}{f:M->B->Rs L}(i j:Nat)(ha:EvS K Er S OO U ta r ma)(hb:EvS K Er S OO U tb q mb)
  (hr:∀a b v w,Sv Er ((S.add K r v a).add K q w b) OO ((U.set i (some v)).set j (some w)) u Fd (f a b)):Sv Er S OO U (Zd (A3 i j (Xm ta (Xm tb Yo))) u) Fd (ma.bind λa=>mb.bind λb=>f a b):=λH D w s P=>
 ha.st w s P λa x H1 s1 w1 q1 r1 P1=>hb.st w1 q1 P1 λb y H2 s2 w2 q2 r2 P2=>⟨x,y,rfl,hr a b x y H2 D w2 ⟨⟨q2,z.mono (Xh s2) r1⟩,r2⟩ P2⟩
def MS {q:Enc B}[MonoE r][MonoE q]{m:Rs (M×B)}{f:M×B->Rs L}(i j:Nat)(he:EvS K Er S OO U te (rP2 r q) m)
  (hr:∀a v w,Sv Er ((S.add K r v a.1).add K q w a.2) OO ((U.set i (some v)).set j (some w)) u Fd (f a)):Sv Er S OO U (Zd (BG te (Oq K 2 (Z0 (YI i) (Z0 (YI j) ON)))) u) Fd (m.bind f):=λH D w s P=>
 he.st w s P λa v H1 s1 w1 q1 r9 P1=>by obtain⟨p,x,y,e,h,h1,h2⟩:=r9;exact⟨p,_,e,SqT.of (Xn _ _ h),rfl,x,[y],rfl,y,[],rfl,rfl,hr a x y H1 D w1 ⟨⟨q1,h1⟩,h2⟩ P1⟩
def TL {m:Rs Int}{f:Int->Rs L}{a:Int}(i:Nat)(hσ:U[i]?=some (some v))(h:∀x,S.p x->Xf K x v a)(he:EvB K Er S OO U te Xf m)
  (hr:∀b v,Sv Er (S.add K Xf v b) OO (U.set i (some v)) u Fd (f b)):Sv Er S OO U (Zd (W3 i te (ipI g)) u) Fd (m.bind λb=>f (g a b)):=λH D w s P=>
 ⟨v,hσ,he.st w s P λb y H1 s1 w1 q1 r1 P1=>⟨a,b,h _ s,r1,hr _ _ H1 D w1 ⟨q1,rfl⟩ P1⟩⟩
def I0 {ma:Rs Int}(ha:EvB K Er S OO U ta Xf ma)(hb:EvB K Er S OO U tb Xf mb):EvB K Er S OO U (tCB (λxs H Q=>∃ i j:Int,xs=[.int i, .int j]/\Q (.int (if j > i then j else i)) H) (Xm ta (Xm tb Yo))) Xf (ma.bind λa=>mb.bind λb=>.ok (max a b)):=λH Q w s P=>
 ha.run w s FB.tr P λa x H1 s1 w1 q1 r1 P1=>hb.run w1 q1 FB.tr P1 λb y H2 s2 w2 q2 r2 P2=>⟨a,b,by rw[show x= .int a from r1,show y= .int b from r2],P2 _ H2 (Xp.refl _) (by show V.int _=V.int _;congr 1;omega)⟩
def Be {ma:Rs Int}(ha:EvB K Er S OO U ta Xf ma)(hb:EvB K Er S OO U tb Xf mb):EvB K Er S OO U (tCB (λxs H Q=>∃ i j:Int,xs=[.int i, .int j]/\Q (.int (if j<i then j else i)) H) (Xm ta (Xm tb Yo))) Xf (ma.bind λa=>mb.bind λb=>.ok (min a b)):=λH Q w s P=>
 ha.run w s FB.tr P λa x H1 s1 w1 q1 r1 P1=>hb.run w1 q1 FB.tr P1 λb y H2 s2 w2 q2 r2 P2=>⟨a,b,by rw[show x= .int a from r1,show y= .int b from r2],P2 _ H2 (Xp.refl _) (by show V.int _=V.int _;congr 1;omega)⟩
def RZ {ma:Rs (List Int)}(ha:EvB K Er S OO U ta (rV Xf) ma):EvB K Er S OO U (tCB (AY K) (Xm ta Yo)) Xf (ma.bind λa=>.ok a.sum):=λH Q w s P=>
 ha.run w s FB.tr P λa x H1 s1 w1 q1 r9 P1=>by obtain⟨p,xs,e,q,pr⟩:=r9;exact⟨p,a,by rw[e],by rw[←Qz pr];exact SqL.of q,P1 _ H1 (Xp.refl _) rfl⟩
def Ui:∀{xs:List V}{bs:List Bool}{H:Hp},Paired (XO K H) xs bs->xs=bs.map V.bl
 |_,_,_, .nil=>rfl
 |_,_,_, .cons r t=>by rw[show _=V.bl _ from r,Ui t];rfl
def RU {ma:Rs (List Bool)}(ha:EvB K Er S OO U ta (rV XO) ma):EvB K Er S OO U (tCB (qd K) (Xm ta Yo)) XO (ma.bind λa=>.ok (a.all id)):=λH Q w s P=>
 ha.run w s FB.tr P λa x H1 s1 w1 q1 r9 P1=>by obtain⟨p,xs,e,q,pr⟩:=r9;exact⟨p,a,by rw[e],by rw[←Ui pr];exact SqL.of q,P1 _ H1 (Xp.refl _) rfl⟩
class TyE {M:Type}(r:Enc M)(n:outParam String):Prop where
 ty:∀{K:W.Frag}{H:Hp}{v:V}{a:M},r K H v a->TyOf K H v (.type n)
instance:TyE Xf "int":=⟨fun {K H v a} h=>by cases(show v= .int a from h);exact .int a⟩
instance:TyE XO "bool":=⟨fun {K H v a} h=>by cases(show v= .bl a from h);exact .bl a⟩
instance:TyE B8 "str":=⟨fun {K H v a} h=>by cases(show v= .str a from h);exact .str a⟩
instance {r:Enc M}:TyE (rV r) "list":=⟨λr9=>by obtain⟨p,xs,e,q,_⟩:=r9;exact by subst e;exact .lst q⟩
instance {r:Enc M}:TyE (rPL r) "tuple":=⟨λr9=>by obtain⟨p,xs,e,q,_⟩:=r9;exact by subst e;exact .tup q⟩
instance {r:Enc M}{q:Enc B}:TyE (rP2 r q) "tuple":=⟨λr9=>by obtain⟨p,x,y,e,q,_⟩:=r9;exact by subst e;exact .tup q⟩
instance {r:Enc M}{q:Enc B}{t:Enc δ}:TyE (rP3 r q t) "tuple":=⟨λr9=>by obtain⟨p,x,y,z,e,q,_⟩:=r9;exact by subst e;exact .tup q⟩
def VQ {n:String}[z:TyE r n]{m:Rs M}(t:String)(b:Bool)(hk:W.kitOne K (.type n) (.type t)=some b)(he:EvB K Er S OO U te r m):
  EvB K Er S OO U (tCB (λxs H Q=>∃ x n t b,xs=[x, .ty n]/\TyOf K H x t/\W.kitOne K t (.type n)=some b/\Q (.bl b) H) (Xm te (Xm (tC (.ty t)) Yo))) XO (m.bind λ_=>.ok b):=λH Q w s P=>
 he.run w s FB.tr P λa x H1 s1 w1 q1 r1 P1=>⟨x,t, .type n,b,rfl,z.ty r1,hk,P1 _ H1 (Xp.refl _) rfl⟩
def Pr {ma:Rs Int}(ha:EvB K Er S OO U ta Xf ma):EvB K Er S OO U (tCB (λxs H Q=>∃ i:Int,xs=[.int i]/\Q (.int (if i<0 then-i else i)) H) (Xm ta Yo)) Xf (ma.bind λa=>.ok (a.natAbs:Int)):=λH Q w s P=>
 ha.run w s FB.tr P λa x H1 s1 w1 q1 r1 P1=>⟨a,by rw[show x= .int a from r1],P1 _ H1 (Xp.refl _) (by show V.int _=V.int _;congr 1;omega)⟩
end
section
variable [fd:FdOk Fd]{u:TS}
def Ts (n:Nat)(H:Hp):W (List.replicate n []) H:=⟨λc hc=>(by rw[Yh] at hc;cases hc),(by unfold fl;rw[Yh];exact List.nodup_nil),λc hc=>(by rw[Yh] at hc;cases hc)⟩
def NV (n:Nat)(H:Hp):hid H (List.replicate n [])=H:=by funext b;unfold hid fl;rw[Yh];simp
def O1 {o:OE ρ}[z:MonoO o]{Q:VK}{b:ρ}(q:FF K o Q b H):∀v C OO' H',W (C::OO') H'->Xp H (hid H' (C::OO'))->o K (hid H' (C::OO')) v b C->Q v H':=λv C OO' H' w m ho=>by
 have hs:Xp (hid H' (C::OO')) (hid H' [C]):=Zv (Xp.refl _) λb hb=>by
  rw[XB]
  refine List.mem_append_left _ ?_
  simpa[fl] using hb
 exact q v C H' (w.sub (by simp)) (m.trans hs) (z.mono hs ho)
def Hn {o:OE ρ}[MonoO o]{m:Rs ρ}{Q:VK}{b:ρ}(n:Nat)(h:Sv (λ_ _=>False) S (List.replicate n []) U t (FTd K o) m)(hs:S.p H)(hm:m= .ok b)(q:FF K o Q b H)(hD:D.rt=Q):t D U H:=by
 refine h H D (Ts n H) (by rw[NV];exact hs) ?_
 subst hm
 rw[NV]
 intro v C OO' H' w mm ho
 rw[hD]
 exact O1 q v C OO' H' w mm ho
def oU:OE Unit:=λ_ _ v _ C=>v= .non/\C=[]
instance:MonoO oU:=⟨λ_ h=>h⟩
instance:FlatO oU:=⟨λ_ h=>h⟩
def rU0:Enc Unit:=λ_ _ v _=>v= .non
instance:FlatE rU0:=⟨λ_ h=>h⟩
instance:FrzC oU rU0:=⟨λh _ _=>h.1⟩
def R6 {m:Rs Unit}{Q:VK}{b:Unit}(n:Nat)(h:Sv (λ_ _=>False) S (List.replicate n []) U t (FNd J) m)(hs:S.p H)(hm:m= .ok b)(q:FF K oU Q b H)(hD:∀U H,D.nx U H=Q .non H):t D U H:=by
 refine h H D (Ts n H) (by rw[NV];exact hs) ?_
 subst hm
 rw[NV]
 intro x H' w mm ho
 rw[hD]
 have hs:Xp (hid H' (J.oo x)) (hid H' [[]]):=Zv (Xp.refl _) λb hb=>by simp[fl] at hb
 exact q .non [] H' ⟨λc hc=>by simp at hc,by simp[fl],λc hc=>by simp at hc⟩ (mm.trans hs) ⟨rfl,rfl⟩
def BH {m:Rs L}(k:Nat)(hr:Sv Er S (OO.set k []) U t Fd m):Sv Er S OO U t Fd m:=λH D w s P=>by
 cases hk:OO[k]? with
 |none=>
  rw[List.set_eq_of_length_le (List.getElem?_eq_none_iff.mp hk)] at hr
  exact hr H D w s P
 |some C=>
  have hp:=XN hk
  have w1:W (C::OO.set k []) H:=w.of hp
  have hs:Xp (hid H OO) (hid H (OO.set k [])):=by
   rw[←XF hp]
   exact Zv (Xp.refl _) λb hb=>by rw[XB];simp[hb]
  exact hr H D w1.tail (S.mono _ _ hs s) (PZ.tr (fd.tr D) hs P)
def UY {m:Rs M}{f:Rs L}(he:EvB K Er S OO U te r m)(hr:Sv Er S OO U u Fd f):Sv Er S OO U (Zd (JJ te) u) Fd (m.bind λ_=>f):=λH D w s P=>
 he.st w s P λa v H' s1 w' s' ho P'=>hr H' D w' s' P'
def FAO (K:W.Frag)(OO OO':List (List XD))(o:OE M)(Q:List V->Hp->Prop)(as:List M)(H:Hp):Prop:=∀ vs Cs H',Xp H H'->W (Cs.flatten::OO') H'->Xp (hid H OO) (hid H' (Cs.flatten::OO'))->P3 (o K (hid H' (Cs.flatten::OO'))) vs as Cs->Q vs H'
def W0 (K:W.Frag)(Er:Exc->Hp->Prop)(S:SC)(OO OO':List (List XD))(U:St)(t:TA)(o:OE M)(m:Rs (List M)):Prop:=∀ H Q,W OO H->S.p (hid H OO)->PZ Er (FAO K OO OO' o Q) H m->t U H Q
def Qf:W0 K Er S OO OO U Yo o (.ok []):=λH Q w s P=>P [] [] H (Xp.refl _) w.nil (by show Xp _ (hid H ([]::OO));rw[YK];exact Xp.refl _) .nil
def Yw [z:MonoO o]{m:Rs M}{n:Rs (List M)}(he:Ev K Er S OO OO1 U te o m)(ht:∀C,W0 K Er S (C::OO1) (C::bp) U t o n):W0 K Er S OO bp U (Xm te t) o (m.bind λa=>n.bind λas=>.ok (a::as)):=λH Q w s P=>by
 refine he H _ w s ?_
 cases em:m with
 |bad=>rw[em] at P;exact P
 |err x=>rw[em] at P;exact P
 |ok a=>
  rw[em] at P
  intro v C H1 s1 w1 m1 ho
  refine ht C H1 _ w1 (S.mono _ _ m1 s) ?_
  have P1:PZ Er (FAO K OO bp o Q) H (n.bind λas=>.ok (a::as)):=P
  cases en:n with
  |bad=>rw[en] at P1;exact P1
  |err x=>rw[en] at P1;exact λH2 s2=>P1 H2 (s1.trans s2)
  |ok as=>
   rw[en] at P1
   have P1:FAO K OO bp o Q (a::as) H:=P1
   intro vs Cs H2 s2 w2 m2 pr
   have pe:((C::Cs).flatten::bp).flatten.Perm (Cs.flatten::C::bp).flatten:=by
    simp only[List.flatten_cons]
    rw[←List.append_assoc]
    exact List.perm_append_comm.append_right _
   refine P1 (v::vs) (C::Cs) H2 (s1.trans s2) (w2.of pe) ?_ ?_
   ·rw[XF pe];exact m1.trans m2
   ·rw[XF pe];exact .cons (z.mono m2 ho) pr
def Ji [z:MonoO o](h:W0 K Er S OO OO U t o m):Ev K Er S OO OO U (Hd t) (oL o) (m.bind λas=>chk (as.length<=sizeLine) (.ok as)):=λH Q w s P=>by
 refine h H _ w s ?_
 cases e:m with
 |bad=>rw[e] at P;exact P
 |err x=>rw[e] at P;exact P
 |ok as=>
  rw[e] at P
  obtain⟨hsz,P⟩:=PZ.chk (show PZ Er _ H (chk (as.length<=sizeLine) (.ok as)) from P)
  intro vs Cs H1 s1 w1 m1 p
  exact⟨by rw[p.len.1];exact hsz,PJ w1 m1 s1 p P⟩
class InE {M:Type}[DecidableEq M](r:Enc M):Prop where
 fl:∀{K:W.Frag}{H:Hp}{x:V}{a:M},r K H x a->VD x=true
 eq:∀{K:W.Frag}{H H':Hp}{x y:V}{a b:M},r K H x a->r K H' y b->eqV x y=decide (a=b)
instance:InE Xf:=⟨fun {K H x a} h=>by cases(show x= .int a from h);rfl,fun {K H H' x y a b} h h'=>by
 cases(show x= .int a from h);cases(show y= .int b from h');show(a==b)=_;rw[M0]⟩
instance:InE B8:=⟨fun {K H x a} h=>by cases(show x= .str a from h);rfl,fun {K H H' x y a b} h h'=>by
 cases(show x= .str a from h);cases(show y= .str b from h');show(a==b)=_
 rw[Bool.eq_iff_iff];simp⟩
def ZK [DecidableEq M][z:InE r]{x:V}{a:M}(hx:r K H x a):∀{xs:List V}{as:List M},Paired (r K H') xs as->xs.all VD=true/\inV x xs=decide (a∈as)
 |_,_, .nil=>⟨rfl,by simp[inV]⟩
 |_,_, .cons h t=>by
  obtain⟨h1,h2⟩:=ZK hx t
  refine⟨by rw[List.all_cons,h1,z.fl h];rfl,?_⟩
  unfold inV at h2⊢
  rw[List.any_cons,h2,z.eq h hx,Bool.eq_iff_iff,Bool.or_eq_true,decide_eq_true_eq,decide_eq_true_eq,decide_eq_true_eq,List.mem_cons]
  exact or_congr ⟨Eq.symm,Eq.symm⟩ Iff.rfl
def OI [DecidableEq M][z:InE r]{ma:Rs M}{mb:Rs (List M)}(ha:EvB K Er S OO U ta r ma)(hb:EvB K Er S OO U tb (rV r) mb):EvB K Er S OO U (tOp (rIn K false) ta tb) XO (ma.bind λa=>mb.bind λas=>.ok (decide (a∈as))):=λH Q w s P=>
 ha.run w s FB.tr P λa x H1 s1 w1 q1 r1 P1=>hb.run w1 q1 FB.tr P1 λb y H2 s2 w2 q2 ⟨p,xs,e,q,pr⟩ P2=>by
  obtain⟨h1,h2⟩:=ZK r1 pr
  exact⟨p,xs,e, .inl (SqL.of q),z.fl r1,h1,P2 _ H2 (Xp.refl _) (by rw[h2];rfl)⟩
def Sz [DecidableEq M][z:InE r]{ma:Rs M}{mb:Rs (List M)}(ha:EvB K Er S OO U ta r ma)(hb:EvB K Er S OO U tb (rV r) mb):EvB K Er S OO U (tOp (rIn K true) ta tb) XO (ma.bind λa=>mb.bind λas=>.ok (!decide (a∈as))):=λH Q w s P=>
 ha.run w s FB.tr P λa x H1 s1 w1 q1 r1 P1=>hb.run w1 q1 FB.tr P1 λb y H2 s2 w2 q2 ⟨p,xs,e,q,pr⟩ P2=>by
  obtain⟨h1,h2⟩:=ZK r1 pr
  exact⟨p,xs,e, .inl (SqL.of q),z.fl r1,h1,P2 _ H2 (Xp.refl _) (by rw[h2];rfl)⟩
def RS [DecidableEq M][z:InE r]{ma:Rs M}{mb:Rs (List M)}(ha:EvB K Er S OO U ta r ma)(hb:EvB K Er S OO U tb (rPL r) mb):EvB K Er S OO U (tOp (rIn K false) ta tb) XO (ma.bind λa=>mb.bind λas=>.ok (decide (a∈as))):=λH Q w s P=>
 ha.run w s FB.tr P λa x H1 s1 w1 q1 r1 P1=>hb.run w1 q1 FB.tr P1 λb y H2 s2 w2 q2 ⟨p,xs,e,q,pr⟩ P2=>by
  obtain⟨h1,h2⟩:=ZK r1 pr
  exact⟨p,xs,e, .inr (SqT.of q),z.fl r1,h1,P2 _ H2 (Xp.refl _) (by rw[h2];rfl)⟩
def Oa [DecidableEq M][z:InE r]{ma:Rs M}{mb:Rs (List M)}(ha:EvB K Er S OO U ta r ma)(hb:EvB K Er S OO U tb (rPL r) mb):EvB K Er S OO U (tOp (rIn K true) ta tb) XO (ma.bind λa=>mb.bind λas=>.ok (!decide (a∈as))):=λH Q w s P=>
 ha.run w s FB.tr P λa x H1 s1 w1 q1 r1 P1=>hb.run w1 q1 FB.tr P1 λb y H2 s2 w2 q2 ⟨p,xs,e,q,pr⟩ P2=>by
  obtain⟨h1,h2⟩:=ZK r1 pr
  exact⟨p,xs,e, .inr (SqT.of q),z.fl r1,h1,P2 _ H2 (Xp.refl _) (by rw[h2];rfl)⟩
def Ob [DecidableEq M](as:List M)(a:M):Rs Int:=match as.findIdx? (λb=>decide (b=a)) with
 |some j=>.ok (j:Int)
 |none=>.bad
def Gk [DecidableEq M][z:InE r]{x:V}{a:M}(hx:r K H x a)(p:Paired (r K H') xs as)(hj:as.findIdx? (λb=>decide (b=a))=some j):
  (∃y,xs[j]?=some y/\eqV y x=true)/\∀(m:Nat) y,m<j->xs[m]?=some y->eqV y x=false:=by
 rw[List.findIdx?_eq_some_iff_getElem] at hj
 obtain⟨h1,h2,h3⟩:=hj
 constructor
 ·obtain⟨y,hy,ry⟩:=Paired.getR p (i:=j) (b:=as[j]) (by simp[h1])
  exact⟨y,hy,by rw[z.eq ry hx];exact h2⟩
 ·intro m y hm hy
  obtain⟨b,hb,rb⟩:=Paired.getL p hy
  have hml:m<as.length:=by omega
  have e:b=as[m]:=by rw[List.getElem?_eq_getElem hml] at hb;exact(Option.some.inj hb).symm
  rw[z.eq rb hx,e]
  have:=h3 m hm
  simpa using this
def HI [DecidableEq M]{a:M}{x:Exc}:Ob as a≠ .err x:=by unfold Ob;split<;> exact λz=>nomatch z
def MA [DecidableEq M]{a:M}{n:Int}(h:Ob as a= .ok n):∃j:Nat,as.findIdx? (λb=>decide (b=a))=some j/\n=j:=by
 unfold Ob at h;split at h
 ·cases h;exact⟨_,by assumption,rfl⟩
 ·cases h
def ML [DecidableEq M][z:InE r][y:MonoE r]{mb:Rs M}(ha:EvB K Er S OO U ta (rV r) ma)(hb:EvB K Er S OO U tb r mb):EvB K Er S OO U (tBM K "list" (MC K) ta (Xm tb Yo)) Xf (ma.bind λas=>mb.bind λa=>Ob as a):=λH Q w s P=>
 ha.run w s FB.tr P λas x H1 s1 w1 q1 ⟨p,xs,e,q,pr⟩ P1=>⟨by rw[e];exact .inl ⟨rfl,_,SqL.of q⟩,hb.run w1 q1 FB.tr P1 λb v H2 s2 w2 q2 r2 P2=>by
  obtain⟨c,hc,P3⟩:=P2.okOf λx=>HI
  obtain⟨j,hj,rfl⟩:=MA hc
  have cV:=Paired.imp2 (G:=r K H2) (λ_ _ h=>y.mono s2 h) pr
  obtain⟨h1,h2⟩:=Gk r2 cV hj
  exact⟨p,xs,v,j,e,rfl,SqL.of (s2 _ _ q),z.fl r2,(ZK r2 cV).1,h1,h2,P3 _ H2 (Xp.refl _) rfl⟩⟩
def JW {tb:TE}{m:Rs (Option M)}(ha:EvB K Er S OO U ta (JI r) m):EvB K Er S OO U (tOp (λx y H Q=>y= .non/\Q (.bl (decide (x= .non))) H) ta (tC .non)) XO (m.bind λa=>.ok a.isNone):=λH Q w s P=>
 ha.run w s FB.tr P λa x H1 s1 w1 q1 r1 P1=>⟨rfl,P1 _ H1 (Xp.refl _) (by
  cases a with
  |none=>rw[show x= .non from r1];rfl
  |some a=>show V.bl _=V.bl _;rw[decide_eq_false r1.1];rfl)⟩
def Ex {tb:TE}{m:Rs (Option M)}(ha:EvB K Er S OO U ta (JI r) m):EvB K Er S OO U (tOp (λx y H Q=>y= .non/\Q (.bl (!decide (x= .non))) H) ta (tC .non)) XO (m.bind λa=>.ok a.isSome):=λH Q w s P=>
 ha.run w s FB.tr P λa x H1 s1 w1 q1 r1 P1=>⟨rfl,P1 _ H1 (Xp.refl _) (by
  cases a with
  |none=>rw[show x= .non from r1];rfl
  |some a=>show V.bl _=V.bl _;rw[decide_eq_false r1.1];rfl)⟩
def Ld {p q:Int->Int->Bool}{ma mc:Rs Int}(ha:EvB K Er S OO U ta Xf ma)(hb:EvB K Er S OO U tb Xf mb)(hc:EvB K Er S OO U tc Xf mc):
  EvB K Er S OO U (OY (rI0 λi j=>.bl (p i j)) (rI0 λi j=>.bl (q i j)) ta tb tc) XO (ma.bind λa=>mb.bind λb=>if p a b=true then mc.bind λc=>.ok (q b c) else .ok false):=λH Q w s P=>
 ha.run w s FB.tr P λa x H1 s1 w1 q1 r1 P1=>hb.run w1 q1 FB.tr P1 λb y H2 s2 w2 q2 r2 P2=>⟨a,b,r1,r2,p a b,rfl,by
  cases h:p a b with
  |false=>rw[h] at P2;exact P2 _ H2 (Xp.refl _) rfl
  |true=>
   rw[h,if_pos rfl] at P2
   rw[if_pos rfl]
   exact hc.run w2 q2 FB.tr P2 λc z H3 s3 w3 q3 r3 P3=>⟨b,c,r2,r3,P3 _ H3 (Xp.refl _) rfl⟩⟩
def L6 [DecidableEq M]{d:Nat}(E:EqOk r d)(h:∀{K:W.Frag}{H:Hp}{v:V}{a:M},r' K H v a->r K H v a)(m:MonoE r'):EqOk r' d where
 uniq:=λI h1 h2=>E.uniq I (h h1) (h h2)
 eq:=λI rx ry h1 h2 hu=>E.eq I rx ry (h h1) (h h2) hu
 rc:=λI rx ry h1 h2 hu=>E.rc I rx ry (h h1) (h h2) hu
 ne:=λI rx ry h1 h2 hu=>E.ne I rx ry (h h1) (h h2) hu
 keep:=λs q=>m.mono s q
def Ov [DecidableEq M]{d:Nat}[m:MonoE r](E:EqOk r d):EqOk (rV r) (d+1):=L6 (MK E) (λr9=>by obtain⟨a,xs,e,q,p⟩:=r9;exact⟨a,xs,e,SqL.of q,p⟩) inferInstance
def SY [DecidableEq M][DecidableEq L]{q:Enc L}{d:Nat}[m:MonoE r][n:MonoE q](E:EqOk r d)(F:EqOk q d):EqOk (rP2 r q) (d+1):=L6 (Sh E F) (λr9=>by obtain⟨a,x,y,e,q,p⟩:=r9;exact⟨a,x,y,e,SqT.of q,p⟩) inferInstance
end
section
variable [fd:FdOk Fd]{u:TS}
def UI {q:OE L}[z:MonoO o][y:MonoO q]{ma:Rs M}{mb:Rs L}(ha:Ev K Er S OO OO1 U ta o ma)(hb:∀C,Ev K Er S (C::OO1) (C::bp) U tb q mb):Ev K Er S OO bp U (Pa (Xm ta (Xm tb Yo))) (oT2 o q) (ma.bind λa=>mb.bind λb=>.ok (a,b)):=λH Q w s P=>by
 refine ha H _ w s ?_
 cases em:ma with
 |bad=>rw[em] at P;exact P
 |err x=>rw[em] at P;exact P
 |ok a=>
  rw[em] at P
  intro v C H1 s1 w1 m1 ho
  refine hb C H1 _ w1 (S.mono _ _ m1 s) ?_
  have P1:PZ Er (FO K OO bp (oT2 o q) Q) H (mb.bind λb=>.ok (a,b)):=P
  cases en:mb with
  |bad=>rw[en] at P1;exact P1
  |err x=>rw[en] at P1;exact λH2 s2=>P1 H2 (s1.trans s2)
  |ok b=>
   rw[en] at P1
   have P1:FO K OO bp (oT2 o q) Q (a,b) H:=P1
   intro v2 C2 H2 s2 w2 m2 eA
   refine⟨by show 2<=sizeLine;decide,λp hp=>?_⟩
   have pe:((C++C2)::bp).flatten.Perm (C2::C::bp).flatten:=by
    simp only[List.flatten_cons]
    rw[←List.append_assoc]
    exact List.perm_append_comm.append_right _
   have s3:Xp H2 (upd H2 p (.tup [v,v2])):=Xv hp _
   have w3:=(w2.keep s3).of pe
   have m3:Xp (hid H2 (C2::C::bp)) (hid (upd H2 p (.tup [v,v2])) ((C++C2)::bp)):=by rw[XF pe];exact Xh s3
   refine P1 (.ref p) (C++C2) _ (s1.trans (s2.trans s3)) w3 (m1.trans (m2.trans m3)) ⟨p,v,v2,C,C2,rfl,?_,z.mono (m2.trans m3) ho,y.mono m3 eA,rfl⟩
   rw[XF pe]
   exact Z9 w2 hp
def O4 (hc:EvT Er S OO U c mc)(h2:Sv Er S OO U u Fd m2):Sv Er S OO U (Zd (Tc c t1 GC) u) Fd (mc.bind λb=>if b=true then .bad else m2):=λH D w s P=>
 hc.st w s P λb H' w' s' P'=>by
  cases b with
  |true=>rw[if_pos rfl] at P';exact P'.elim
  |false=>exact h2 H' D w' s' P'
def FZ:∀{l:List XD}{a b:XD},(l.map (·.1)).Nodup->a∈l->b∈l->a.1=b.1->a=b
 | [],_,_,_,h,_,_=>by cases h
 |c::l,a,b,n,ha,hb,e=>by
  rw[List.map_cons,List.nodup_cons] at n
  cases ha with
  |head=>cases hb with
   |head=>rfl
   |tail _ hb=>exact absurd (List.mem_map.mpr ⟨b,hb,e.symm⟩) n.1
  |tail _ ha=>cases hb with
   |head=>exact absurd (List.mem_map.mpr ⟨a,ha,e⟩) n.1
   |tail _ hb=>exact FZ n.2 ha hb e
def Uw (h:Cs[k]?=some C):∀c∈C,c∈Cs.flatten:=λc hc=>List.mem_flatten.mpr ⟨C,List.mem_of_getElem? h,hc⟩
def Ea {a:M}(h:atR as i= .ok a):∃k,ixN as.length i=some k/\as[k]?=some a:=by
 have:=FR h
 unfold atI at this
 cases e:ixN as.length i with
 |none=>rw[e] at this;cases this
 |some k=>rw[e] at this;exact⟨k,rfl,this⟩
def Bb [z:MonoE r]{v:V}{as:List (List M)}(w:W OO H)(hk:OO[k]?=some ((p, .lst xs)::Cs.flatten))(hP:P3 (oL (oF r) K (hid H OO)) xs as Cs)(aU:as[kk]?=some row)
  (hx:xs[kk]?=some (.ref q))(hq:H q=some (.lst ys))(fq:Cs[kk]?=some [(q, .lst ys)])(pr:Paired (r K (hid H OO)) ys' row'):
  ∃C',W (OO.set k C') (upd H q (.lst ys'))/\Xp (hid H OO) (hid (upd H q (.lst ys')) (OO.set k C'))/\oL (oL (oF r)) K (hid (upd H q (.lst ys')) (OO.set k C')) (.ref p) (as.set kk row') C':=by
 have gT:kk<Cs.length:=by
  rcases Nat.lt_or_ge kk Cs.length with h |h
  ·exact h
  ·rw[List.getElem?_eq_none h] at fq;cases fq
 have bd:∀c∈(p,HO.lst xs)::Cs.flatten,c∈OO.flatten:=λc hc=>List.mem_flatten.mpr ⟨_,List.mem_of_getElem? hk,hc⟩
 have w0:W ([]::OO) H:=w.nil
 have cn0:=JZ w0 hk
 rw[List.append_nil] at cn0
 have e0:Cs[kk]=[(q, .lst ys)]:=by
  rw[List.getElem?_eq_getElem gT] at fq;exact Option.some.inj fq
 have hp:=JD (Cs:=Cs) (j:=kk) (D:=[(q,HO.lst ys')]) gT
 rw[e0] at hp
 have dU:((Cs.set kk [(q,HO.lst ys')]).flatten.map (·.1)).Perm (Cs.flatten.map (·.1)):=by
  have:=hp.map (·.1)
  simp only[List.map_append,List.map_cons,List.map_nil] at this
  exact(List.perm_append_right_iff _).mp this
 have jh:p∉Cs.flatten.map (·.1):=by
  have h1:=XN hk
  have:=(w.of (OO':=((p,HO.lst xs)::Cs.flatten)::OO.set k []) h1).nd
  rw[XB,List.map_cons,List.cons_append,List.nodup_cons] at this
  exact λz=>this.1 (List.mem_append_left _ z)
 have hqC:q∈Cs.flatten.map (·.1):=List.mem_map.mpr ⟨(q, .lst ys),Uw fq _ (by simp),rfl⟩
 have hpq:p≠q:=λe=>jh (e▸hqC)
 have fb:∀c∈(p,HO.lst xs)::(Cs.set kk [(q,HO.lst ys')]).flatten,upd H q (.lst ys') c.1=some c.2/\Td c.2=true:=λc hc=>by
  rcases List.mem_cons.mp hc with rfl |hc
  ·rw[XH hpq];exact⟨w.tr _ (bd _ List.mem_cons_self),rfl⟩
  ·obtain⟨D,hD,hcD⟩:=List.mem_flatten.mp hc
   rcases List.mem_or_eq_of_mem_set hD with hD |hD
   ·by_cases hcq:c.1=q
    ·-- a cell at q in another place:then it is this one
     have eP:c∈(Cs.set kk [(q,HO.lst ys')]).flatten:=hc
     have n1:((Cs.set kk [(q,HO.lst ys')]).flatten.map (·.1)).Nodup:=dU.nodup_iff.mpr cn0
     have hm:(q,HO.lst ys')∈(Cs.set kk [(q,HO.lst ys')]).flatten:=List.mem_flatten.mpr ⟨[(q, .lst ys')],List.mem_set (by simpa using gT) _,by simp⟩
     have e1:c=(q,HO.lst ys'):=by
      have:=FZ n1 eP hm hcq
      exact this
     rw[e1];exact⟨X9,rfl⟩
    ·rw[XH hcq]
     have:c∈OO.flatten:=bd c (List.mem_cons_of_mem _ (List.mem_flatten.mpr ⟨D,hD,hcD⟩))
     exact⟨w.tr c this,w.mu c this⟩
   ·rw[hD] at hcD
    have e1:c=(q,HO.lst ys'):=by simpa using hcD
    rw[e1];exact⟨X9,rfl⟩
 have gm:q∈(Cs.set kk [(q,HO.lst ys')]).flatten.map (·.1):=dU.mem_iff.mpr hqC
 obtain⟨w2,m2⟩:=MB (C':=(p, .lst xs)::(Cs.set kk [(q,HO.lst ys')]).flatten) (p:=q) (o:=.lst ys') w0 hk (List.mem_cons_of_mem _ hqC) (List.mem_cons_of_mem _ gm) (by
   rw[List.map_cons,List.nodup_cons]
   exact⟨λz=>jh (dU.mem_iff.mp z),dU.nodup_iff.mpr cn0⟩) (λb hb=>by
   rw[List.append_nil]
   rcases List.mem_cons.mp hb with rfl |hb
   ·exact List.mem_cons_self
   ·exact List.mem_cons_of_mem _ (dU.mem_iff.mp hb)) (λc hc=>(fb c hc).1) λc hc=>(fb c hc).2
 rw[YK] at m2
 have e3:xs.set kk (.ref q)=xs:=by
  apply List.ext_getElem?
  intro n
  by_cases hn:n=kk
  ·subst hn
   rw[hx,List.getElem?_set_self (by
    rcases Nat.lt_or_ge n xs.length with h |h
    ·exact h
    ·rw[List.getElem?_eq_none h] at hx;cases hx)]
  ·rw[List.getElem?_set_ne (λe=>hn e.symm)]
 refine⟨_,w2,m2,⟨p,xs,Cs.set kk [(q,HO.lst ys')],rfl,?_,rfl⟩⟩
 have:=P3.set (F:=oL (oF r) K (hid (upd H q (.lst ys')) (OO.set k ((p, .lst xs)::(Cs.set kk [(q,HO.lst ys')]).flatten)))) (a:=V.ref q) (b:=row') (c:=[(q,HO.lst ys')])
  ⟨q,ys',List.replicate row'.length [],rfl,(P3.of (Paired.imp2 (λ_ _ h=>z.mono m2 h) pr)).imp λ_ _ _ h=>h,by rw[Yh]⟩ kk (P3.imp (λ_ _ _ h=>MonoO.mono m2 h) hP)
 rw[e3] at this
 exact this
def Ct {h:Hp}{as:List (List M)}{kk:Nat}{row:List M}(q:P3 (oL (oF r) K h) xs as Cs)(aU:as[kk]?=some row):∃q0 ys,xs[kk]?=some (.ref q0)/\Cs[kk]?=some [(q0, .lst ys)]/\Paired (r K h) ys row:=by
 obtain⟨x,c,h1,h2,p,ys,Ds,e,h3,h4⟩:=q.get aU
 obtain⟨h5,h6⟩:=P3.flat h3
 rw[h6] at h4
 exact⟨p,ys,by rw[h1,e],by rw[h2,h4],h5⟩
def Ge {F:V->M->Prop}{y:V}{a:M}(r:F y a):∀{l:List V}{m:List M} (i:Nat),Paired F l m->Paired F (l.set i y) (m.set i a)
 |_,_,_, .nil=>.nil
 |_,_,0, .cons _ t=>.cons r t
 |_,_,i+1, .cons q t=>.cons q (Ge r i t)
def Dq {ti tj:TE}[z:MonoE r]{m:Rs M}{mj:Rs Int}{f:List (List M)->Rs L}{v:V}{as:List (List M)}(i k:Nat)(hσ:U[i]?=some (some v))(hk:OO[k]?=some C)(h:∀x,S.p x->oL (oL (oF r)) K x v as C)(he:EvS K Er S OO U ta r m)
  (hi:EvB K Er S OO U ti Xf mi)(hj:EvB K Er S OO U tj Xf mj)
  (hr:∀bs C',Sv Er (S.addO K (oL (oL (oF r))) v bs C') (OO.set k C') U u Fd (f bs)):
  Sv Er S OO U (Zd (BG ta (W8 (tOp (BC K) (Q0 i) ti) tj Nk)) u) Fd (m.bind λa=>mi.bind λx=>(atR as x).bind λrow=>mj.bind λy=>(JK row y a).bind λrow'=>(JK as x row').bind f):=λH D w s P=>
 he.st w s P λa va H1 s1 w1 q1 r1 P1=>⟨v,hσ,hi.st w1 q1 P1 λx vx H2 s2 w2 q2 r2 P2=>by
  cases ea:atR as x with
  |bad=>rw[ea] at P2;exact P2.elim
  |err ex=>exact absurd ea V8
  |ok row=>
   rw[ea] at P2
   obtain⟨kk,eC,aU⟩:=Ea ea
   obtain⟨p,xs,Cs,e,q,c⟩:=h _ q2
   subst c e
   obtain⟨q0,ys,g1,g2,g3⟩:=Ct q aU
   have bd:∀c∈(p,HO.lst xs)::Cs.flatten,c∈OO.flatten:=λc hc=>List.mem_flatten.mpr ⟨_,List.mem_of_getElem? hk,hc⟩
   have hH:H2 p=some (.lst xs):=w2.tr (p, .lst xs) (bd _ List.mem_cons_self)
   have fv:H2 q0=some (.lst ys):=w2.tr (q0, .lst ys) (bd _ (List.mem_cons_of_mem _ (Uw g2 _ (by simp))))
   refine⟨p,xs,x, .ref q0,rfl,r2,SqL.of hH,by unfold atI;rw[q.len.1,eC];exact g1,hj.st w2 q2 (f:=λy=>(JK row y a).bind λrow'=>(JK as x row').bind f) P2 λy vy H3 s3 w3 q3 r3 az=>?_⟩
   cases eb:JK row y a with
   |bad=>rw[eb] at az;exact az.elim
   |err ex=>exact absurd eb Mw
   |ok row'=>
    rw[eb] at az
    obtain⟨jj,hjj,rfl⟩:=Ix eb
    have P4:PZ Er (Fd D) (hid H3 OO) (f (as.set kk (row.set jj a))):=by
     have e5:JK as x (row.set jj a)= .ok (as.set kk (row.set jj a)):=by unfold JK;rw[eC]
     have:PZ Er (Fd D) (hid H3 OO) ((JK as x (row.set jj a)).bind f):=az
     rw[e5] at this
     exact this
    have m3:=Xh (OO:=OO) s3
    obtain⟨C',w4,m4,o4⟩:=Bb (ys':=ys.set jj va) (row':=row.set jj a) (v:=.ref p) w3 hk (P3.imp (λ_ _ _ h=>MonoO.mono m3 h) q) aU g1 (s3 _ _ fv) g2 (Ge (z.mono ((Xh s2).trans m3) r1) jj (Paired.imp2 (λ_ _ h=>z.mono m3 h) g3))
    exact⟨q0,ys,y,jj,rfl,r3,s3 _ _ fv,by rw[Paired.len g3];exact hjj,hr _ C' _ D w4 ⟨S.mono _ _ m4 q3,o4⟩ (PZ.tr (fd.tr D) m4 P4)⟩⟩
def NI {ti:TE}[z:MonoE r]{m:Rs M}{f:List (List M)->Rs L}{v:V}{as:List (List M)}(i k:Nat)(hσ:U[i]?=some (some v))(hk:OO[k]?=some C)(h:∀x,S.p x->oL (oL (oF r)) K x v as C)(he:EvS K Er S OO U ta r m)
  (hi:EvB K Er S OO U ti Xf mi)
  (hr:∀bs C',Sv Er (S.addO K (oL (oL (oF r))) v bs C') (OO.set k C') U u Fd (f bs)):
  Sv Er S OO U (Zd (JJ (tBM K "list" Qn (tOp (BC K) (Q0 i) ti) (Xm ta Yo))) u) Fd (mi.bind λx=>(atR as x).bind λrow=>m.bind λa=>chk (row.length<sizeLine) ((JK as x (row++[a])).bind f)):=λH D w s P=>
 ⟨v,hσ,hi.st w s P λx vx H2 s2 w2 q2 r2 P2=>by
  cases ea:atR as x with
  |bad=>rw[ea] at P2;exact P2.elim
  |err ex=>exact absurd ea V8
  |ok row=>
   rw[ea] at P2
   obtain⟨kk,eC,aU⟩:=Ea ea
   obtain⟨p,xs,Cs,e,q,c⟩:=h _ q2
   subst c e
   obtain⟨q0,ys,g1,g2,g3⟩:=Ct q aU
   have bd:∀c∈(p,HO.lst xs)::Cs.flatten,c∈OO.flatten:=λc hc=>List.mem_flatten.mpr ⟨_,List.mem_of_getElem? hk,hc⟩
   have hH:H2 p=some (.lst xs):=w2.tr (p, .lst xs) (bd _ List.mem_cons_self)
   have fv:H2 q0=some (.lst ys):=w2.tr (q0, .lst ys) (bd _ (List.mem_cons_of_mem _ (Uw g2 _ (by simp))))
   refine⟨p,xs,x, .ref q0,rfl,r2,SqL.of hH,by unfold atI;rw[q.len.1,eC];exact g1, .inl ⟨rfl,_,SqL.of fv⟩,he.st w2 q2 (f:=λa=>chk (row.length<sizeLine) ((JK as x (row++[a])).bind f)) P2 λa va H3 s3 w3 q3 r3 az=>?_⟩
   obtain⟨hsz,az⟩:=PZ.chk az
   have P4:PZ Er (Fd D) (hid H3 OO) (f (as.set kk (row++[a]))):=by
    have e5:JK as x (row++[a])= .ok (as.set kk (row++[a])):=by unfold JK;rw[eC]
    rw[e5] at az
    exact az
   have m3:=Xh (OO:=OO) s3
   obtain⟨C',w4,m4,o4⟩:=Bb (ys':=ys++[va]) (row':=row++[a]) (v:=.ref p) w3 hk (P3.imp (λ_ _ _ h=>MonoO.mono m3 h) q) aU g1 (s3 _ _ fv) g2 (Paired.app (Paired.imp2 (λ_ _ h=>z.mono m3 h) g3) (.cons r3 .nil))
   exact⟨q0,ys,va,rfl,rfl,s3 _ _ fv,by rw[Paired.len g3];exact hsz,hr _ C' _ D w4 ⟨S.mono _ _ m4 q3,o4⟩ (PZ.tr (fd.tr D) m4 P4)⟩⟩
def AD {D:List XD}(w:W OO H)(hk:OO[k]?=some C)(s:Xp H H')(w':W (D::OO.set k []) H')(m:Xp (hid H (OO.set k [])) (hid H' (D::OO.set k []))):
  W (D::OO) H'/\Xp (hid H OO) (hid H' (D::OO))/\V3 (hid H' (D::OO.set k [])) (hid H' (D::OO)):=by
 have hp:=XN hk
 have wk:W (C::OO.set k []) H:=w.of hp
 have hC:∀c∈C,hid H (OO.set k []) c.1=some c.2:=λc hc=>YA (wk.cell c hc) (by
  have:=wk.nd
  rw[XB] at this
  exact λhb=>(List.nodup_append.mp this).2.2 c.1 (List.mem_map.mpr ⟨c,hc,rfl⟩) c.1 hb rfl)
 have hC':∀c∈C,H' c.1=some c.2/\c.1∉fl (D::OO.set k []):=λc hc=>XM (m _ _ (hC c hc))
 have w2:W (C::D::OO.set k []) H':=by
  refine⟨λc hc=>?_,?_,λc hc=>?_⟩
  ·rw[List.flatten_cons,List.mem_append] at hc
   exact hc.elim (λhc=>(hC' c hc).1) λhc=>w'.tr c hc
  ·rw[XB]
   refine List.nodup_append.mpr ⟨?_,w'.nd,λa ha b hb e=>?_⟩
   ·have:=wk.nd
    rw[XB] at this
    exact(List.nodup_append.mp this).1
   ·obtain⟨c,hc,rfl⟩:=List.mem_map.mp ha
    subst e
    exact(hC' c hc).2 hb
  ·rw[List.flatten_cons,List.mem_append] at hc
   exact hc.elim (λhc=>wk.mu c (by simp[hc])) λhc=>w'.mu c hc
 have pe:(D::OO).flatten.Perm (C::D::OO.set k []).flatten:=by
  simp only[List.flatten_cons]
  refine List.Perm.trans (List.Perm.append_left D (by simpa using hp.symm:OO.flatten.Perm (C++(OO.set k []).flatten))) ?_
  rw[←List.append_assoc, ←List.append_assoc]
  exact List.perm_append_comm.append_right _
 have w3:=w2.of pe
 refine⟨w3,λb u q=>?_,λb u q i=>w3.i b u (XM q).1 i⟩
 obtain⟨q1,q2⟩:=XM q
 have q3:hid H (OO.set k []) b=some u:=YA q1 λz=>q2 ((V0 hp b).mp (by rw[XB];simp[z]))
 obtain⟨q4,q5⟩:=XM (m _ _ q3)
 refine YA q4 λz=>?_
 have z2:=(V0 pe b).mp z
 rw[XB,List.mem_append] at z2
 rcases z2 with z2 |z2
 ·exact q2 ((V0 hp b).mp (by rw[XB];exact List.mem_append_left _ z2))
 ·exact q5 z2
def Aa {r1:Enc B}[z:FrzC o1 r1][MonoE r1]{a:B}(w:W OO H)(hk:OO[k]?=some C)(s:S.p (hid H OO))(h:∀x,S.p x->o1 K x v a C):
  W (OO.set k []) H/\(S.add K r1 v a).p (hid H (OO.set k [])):=by
 have hp:=XN hk
 have wk:W (C::OO.set k []) H:=w.of hp
 have hs:Xp (hid H OO) (hid H (OO.set k [])):=by
  rw[←XF hp]
  exact Zv (Xp.refl _) λb hb=>by rw[XB];simp[hb]
 refine⟨wk.tail,S.mono _ _ hs s,z.frz (h _ s) hs λc hc=>YA (wk.cell c hc) ?_⟩
 have:=wk.nd
 rw[XB] at this
 exact λhb=>(List.nodup_append.mp this).2.2 c.1 (List.mem_map.mpr ⟨c,hc,rfl⟩) c.1 hb rfl
def Im [y:FlatO o]{r1:Enc B}[FrzC o1 r1][MonoE r1]{m:Rs M}{a:B}(k:Nat)(hk:OO[k]?=some C)(h:∀x,S.p x->o1 K x v a C)(he:Ev K Er (S.add K r1 v a) (OO.set k []) (OO.set k []) U te o m):Ev K Er S OO OO U te o m:=λH Q w s P=>by
 obtain⟨w1,s1⟩:=Aa (r1:=r1) w hk s h
 refine he H Q w1 s1 (P.imp λb _ hb v' D H' s' w' m' ho=>?_)
 obtain⟨w3,m3,i3⟩:=AD w hk s' w' m'
 exact hb v' D H' s' w3 m3 (y.flat i3 ho)
def Eb (K:W.Frag)(T:String):W.kitOne K (.type T) (.type T)=some true:=by
 unfold W.kitOne
 rw[if_pos (beq_self_eq_true _)]
def DN (K:W.Frag):W.kitOne K (.type "int") (.type "bool")=some false:=by
 first
  |rfl
  |decide+kernel
  | (unfold W.kitOne PySem.W.kitCls;rfl)
end
section
variable [fd:FdOk Fd]{u:TS}
def Ta:Option M->Rs M
 |some a=>.ok a
 |none=>.bad
def HR {m:Rs (Option M)}(he:EvB K Er S OO U te (JI r) m):EvB K Er S OO U te r (m.bind Ta):=λH Q w s P=>by
 refine he H Q w s ?_
 cases m with
 |bad=>exact P
 |err x=>exact P
 |ok a=>
  cases a with
  |none=>exact P.elim
  |some a=>exact λv H' s' hr=>P v H' s' hr.2
def IX {m:Rs (Option M)}(he:EvS K Er S OO U te (JI r) m):EvS K Er S OO U te r (m.bind Ta):=λH Q w s P=>by
 refine he H Q w s ?_
 cases m with
 |bad=>exact P
 |err x=>exact P
 |ok a=>
  cases a with
  |none=>exact P.elim
  |some a=>exact λv H' s' hr=>P v H' s' hr.2
def Tw {q:Enc B}{a:M×B}(q:oF (rP2 r q) K h v a C):v≠ .non:=by
 obtain⟨_,p,x,y,e,_⟩:=q
 rw[e];exact λz=>nomatch z
def T5 {q:Enc B}{a:M×B×δ}(q:oF (rP3 r q t) K h v a C):v≠ .non:=by
 obtain⟨_,p,x,y,z,e,_⟩:=q
 rw[e];exact λz=>nomatch z
end
section
--
def rP4 (r1:Enc α1)(r2:Enc α2)(r3:Enc α3)(r4:Enc α4):Enc (α1×α2×α3×α4):=λK H v p=>∃ a x1 x2 x3 x4,v= .ref a/\H a=some (.tup [x1,x2,x3,x4])/\r1 K H x1 p.1/\r2 K H x2 p.2.1/\r3 K H x3 p.2.2.1/\r4 K H x4 p.2.2.2
instance {r1:Enc α1}{r2:Enc α2}{r3:Enc α3}{r4:Enc α4}[m1:MonoE r1][m2:MonoE r2][m3:MonoE r3][m4:MonoE r4]:MonoE (rP4 r1 r2 r3 r4):=⟨λs r9=>by obtain⟨a,x1,x2,x3,x4,e,h,p1,p2,p3,p4⟩:=r9;exact⟨a,x1,x2,x3,x4,e,s _ _ h,m1.mono s p1,m2.mono s p2,m3.mono s p3,m4.mono s p4⟩⟩
instance {r1:Enc α1}{r2:Enc α2}{r3:Enc α3}{r4:Enc α4}[m1:FlatE r1][m2:FlatE r2][m3:FlatE r3][m4:FlatE r4]:FlatE (rP4 r1 r2 r3 r4):=⟨λs r9=>by obtain⟨a,x1,x2,x3,x4,e,h,p1,p2,p3,p4⟩:=r9;exact⟨a,x1,x2,x3,x4,e,s _ _ h rfl,m1.flat s p1,m2.flat s p2,m3.flat s p3,m4.flat s p4⟩⟩
instance {r1:Enc α1}{r2:Enc α2}{r3:Enc α3}{r4:Enc α4}:TyE (rP4 r1 r2 r3 r4) "tuple":=⟨λr9=>by obtain⟨p,x1,x2,x3,x4,e,q,_⟩:=r9;exact by subst e;exact .tup q⟩
def Va {m:Rs (α1×α2×α3×α4)}(ha:EvB K Er S OO U ta (rP4 r1 r2 r3 r4) m):EvB K Er S OO U (tOp (Uy K) ta (tC (.int 2))) r3 (m.bind λp=>.ok p.2.2.1):=λH Q w s P=>
 ha.run w s FB.tr P λa x H1 s1 w1 q1 r9 P1=>by obtain⟨p,x1,x2,x3,x4,e,q,h1,h2,h3,h4⟩:=r9;exact⟨p,_,2,x3,e,rfl,SqT.of q,rfl,P1 _ H1 (Xp.refl _) h3⟩
def GP {m:Rs (α1×α2×α3×α4)}(ha:EvB K Er S OO U ta (rP4 r1 r2 r3 r4) m):EvB K Er S OO U (tOp (Uy K) ta (tC (.int 3))) r4 (m.bind λp=>.ok p.2.2.2):=λH Q w s P=>
 ha.run w s FB.tr P λa x H1 s1 w1 q1 r9 P1=>by obtain⟨p,x1,x2,x3,x4,e,q,h1,h2,h3,h4⟩:=r9;exact⟨p,_,3,x4,e,rfl,SqT.of q,rfl,P1 _ H1 (Xp.refl _) h4⟩
def Fg [z1:MonoE r1][z2:MonoE r2][z3:MonoE r3][z4:MonoE r4](h1:EvS K Er S OO U t1 r1 m1)(h2:EvS K Er S OO U t2 r2 m2)(h3:EvS K Er S OO U t3 r3 m3)(h4:EvS K Er S OO U t4 r4 m4):EvS K Er S OO U (Pa (Xm t1 (Xm t2 (Xm t3 (Xm t4 Yo))))) (rP4 r1 r2 r3 r4) (m1.bind λa1=>m2.bind λa2=>m3.bind λa3=>m4.bind λa4=>.ok (a1,a2,a3,a4)):=λH Q w s P=>
 h1.run w s FS.tr P λa1 y1 H1 s1 w1 u1 q1 P1=>h2.run w1 u1 FS.tr P1 λa2 y2 H2 s2 w2 u2 q2 P2=>h3.run w2 u2 FS.tr P2 λa3 y3 H3 s3 w3 u3 q3 P3=>h4.run w3 u3 FS.tr P3 λa4 y4 H4 s4 w4 u4 q4 P4=>⟨by show 4<=sizeLine;decide,λp hp=>P4 _ _ (Xv hp _) ⟨p,y1,y2,y3,y4,rfl,Z9 w4 hp,z1.mono ((Xh s2).trans ((Xh s3).trans ((Xh s4).trans (Xh (Xv hp _))))) q1,z2.mono ((Xh s3).trans ((Xh s4).trans (Xh (Xv hp _)))) q2,z3.mono ((Xh s4).trans (Xh (Xv hp _))) q3,z4.mono (Xh (Xv hp _)) q4⟩⟩
@[reducible] def tg4 [MonoE r1][MonoE r2][MonoE r3][MonoE r4](i1 i2 i3 i4:Nat):Tgt K OO (Oq K 4 (Z0 (YI i1) (Z0 (YI i2) (Z0 (YI i3) (Z0 (YI i4) ON))))) (rP4 r1 r2 r3 r4) (V×V×V×V) where
 set:=λv U=>((((U.set i1 (some v.1)).set i2 (some v.2.1)).set i3 (some v.2.2.1)).set i4 (some v.2.2.2))
 sc:=λa v S=>((((S.add K r1 v.1 a.1).add K r2 v.2.1 a.2.1).add K r3 v.2.2.1 a.2.2.1).add K r4 v.2.2.2 a.2.2.2)
 ok:=fun {H v a U S Q} r9 hs hq=>by obtain⟨p,x1,x2,x3,x4,e,h,h1,h2,h3,h4⟩:=r9;exact⟨p,_,e,SqT.of (Xn _ _ h),rfl,x1,[x2,x3,x4],rfl,x2,[x3,x4],rfl,x3,[x4],rfl,x4,[],rfl,rfl,hq (x1,x2,x3,x4) ⟨⟨⟨⟨hs,h1⟩,h2⟩,h3⟩,h4⟩⟩
def rP5 (r1:Enc α1)(r2:Enc α2)(r3:Enc α3)(r4:Enc α4)(r5:Enc α5):Enc (α1×α2×α3×α4×α5):=λK H v p=>∃ a x1 x2 x3 x4 x5,v= .ref a/\H a=some (.tup [x1,x2,x3,x4,x5])/\r1 K H x1 p.1/\r2 K H x2 p.2.1/\r3 K H x3 p.2.2.1/\r4 K H x4 p.2.2.2.1/\r5 K H x5 p.2.2.2.2
instance {r1:Enc α1}{r2:Enc α2}{r3:Enc α3}{r4:Enc α4}{r5:Enc α5}[m1:MonoE r1][m2:MonoE r2][m3:MonoE r3][m4:MonoE r4][m5:MonoE r5]:MonoE (rP5 r1 r2 r3 r4 r5):=⟨λs r9=>by obtain⟨a,x1,x2,x3,x4,x5,e,h,p1,p2,p3,p4,p5⟩:=r9;exact⟨a,x1,x2,x3,x4,x5,e,s _ _ h,m1.mono s p1,m2.mono s p2,m3.mono s p3,m4.mono s p4,m5.mono s p5⟩⟩
instance {r1:Enc α1}{r2:Enc α2}{r3:Enc α3}{r4:Enc α4}{r5:Enc α5}[m1:FlatE r1][m2:FlatE r2][m3:FlatE r3][m4:FlatE r4][m5:FlatE r5]:FlatE (rP5 r1 r2 r3 r4 r5):=⟨λs r9=>by obtain⟨a,x1,x2,x3,x4,x5,e,h,p1,p2,p3,p4,p5⟩:=r9;exact⟨a,x1,x2,x3,x4,x5,e,s _ _ h rfl,m1.flat s p1,m2.flat s p2,m3.flat s p3,m4.flat s p4,m5.flat s p5⟩⟩
instance {r1:Enc α1}{r2:Enc α2}{r3:Enc α3}{r4:Enc α4}{r5:Enc α5}:TyE (rP5 r1 r2 r3 r4 r5) "tuple":=⟨λr9=>by obtain⟨p,x1,x2,x3,x4,x5,e,q,_⟩:=r9;exact by subst e;exact .tup q⟩
def Eg [z1:MonoE r1][z2:MonoE r2][z3:MonoE r3][z4:MonoE r4][z5:MonoE r5](h1:EvS K Er S OO U t1 r1 m1)(h2:EvS K Er S OO U t2 r2 m2)(h3:EvS K Er S OO U t3 r3 m3)(h4:EvS K Er S OO U t4 r4 m4)(h5:EvS K Er S OO U t5 r5 m5):EvS K Er S OO U (Pa (Xm t1 (Xm t2 (Xm t3 (Xm t4 (Xm t5 Yo)))))) (rP5 r1 r2 r3 r4 r5) (m1.bind λa1=>m2.bind λa2=>m3.bind λa3=>m4.bind λa4=>m5.bind λa5=>.ok (a1,a2,a3,a4,a5)):=λH Q w s P=>
 h1.run w s FS.tr P λa1 y1 H1 s1 w1 u1 q1 P1=>h2.run w1 u1 FS.tr P1 λa2 y2 H2 s2 w2 u2 q2 P2=>h3.run w2 u2 FS.tr P2 λa3 y3 H3 s3 w3 u3 q3 P3=>h4.run w3 u3 FS.tr P3 λa4 y4 H4 s4 w4 u4 q4 P4=>h5.run w4 u4 FS.tr P4 λa5 y5 H5 s5 w5 u5 q5 P5=>⟨by show 5<=sizeLine;decide,λp hp=>P5 _ _ (Xv hp _) ⟨p,y1,y2,y3,y4,y5,rfl,Z9 w5 hp,z1.mono ((Xh s2).trans ((Xh s3).trans ((Xh s4).trans ((Xh s5).trans (Xh (Xv hp _)))))) q1,z2.mono ((Xh s3).trans ((Xh s4).trans ((Xh s5).trans (Xh (Xv hp _))))) q2,z3.mono ((Xh s4).trans ((Xh s5).trans (Xh (Xv hp _)))) q3,z4.mono ((Xh s5).trans (Xh (Xv hp _))) q4,z5.mono (Xh (Xv hp _)) q5⟩⟩
@[reducible] def tg5 [MonoE r1][MonoE r2][MonoE r3][MonoE r4][MonoE r5](i1 i2 i3 i4 i5:Nat):Tgt K OO (Oq K 5 (Z0 (YI i1) (Z0 (YI i2) (Z0 (YI i3) (Z0 (YI i4) (Z0 (YI i5) ON)))))) (rP5 r1 r2 r3 r4 r5) (V×V×V×V×V) where
 set:=λv U=>(((((U.set i1 (some v.1)).set i2 (some v.2.1)).set i3 (some v.2.2.1)).set i4 (some v.2.2.2.1)).set i5 (some v.2.2.2.2))
 sc:=λa v S=>(((((S.add K r1 v.1 a.1).add K r2 v.2.1 a.2.1).add K r3 v.2.2.1 a.2.2.1).add K r4 v.2.2.2.1 a.2.2.2.1).add K r5 v.2.2.2.2 a.2.2.2.2)
 ok:=fun {H v a U S Q} r9 hs hq=>by obtain⟨p,x1,x2,x3,x4,x5,e,h,h1,h2,h3,h4,h5⟩:=r9;exact⟨p,_,e,SqT.of (Xn _ _ h),rfl,x1,[x2,x3,x4,x5],rfl,x2,[x3,x4,x5],rfl,x3,[x4,x5],rfl,x4,[x5],rfl,x5,[],rfl,rfl,hq (x1,x2,x3,x4,x5) ⟨⟨⟨⟨⟨hs,h1⟩,h2⟩,h3⟩,h4⟩,h5⟩⟩
def PY (h1:i1<n)(h2:i2<n)(h3:i3<n):VW n (Oq K 3 (Z0 (YI i1) (Z0 (YI i2) (Z0 (YI i3) ON)))):=λx U H Q q=>by
 obtain⟨a,xs,e1,hq,hl,v1,r1,f1,v2,r2,f2,v3,r3,f3,e9,q⟩:=q
 exact⟨a,xs,e1,hq,hl,v1,r1,f1,v2,r2,f2,v3,r3,f3,e9,q,by simp,λk hk=>by rw[List.getElem?_set_ne (by omega),List.getElem?_set_ne (by omega),List.getElem?_set_ne (by omega)]⟩
def PU {m:Rs (α1×α2×α3)}(ha:EvB K Er S OO U ta (rP3 r1 r2 r3) m):EvB K Er S OO U (tOp (Uy K) ta (tC (.int 0))) r1 (m.bind λp=>.ok p.1):=λH Q w s P=>
 ha.run w s FB.tr P λa x H1 s1 w1 q1 r9 P1=>by obtain⟨p,x1,x2,x3,e,q,h1,h2,h3⟩:=r9;exact⟨p,_,0,x1,e,rfl,SqT.of q,rfl,P1 _ H1 (Xp.refl _) h1⟩
def Pl {m:Rs (α1×α2×α3)}(ha:EvS K Er S OO U ta (rP3 r1 r2 r3) m):EvS K Er S OO U (tOp (Uy K) ta (tC (.int 0))) r1 (m.bind λp=>.ok p.1):=λH Q w s P=>
 ha.run w s FS.tr P λa x H1 s1 w1 q1 r9 P1=>by obtain⟨p,x1,x2,x3,e,q,h1,h2,h3⟩:=r9;exact⟨p,_,0,x1,e,rfl,SqT.of (Xn _ _ q),rfl,P1 _ H1 (Xp.refl _) h1⟩
def R5 {m:Rs (α1×α2×α3)}(ha:EvS K Er S OO U ta (rP3 r1 r2 r3) m):EvS K Er S OO U (tOp (Uy K) ta (tC (.int 1))) r2 (m.bind λp=>.ok p.2.1):=λH Q w s P=>
 ha.run w s FS.tr P λa x H1 s1 w1 q1 r9 P1=>by obtain⟨p,x1,x2,x3,e,q,h1,h2,h3⟩:=r9;exact⟨p,_,1,x2,e,rfl,SqT.of (Xn _ _ q),rfl,P1 _ H1 (Xp.refl _) h2⟩
def SU {m:Rs (α1×α2×α3)}(ha:EvS K Er S OO U ta (rP3 r1 r2 r3) m):EvS K Er S OO U (tOp (Uy K) ta (tC (.int 2))) r3 (m.bind λp=>.ok p.2.2):=λH Q w s P=>
 ha.run w s FS.tr P λa x H1 s1 w1 q1 r9 P1=>by obtain⟨p,x1,x2,x3,e,q,h1,h2,h3⟩:=r9;exact⟨p,_,2,x3,e,rfl,SqT.of (Xn _ _ q),rfl,P1 _ H1 (Xp.refl _) h3⟩
def Nb (as:List Int):Rs Int:=chk (0<as.length) (.ok (Q8 as))
def A5 (as:List Int):Rs Int:=chk (0<as.length) (.ok (Ng as))
def GG {ma:Rs (List Int)}(ha:EvB K Er S OO U ta (rV Xf) ma):EvB K Er S OO U (tCB (Wf K Q8) (Xm ta Yo)) Xf (ma.bind Nb):=λH Q w s P=>
 ha.run w s FB.tr P λa x H1 s1 w1 q1 ⟨p,xs,e,q,pr⟩ P1=>by
  obtain⟨h1,P1⟩:=PZ.chk P1
  exact⟨p,a,by rw[e],by rw[←Qz pr];exact SqL.of q,h1,P1 _ H1 (Xp.refl _) rfl⟩
def UC {ma:Rs (List Int)}(ha:EvB K Er S OO U ta (rPL Xf) ma):EvB K Er S OO U (tCB (Nr K Q8) (Xm ta Yo)) Xf (ma.bind Nb):=λH Q w s P=>
 ha.run w s FB.tr P λa x H1 s1 w1 q1 ⟨p,xs,e,q,pr⟩ P1=>by
  obtain⟨h1,P1⟩:=PZ.chk P1
  exact⟨p,a,by rw[e],by rw[←Qz pr];exact SqT.of q,h1,P1 _ H1 (Xp.refl _) rfl⟩
def R1 {m:Rs (Int×Int×Int)}(ha:EvB K Er S OO U ta (rP3 Xf Xf Xf) m):EvB K Er S OO U ta (rPL Xf) (m.bind λp=>.ok [p.1,p.2.1,p.2.2]):=λH Q w s P=>
 ha.run w s FB.tr P λa x H1 s1 w1 q1 r9 P1=>by obtain⟨p,x1,x2,x3,e,q,h1,h2,h3⟩:=r9;exact P1 _ H1 (Xp.refl _) ⟨p,_,e,q, .cons h1 (.cons h2 (.cons h3 .nil))⟩
def QX {m:Rs (Int×Int×Int×Int)}(ha:EvB K Er S OO U ta (rP4 Xf Xf Xf Xf) m):EvB K Er S OO U ta (rPL Xf) (m.bind λp=>.ok [p.1,p.2.1,p.2.2.1,p.2.2.2]):=λH Q w s P=>
 ha.run w s FB.tr P λa x H1 s1 w1 q1 r9 P1=>by obtain⟨p,x1,x2,x3,x4,e,q,h1,h2,h3,h4⟩:=r9;exact P1 _ H1 (Xp.refl _) ⟨p,_,e,q, .cons h1 (.cons h2 (.cons h3 (.cons h4 .nil)))⟩
def S0 {m:Rs (Int×Int×Int×Int×Int)}(ha:EvB K Er S OO U ta (rP5 Xf Xf Xf Xf Xf) m):EvB K Er S OO U ta (rPL Xf) (m.bind λp=>.ok [p.1,p.2.1,p.2.2.1,p.2.2.2.1,p.2.2.2.2]):=λH Q w s P=>
 ha.run w s FB.tr P λa x H1 s1 w1 q1 r9 P1=>by obtain⟨p,x1,x2,x3,x4,x5,e,q,h1,h2,h3,h4,h5⟩:=r9;exact P1 _ H1 (Xp.refl _) ⟨p,_,e,q, .cons h1 (.cons h2 (.cons h3 (.cons h4 (.cons h5 .nil))))⟩
def Ye [z:MonoE r](he:EvB K Er S OO U te (rPL r) m)(hl:EvP Er S OO U tl ml)(hh:EvP Er S OO U th mh):
  EvB K Er S OO U (tSl (T1 K) te tl th) (rPL r) (m.bind λas=>ml.bind λlo=>mh.bind λhi=>chk (¬(HT.sIx as.length 0 lo=0/\HT.sIx as.length as.length hi=as.length)) (.ok (KR as lo hi))):=λH Q w s P=>
 he.run w s FB.tr P λas x H1 s1 w1 q1 ⟨p,xs,e,q,pr⟩ P1=>hl.run w1 q1 FB.tr P1 λlo H2 s2 w2 q2 P2=>hh.run w2 q2 FB.tr P2 λhi H3 s3 w3 q3 az=>by
  obtain⟨hn,az⟩:=PZ.chk az
  have cV:=V6 (Paired.imp2 (G:=r K H3) (λ_ _ h=>z.mono (s2.trans s3) h) pr) lo hi
  exact⟨p,xs,e,SqT.of (s3 _ _ (s2 _ _ q)),by rw[Paired.len pr];exact hn,λa ha=>az _ _ (Xv ha _) ⟨a,_,rfl,X9,Paired.imp2 (λ_ _ h=>z.mono (Xv ha _) h) cV⟩⟩
def rDP (r:Enc M)(K:W.Frag)(H:Hp)(kv:Key×V)(kx:Int×M):Prop:=kv.1= .inl kx.1/\r K H kv.2 kx.2
def rD (r:Enc M):Enc (List (Int×M)):=λK H v d=>∃ p kvs,v= .ref p/\H p=some (.dK kvs)/\Paired (rDP r K H) kvs d
def oD (r:Enc M):OE (List (Int×M)):=λK h v d C=>∃ p kvs,v= .ref p/\Paired (rDP r K h) kvs d/\C=[(p, .dK kvs)]
instance {r:Enc M}[m:MonoE r]:MonoE (rD r):=⟨λs r9=>by obtain⟨p,kvs,e,q,pr⟩:=r9;exact⟨p,kvs,e,s _ _ q,Paired.imp2 (λ_ _ z=>⟨z.1,m.mono s z.2⟩) pr⟩⟩
instance {r:Enc M}[m:MonoE r]:MonoO (oD r):=⟨λs r9=>by obtain⟨p,kvs,e,pr,c⟩:=r9;exact⟨p,kvs,e,Paired.imp2 (λ_ _ z=>⟨z.1,m.mono s z.2⟩) pr,c⟩⟩
instance {r:Enc M}[m:FlatE r]:FlatO (oD r):=⟨λs r9=>by obtain⟨p,kvs,e,pr,c⟩:=r9;exact⟨p,kvs,e,Paired.imp2 (λ_ _ z=>⟨z.1,m.flat s z.2⟩) pr,c⟩⟩
instance {r:Enc M}[m:MonoE r]:FrzC (oD r) (rD r):=⟨λr9 s hc=>by obtain⟨p,kvs,e,pr,c⟩:=r9;exact⟨p,kvs,e,hc (p, .dK kvs) (by rw[c];simp),Paired.imp2 (λ_ _ z=>⟨z.1,m.mono s z.2⟩) pr⟩⟩
def Q3 (d:List (Int×M))(k:Int):Option M:=(d.find? λkv=>decide (kv.1=k)).map (·.2)
def UM (d:List (Int×M))(k:Int)(v:M):List (Int×M):=if(d.any λkv=>decide (kv.1=k))=true then d.map (λkv=>if kv.1=k then(kv.1,v) else kv) else d++[(k,v)]
def Fs (d:List (Int×M))(k:Int):Rs M:=Ta (Q3 d k)
def QS {k:Int}:∀{kvs:List (Key×V)}{d:List (Int×M)},Paired (rDP r K H) kvs d->(∀a,Q3 d k=some a->∃v,DY kvs (.inl k)=some v/\r K H v a)/\(DY kvs (.inl k)).isSome=(Q3 d k).isSome
 |_,_, .nil=>⟨λa h=>(by cases h),rfl⟩
 |kv::kvs,kx::d, .cons h t=>by
  obtain⟨h1,h2⟩:=QS (k:=k) t
  by_cases e:kx.1=k
  ·have e2:kv.1= .inl k:=by rw[h.1,e]
   rw[UK e2]
   have e3:Q3 (kx::d) k=some kx.2:=by simp[Q3,List.find?_cons,e]
   rw[e3]
   exact⟨λa ha=>by cases ha;exact⟨_,rfl,h.2⟩,rfl⟩
  ·have e2:¬kv.1= .inl k:=by rw[h.1];exact λz=>e (Sum.inl.inj z)
   rw[UH e2]
   have e3:Q3 (kx::d) k=Q3 d k:=by simp[Q3,List.find?_cons,e]
   rw[e3]
   exact⟨h1,h2⟩
def K5 {k:Int}:∀{kvs:List (Key×V)}{d:List (Int×M)},Paired (rDP r K H) kvs d->(kvs.any λkv=>decide (kv.1= .inl k))=d.any λkx=>decide (kx.1=k)
 |_,_, .nil=>rfl
 |kv::kvs,kx::d, .cons h t=>by
  rw[List.any_cons,List.any_cons,K5 t,h.1]
  congr 1
  rw[Bool.eq_iff_iff];simp
def Ko {k:Int}{a:M}(hv:r K H v a){d:List (Int×M)}(h:Paired (rDP r K H) kvs d):Paired (rDP r K H) (KQ kvs (.inl k) v) (UM d k a):=by
 unfold KQ UM
 rw[K5 h]
 by_cases e:(d.any λkx=>decide (kx.1=k))=true
 ·rw[if_pos e,if_pos e]
  clear e
  induction h with
  |nil=>exact .nil
  | @cons kv kx l m h t ih=>
   refine .cons ?_ ih
   show rDP r K H (if kv.1= .inl k then(kv.1,v) else kv) (if kx.1=k then(kx.1,a) else kx)
   by_cases e:kx.1=k
   ·rw[if_pos (show kv.1= .inl k by rw[h.1,e]),if_pos e];exact⟨h.1,hv⟩
   ·rw[if_neg (show ¬kv.1= .inl k by rw[h.1];exact λz=>e (Sum.inl.inj z)),if_neg e];exact h
 ·rw[if_neg e,if_neg e]
  exact Paired.app h (.cons ⟨rfl,hv⟩ .nil)
def BF:Ev K Er S OO OO U Ou (oD r) (.ok []):=λH Q w s P=>λp hp=>P (.ref p) [(p, .dK [])] _ (Xv hp _) (w.new hp rfl) (VT hp) ⟨p,[],rfl, .nil,rfl⟩
def QO [z:MonoE r](hd:EvB K Er S OO U td (rD r) md)(hk:EvB K Er S OO U ty Xf mk):EvB K Er S OO U (Tv td ty) r (md.bind λd=>mk.bind λk=>Fs d k):=λH Q w s P=>
 hd.run w s FB.tr P λd x H1 s1 w1 q1 ⟨p,kvs,e,q,pr⟩ P1=>hk.run w1 q1 FB.tr P1 λk y H2 s2 w2 q2 r2 P2=>by
  cases eg:Q3 d k with
  |none=>rw[Fs,eg] at P2;exact P2.elim
  |some a=>
   rw[Fs,eg] at P2
   obtain⟨v,hv,rv⟩:=(QS (k:=k) pr).1 a eg
   exact⟨p,v,e, .inl ⟨kvs, .inl k, .inl (s2 _ _ q),r2,hv.symm⟩,P2 _ H2 (Xp.refl _) (z.mono s2 rv)⟩
def Cm (hk:EvB K Er S OO U ty Xf mk)(hd:EvB K Er S OO U td (rD r) md):EvB K Er S OO U (AT ty td) XO (mk.bind λk=>md.bind λd=>.ok (Q3 d k).isSome):=λH Q w s P=>
 hk.run w s FB.tr P λk y H1 s1 w1 q1 r1 P1=>hd.run w1 q1 FB.tr P1 λd x H2 s2 w2 q2 r9 P2=>by obtain⟨p,kvs,e,q,pr⟩:=r9;exact⟨p,DY kvs (.inl k),e, .inl ⟨kvs, .inl k, .inl q,r1,rfl⟩,P2 _ H2 (Xp.refl _) (by rw[(QS (k:=k) pr).2];rfl)⟩
variable [fd:FdOk Fd]{u:TS}
def RH [z:MonoE r]{f:List (Int×M)->Rs L}{d:List (Int×M)}(i k:Nat)(hσ:U[i]?=some (some v))(hk:OO[k]?=some C)(h:∀x,S.p x->oD r K x v d C)(hv:EvS K Er S OO U tv r mv)(hy:EvB K Er S OO U ty Xf mk)
  (hr:∀d' C',Sv Er (S.addO K (oD r) v d' C') (OO.set k C') U u Fd (f d')):Sv Er S OO U (Zd (PD (Q0 i) ty tv) u) Fd (mv.bind λa=>mk.bind λn=>chk (d.length<sizeLine) (f (UM d n a))):=λH D w s P=>
 hv.st w s P λa va H1 s1 w1 q1 r1 P1=>⟨v,hσ,hy.st w1 q1 P1 λn vn H2 s2 w2 q2 r2 P2=>by
  obtain⟨hsz,P2⟩:=PZ.chk P2
  obtain⟨p,kvs,e,pr,c⟩:=h _ q2
  subst c e
  have hH:H2 p=some (.dK kvs):=w2.tr (p, .dK kvs) (List.mem_flatten.mpr ⟨_,List.mem_of_getElem? hk,by simp⟩)
  obtain⟨w3,m3⟩:=MB (D:=[]) (C':=[(p, .dK (KQ kvs (.inl n) va))]) (p:=p) (o:=.dK (KQ kvs (.inl n) va)) w2.nil hk (by simp) (by simp) (by simp) (λb hb=>by simpa using hb) (λc hc=>by
   have:c=(p, .dK (KQ kvs (.inl n) va)):=by simpa using hc
   rw[this];exact X9) (λc hc=>by
   have:c=(p, .dK (KQ kvs (.inl n) va)):=by simpa using hc
   rw[this];rfl)
  rw[YK] at m3
  refine⟨p,_,rfl, .inl ⟨kvs, .inl n,hH,r2,by rw[Paired.len pr];exact hsz,rfl⟩,?_⟩
  exact hr _ _ _ D w3 ⟨S.mono _ _ m3 q2,⟨p,_,rfl,Ko (z.mono ((Xh s2).trans m3) r1) (Paired.imp2 (λ_ _ h=>⟨h.1,z.mono m3 h.2⟩) pr),rfl⟩⟩ (PZ.tr (fd.tr D) m3 P2)⟩
end
section
variable {h0 h:Heap}{T:Addr}{cls a0:Value}{l:List Env}
end
section
variable {fs fs2 ex ex2:List Addr}{H0:Hp}{h0 h:Heap}
end
section
variable {qual:Str}{f:Addr}{cd:Value}{outer:List Env}{s0:Shared}{H0:Hp}{E:XK}
end
section
variable {sp:Sp}{t:TA}{p:Pos}{E:XK}
end
section
variable {E:XK}{C:Addr}{t:TA}{np ao:Pos}
end
abbrev TJ:=St->Hp->(Hp->Prop)->Prop
section
variable {t:TJ}{p:Pos}
end
section
end
section
variable {body gn:List Stmt}{b₀:Stmt}{cn n:Str}{Ch:Addr}{i:Nat}{tb:XK->TS}{ts:Addr->Addr->TS}{np hpos:Pos}
end
section
variable {α6:Type}{E:XK}
variable [fd:FdOk Fd]{u:TS}
section
variable {te:XK->TE}{m:Rs M}{ts:Addr->Addr->TS}{N i:Nat}{Ch:Addr}{o:OE ρ}{g:Exc->Rs ρ}{ns:List Str}{d:Str}
end
end
end L2
namespace L2
open PySem PySem.Spec PyProof.Rows PySem.W PySem.Builtin PySem.Builtin.ObjectAttr PySem.Builtin.Getset_descriptor
section
variable {K:Frag}{x D:Addr}
end
def Ml (h:∃u,X.mg x=some u/\XW v u)(hg:Gl X x)(hd:(x==("__debug__":Str))=false:=by decide):PE X (.Name x pos) (tC v):=by
 obtain⟨u,hm,r⟩:=h
 exact PB hg hm r hd
section
variable {C D:Addr}{b:Bool}
end
end L2
namespace L2
open PySem PySem.Spec PyProof.Rows
section
variable [fd:FdOk Fd]{u:TS}
end
section
def WK {x y z:V}(h:X0 [x,y,z] its):∃u1 u2 u3,its=[u1,u2,u3]/\XW x u1/\XW y u2/\XW z u3:=by
 cases h with
 |cons a t=>
  obtain⟨u,v,rfl,b,c⟩:=X0.two t
  exact⟨_,u,v,rfl,a,b,c⟩
def AM [DecidableEq M][DecidableEq L][DecidableEq B]{q:Enc L}{t:Enc B}{d:Nat}[m:MonoE r][n:MonoE q][k:MonoE t](E:EqOk r d)(F:EqOk q d)(G:EqOk t d):EqOk (rP3 r q t) (d+1):=by
 have un:∀{X:Cx}{aa:List (Addr×Obj)}{U:St}{H:Hp}{s:Shared}{x:V}{a b:M×L×B},Inv X aa U H s->rP3 r q t X.K H x a->rP3 r q t X.K H x b->a=b:=by
  rintro X aa U H s x ⟨a1,a2,a3⟩ ⟨b1,b2,b3⟩ I ⟨a,x1,x2,x3,rfl,q1,p1,p2,p3⟩ ⟨b,y1,y2,y3,e,q2,p4,p5,p6⟩
  cases e
  cases I.tuple_inj (SqT.of q1) (SqT.of q2)
  rw[show a1=b1 from E.uniq I p1 p4,show a2=b2 from F.uniq I p2 p5,show a3=b3 from G.uniq I p3 p6]
 have fF:∀{X:Cx}{aa:List (Addr×Obj)}{U:St}{H:Hp}{s:Shared}{x y:V}{v u:Value}{a b:M×L×B}{A:Around},Inv X aa U H s->XW x v->XW y u->rP3 r q t X.K H x a->rP3 r q t X.K H y b->A.units+(d+1)<cLine->SeqAt.RcAt A s v u (decide (a=b))/\SeqAt.RcNeAt A s v u (!decide (a=b)):=by
  rintro X aa U H s x y v u ⟨a1,a2,a3⟩ ⟨b1,b2,b3⟩ A I rx ry ⟨a,x1,x2,x3,rfl,q1,p1,p2,p3⟩ ⟨b,y1,y2,y3,rfl,q2,p4,p5,p6⟩ hu
  cases rx;cases ry
  obtain⟨i1,z1,l1,_⟩:=I.tuple (SqT.of q1)
  obtain⟨i2,z2,l2,_⟩:=I.tuple (SqT.of q2)
  obtain⟨u1,u2,u3,rfl,e1,e2,e3⟩:=WK z1
  obtain⟨w1,w2,w3,rfl,g1,g2,g3⟩:=WK z2
  have it:∀j (h1:j< [u1,u2,u3].toArray.size) (h2:j< [w1,w2,w3].toArray.size),SeqAt.EqAt A.in1 s [u1,u2,u3].toArray[j] [w1,w2,w3].toArray[j] ((λj=>if j=0 then decide (a1=b1) else if j=1 then decide (a2=b2) else decide (a3=b3)) j):=by
   intro j h1 h2
   have hj:j=0∨j=1∨j=2:=by
    have eY:j<3:=h1
    omega
   rcases hj with rfl |rfl |rfl
   ·exact E.eq (A:=A.in1) I e1 g1 p1 p4 (by rw[YM];omega)
   ·exact F.eq (A:=A.in1) I e2 g2 p2 p5 (by rw[YM];omega)
   ·exact G.eq (A:=A.in1) I e3 g3 p3 p6 (by rw[YM];omega)
  have R:=SeqAt.RcAt.tuples (A:=A) l1 l2 (by omega) it
  have N:=SeqAt.RcNeAt.tuples (A:=A) l1 l2 (by omega) it
  have ed:decide ((a1,a2,a3)=(b1,b2,b3))=(decide (a1=b1)&&(decide (a2=b2)&&decide (a3=b3))):=by rw[Bool.eq_iff_iff];simp
  rw[ed]
  exact⟨by simpa[List.range_succ,Bool.and_assoc] using R,by simpa[List.range_succ,Bool.and_assoc,Bool.not_and] using N⟩
 refine⟨un,?_,λI rx ry h1 h2 hu=>(fF I rx ry h1 h2 hu).1,λI rx ry h1 h2 hu=>(fF I rx ry h1 h2 hu).2,λs q=>MonoE.mono s q⟩
 intro X aa U H s x y v u as bs A I rx ry h1 h2 hu
 have R:=(fF (A:=A) I rx ry h1 h2 hu).1
 obtain⟨a,x1,x2,x3,rfl,q1,_⟩:=id h1
 obtain⟨b,y1,y2,y3,rfl,q2,_⟩:=id h2
 cases rx;cases ry
 by_cases e:a=b
 ·subst e
  rw[decide_eq_true (un I h1 h2)]
  exact SeqAt.EqAt.same _
 ·exact SeqAt.EqAt.of_refs e R
end
section
variable {ζ:Type}
variable [fd:FdOk Fd]{u:TS}
def P7 [MonoO o]{m:Rs M}{f:List M->Rs L}(k:Nat)(iC:∀(H:Hp) (Q:VK),W OO H->S.p (hid H OO)->Q v H->tl U H Q)(hk:OO[k]?=some C)(bF:OO'[k]?=some C)(h:∀x,S.p x->oL o K x v as C)(he:Ev K Er S OO OO' U ta o m)
  (hr:∀a C',Sv Er (S.addO K (oL o) v (as++[a]) C') (OO'.set k C') U u Fd (f (as++[a]))):Sv Er S OO U (Zd (JJ (tBM K "list" Qn tl (Xm ta Yo))) u) Fd (m.bind λa=>chk (as.length<sizeLine) (f (as++[a]))):=λH D w s P=>by
 obtain⟨p,xs,Cs,e,q,c⟩:=h _ s
 subst c
 have hH:H p=some (.lst xs):=w.tr (p, .lst xs) (List.mem_flatten.mpr ⟨_,List.mem_of_getElem? hk,List.mem_cons_self⟩)
 refine iC _ _ w s ⟨by rw[e];exact .inl ⟨rfl,_,SqL.of hH⟩,he.st w s P λa y D' H' w' s' ho P'=>?_⟩
 obtain⟨p',xs',Cs',e2,q2,c2⟩:=h _ s'
 rw[e] at e2;cases e2
 have c3:(p,HO.lst xs)=(p,HO.lst xs')/\Cs.flatten=Cs'.flatten:=by
  injection c2 with h1 h2
  exact⟨h1,h2⟩
 obtain⟨c3,c4⟩:=c3
 cases c3
 have gS:H' p=some (.lst xs):=w'.tr (p, .lst xs) (by rw[List.flatten_cons];exact List.mem_append_right _ (List.mem_flatten.mpr ⟨_,List.mem_of_getElem? bF,List.mem_cons_self⟩))
 cases ah:decide (as.length<sizeLine) with
 |false=>rw[chk,if_neg (by simpa using ah)] at P';exact P'.elim
 |true=>
  have eZ:as.length<sizeLine:=by simpa using ah
  rw[Xi eZ] at P'
  have wnd:=w'.nd
  have bg:∀c∈(p,HO.lst (xs++[y]))::(Cs'++[D']).flatten,upd H' p (.lst (xs++[y])) c.1=some c.2:=λc hc=>by
   rcases List.mem_cons.mp hc with rfl |hc
   ·exact X9
   ·have jg:=XN bF
    have w3:W [D'++(((p,HO.lst xs)::Cs.flatten)++(OO'.set k []).flatten)] H':=w'.of (by
     simp only[List.flatten_cons,List.flatten_nil,List.append_nil]
     exact(by simpa using jg:(((p,HO.lst xs)::Cs.flatten)++(OO'.set k []).flatten).Perm OO'.flatten).append_left D')
    have bd:c∈D'++(((p,HO.lst xs)::Cs.flatten)++(OO'.set k []).flatten):=by
     rw[YY,List.mem_append] at hc
     rcases hc with hc |hc
     ·rw[←c4] at hc;simp[hc]
     ·simp[hc]
    have aL:c.1≠p:=λee=>by
     have fM:=w3.nd
     rw[YY,List.mem_append, ←c4] at hc
     simp only[fl,List.flatten_cons,List.flatten_nil,List.append_nil,List.map_append,List.cons_append,List.map_cons] at fM
     rw[List.nodup_append] at fM
     obtain⟨_,n2,n3⟩:=fM
     rcases hc with hc |hc
     ·exact(List.nodup_cons.mp n2).1 (List.mem_append_left _ (List.mem_map.mpr ⟨c,hc,ee⟩))
     ·exact n3 c.1 (List.mem_map.mpr ⟨c,hc,rfl⟩) p List.mem_cons_self ee
    rw[XH aL]
    exact w3.tr c (by simpa using bd)
  obtain⟨w4,h4⟩:=qc (C':=(p, .lst (xs++[y]))::(Cs'++[D']).flatten) w' bF List.mem_cons_self (by simp[YY,c4]) bg (λc hc=>by
   rcases List.mem_cons.mp hc with rfl |hc
   ·rfl
   ·rw[YY,List.mem_append, ←c4] at hc
    rcases hc with hc |hc
    ·exact w'.mu c (by rw[List.flatten_cons];exact List.mem_append_right _ (List.mem_flatten.mpr ⟨_,List.mem_of_getElem? bF,List.mem_cons_of_mem _ hc⟩))
    ·exact w'.mu c (by rw[List.flatten_cons];exact List.mem_append_left _ hc))
  refine⟨p,xs,y,e,rfl,gS,by rw[(P3.len q).1];exact eZ,?_⟩
  refine hr a _ _ D w4 ?_ (by rw[h4];exact P')
  rw[h4]
  exact⟨s',⟨p,xs++[y],Cs'++[D'],e,q2.snoc ho,rfl⟩⟩
end
end L2
namespace L2
def Wv {us:List M}(h:us.length=1):∃a,us=[a]:=List.length_eq_one_iff.mp h
def TY {us:List M}(h:us.length=2):∃a0 a1,us=[a0,a1]:=by
 cases us with
 |nil=>cases h
 |cons a0 t=>
  obtain⟨a1,rfl⟩:=Wv (Nat.succ.inj h)
  exact⟨a0,a1,rfl⟩
def Ti {us:List M}(h:us.length=3):∃a0 a1 a2,us=[a0,a1,a2]:=by
 cases us with
 |nil=>cases h
 |cons a0 t=>
  obtain⟨a1,a2,rfl⟩:=TY (Nat.succ.inj h)
  exact⟨a0,a1,a2,rfl⟩
def TR {us:List M}(h:us.length=4):∃a0 a1 a2 a3,us=[a0,a1,a2,a3]:=by
 cases us with
 |nil=>cases h
 |cons a0 t=>
  obtain⟨a1,a2,a3,rfl⟩:=Ti (Nat.succ.inj h)
  exact⟨a0,a1,a2,a3,rfl⟩
def Ai {us:List M}(h:us.length=5):∃a0 a1 a2 a3 a4,us=[a0,a1,a2,a3,a4]:=by
 cases us with
 |nil=>cases h
 |cons a0 t=>
  obtain⟨a1,a2,a3,a4,rfl⟩:=TR (Nat.succ.inj h)
  exact⟨a0,a1,a2,a3,a4,rfl⟩
end L2
namespace L2
open PySem PySem.Spec PyProof.Rows
section
end
section
end
section
variable {ζ:Type}
variable [fd:FdOk Fd]{u:TS}
def NE {m:Rs (Option (Int×Int))}(he:Ev K Er S OO OO' U te (oF (JI (rP2 Xf Xf))) m):Ev K Er S OO OO' U te (oF (JI (rPL Xf))) (m.bind λa=>.ok (a.map λp=>[p.1,p.2])):=λH Q w s P=>by
 refine he H Q w s ?_
 cases m with
 |bad=>exact P
 |err x=>exact P
 |ok a=>
  refine λv C H' s' w' m' ho=>P v C H' s' w' m' ⟨ho.1,?_⟩
  cases a with
  |none=>exact ho.2
  |some a=>
   obtain⟨_,hn,p,x,y,e,h,h1,h2⟩:=ho
   exact⟨hn,p,_,e,h, .cons h1 (.cons h2 .nil)⟩
def EC {m:Rs (Option (Int×Int×Int×Int))}(he:Ev K Er S OO OO' U te (oF (JI (rP4 Xf Xf Xf Xf))) m):Ev K Er S OO OO' U te (oF (JI (rPL Xf))) (m.bind λa=>.ok (a.map λp=>[p.1,p.2.1,p.2.2.1,p.2.2.2])):=λH Q w s P=>by
 refine he H Q w s ?_
 cases m with
 |bad=>exact P
 |err x=>exact P
 |ok a=>
  refine λv C H' s' w' m' ho=>P v C H' s' w' m' ⟨ho.1,?_⟩
  cases a with
  |none=>exact ho.2
  |some a=>
   obtain⟨_,hn,p,x,y,x3,x4,e,h,h1,h2,h3,h4⟩:=ho
   exact⟨hn,p,_,e,h, .cons h1 (.cons h2 (.cons h3 (.cons h4 .nil)))⟩
def FI:Ev K Er S OO OO U (tC .non) (oF (JI r)) (.ok none):=λH Q w s P=>P _ [] H (Xp.refl _) w.nil (by rw[YK];exact Xp.refl _) ⟨rfl,rfl⟩
def Jx {m:Rs M}(hn:∀{K h v a C},oF r K h v a C->v≠ .non)(he:Ev K Er S OO OO' U te (oF r) m):Ev K Er S OO OO' U te (oF (JI r)) (m.bind λa=>.ok (some a)):=λH Q w s P=>by
 refine he H Q w s ?_
 cases m with
 |bad=>exact P
 |err x=>exact P
 |ok a=>exact λv C H' s' w' m' ho=>P v C H' s' w' m' ⟨ho.1,hn ho,ho.2⟩
def TM {r1:Enc M}{r2:Enc L}{r3:Enc B}{r4:Enc δ}{a:M×L×B×δ}(q:oF (rP4 r1 r2 r3 r4) K h v a C):v≠ .non:=by
 obtain⟨_,p,x1,x2,x3,x4,e,_⟩:=q
 rw[e]
 exact λz=>nomatch z
end
section
def ipM:TIp:=λx y H Q=>∃ i j,x= .int i/\y= .int j/\Tb i j/\Q (.int (i*j)) H
def TV:PIp X .Mult ipM:=by
 intro aa s U H x y v u Q I r1 r2 h
 obtain⟨i,j,e1,e2,hc,q⟩:=h
 subst e1;subst e2
 obtain⟨t,rfl⟩:=r1
 obtain⟨t',rfl⟩:=r2
 exact PySem.AutoIntOps.imul_0 ⟨.int _,H,I.tok _,⟨_,rfl⟩,q⟩ hc.ok
end
section
variable {ζ:Type}
variable [fd:FdOk Fd]{u:TS}
def P6 {m:Rs Int}{f:Int->Rs L}{a:Int}(i:Nat)(hσ:U[i]?=some (some v))(h:∀x,S.p x->Xf K x v a)(he:EvB K Er S OO U te Xf m)
  (hr:∀b v,Sv Er (S.add K Xf v b) OO (U.set i (some v)) u Fd (f b)):Sv Er S OO U (Zd (W3 i te ipM) u) Fd (m.bind λb=>(MZ a b).bind f):=λH D w s P=>
 ⟨v,hσ,he.st w s P λb y H1 s1 w1 q1 r1 P1=>by
  cases e:MZ a b with
  |bad=>rw[e] at P1;exact P1.elim
  |err x=>exact absurd e QY
  |ok c=>
   rw[e] at P1
   obtain⟨h1,h2⟩:=Zf e
   cases h2
   exact⟨a,b,h _ s,r1,h1,hr _ _ H1 D w1 ⟨q1,rfl⟩ P1⟩⟩
end
set_option maxRecDepth 100000
section
def By:typeLookup (.type "list") "keys" =pure none:=by rw[typeLookup_type,builtinLookup_eq_fast];kernel_rfl
theorem Na {o:Obj}{xs:Array Value}{R:Option Value->Shared->Prop}(hx:s.heap.get? a=some o)(hc:o.cls= .type "list")(dj:o.data= .seq xs k)(hd:o.dict=none)(hA:A.handled=none)
    (h:∀g tk,(∀b u,s.heap.get? b=some u->g.get? b=some u)->R none {s with heap:=g,toks:=tk}):wpAny (model prog w) A (getAttr? (.ref a) "keys") R E s:=by
  obtain⟨c,dct,dat,sl⟩:=o
  simp only at hc dj hd
  subst hc dj hd
  obtain⟨hp,g,d,tk,os⟩:=s
  have hT:∀tk',(⟨hp,g,d,tk',os⟩:Shared).TypeIs (.ref a) "list":=λ_=>⟨_,hx,rfl⟩
  have f1:=sub_AttributeError
  have f3:=F.slot_list_getattribute.lookup
  have f4:=F.slot_list_getattribute.bind (.ref a)
  have f5:=am_list_getattr_none
  unfold getAttr? getAttrBy? getAttrBy
  repeat (any_goals (first
    |assumption
    |exact hT _
    | ((with_reducible show wpAny _ _ (call (Value.builtin "list.__getattribute__") _ _) _ _ _)
       refine call_meets F.slot_list_getattribute (hT _) am_entry_list_getattribute (F.args_list_getattribute_2 _ _) (meets_getattribute_miss_list a xs k sl "keys" _ By (by decide+kernel)) ⟨hx,hA,λh' tk' e dF=>?_⟩)
    |wp_step))
  obtain⟨t',u',he⟩:=dF.there
  show wpAny _ _ (getattributeRaised _ _ _ _ _ _ _) _ _ _
  unfold getattributeRaised
  repeat (any_goals (first |wp_step |assumption))
  exact h _ _ dF.keeps
def QP:plainId "dict.update.loop" =true:=by decide+kernel
def KI:entryFor table "dict.update.loop" =some Builtin.«dict.update.loop»:=entryFor_of_fast (by kernel_rfl)
end
section
variable {K:Type}[DecidableEq K]{knd:KeyKind prog w K}
def RK (knd:KeyKind prog w K)(h:Heap)(its:Array Value)(kv:List (K×Value)):Prop:=its.size=kv.length/\∀(j:Nat) (x:Value) (p:K×Value),its[j]?=some x->kv[j]?=some p->∃t key,x= .ref t/\h.IsTuple t #[key,p.2]/\knd.is p.1 key=true
def G2 (acc kv:List (K×Value)):List (K×Value):=kv.foldl (λa p=>stored a p.1 p.2) acc
def E6 (acc:List (K×Value))(k:K)(v:Value):(stored acc k v).length<=acc.length+1:=by
 unfold stored
 split
 ·simp
 ·simp
def Dc {h:Heap}{t l:Addr}{i:Nat}{xs:Array Value}(ht:h.IsTuple t xs)(it:h.IsListIter I l i):t≠I:=λe=>by
 subst e
 obtain⟨o,ho,hc,_⟩:=ht
 obtain⟨o',cI,eM,_⟩:=it
 rw[ho] at cI
 cases cI
 rw[hc] at eM
 exact absurd eM (by decide)
def Ll {h:Heap}{t:Addr}{xs:Array Value}{acc:List (K×Value)}(ht:h.IsTuple t xs)(hd:h.DictOf knd d acc):t≠d:=λe=>by
 subst e
 obtain⟨o,ho,hc,_⟩:=ht
 obtain⟨o',_,_,cI,eM,_⟩:=hd
 rw[ho] at cI
 cases cI
 have:=eM.1
 rw[hc] at this
 exact absurd this (by decide)
def Aw (hh:A.in1.handled=none)(hdI:d≠I)(hlI:l≠I)(hld:l≠d){its:Array Value}:
  ∀(k i:Nat) (s:Shared) (acc:List (K×Value)),its.size-i=k->i<=its.size->s.heap.IsListIter I l i->s.heap.IsList l its->RK knd s.heap its kv->s.heap.DictOf knd d acc->acc.length+its.size<=sizeLine+i->
  (∀g tk,g.DictOf knd d (G2 acc (kv.drop i))->(∀b o,b≠I->b≠d->s.heap.get? b=some o->g.get? b=some o)->R (.ok (.ret .none)) {s with heap:=g,toks:=tk})->
  codeAny (model prog w) A (.builtin "dict.update.loop" ⟨[.ref d, .ref I,rawInt i, .none],[]⟩) R s:=by
 intro k
 induction k with
 |zero=>
  intro i s acc hk hi it hl hp hd hz r
  refine codeAny_builtin KI ?_
  rw[Around.under_plainId QP _]
  show wpAny _ A.in1 (pyNext (.ref I) >>= _) _ _ s
  refine wpAny_bind (wpAny_pyNext_list_end hh it hl (by simp;omega) λg hx=>?_)
  show wpAny _ _ (Builtin.Dict.addKeywords d [] >>= λ_=>ret Value.none) _ _ _
  refine wpAny_bind (wpAny_pure (wpAny_pure (r g s.toks ?_ λb o hb _ e=>hx b o hb e)))
  have e:kv.drop i=[]:=List.drop_eq_nil_of_le (by have:=hp.1;omega)
  rw[e]
  exact hd.extBut hx hdI
 |succ k ih=>
  intro i s acc hk hi it hl hp hd hz r
  have lt:i<its.size:=by omega
  refine codeAny_builtin KI ?_
  rw[Around.under_plainId QP _]
  show wpAny _ A.in1 (pyNext (.ref I) >>= _) _ _ s
  refine wpAny_bind (wpAny_pyNext_list_item it hl (x:=its[i]) (by simp[lt]) λg it' hx=>?_)
  have lt2:i<kv.length:=by have:=hp.1;omega
  obtain⟨t,key,et,ht,gK⟩:=hp.2 i its[i] kv[i] (by simp[lt]) (by simp[lt2])
  have htI:t≠I:=Dc ht it
  have ht1:g.IsTuple t #[key,kv[i].2]:=ht.extBut hx.extBut htI
  obtain⟨o,ho,hc,n,hdt⟩:=id ht1
  rw[et]
  show wpAny _ _ (holding [Value.ref t] _ >>= λ_=>again (.builtin "dict.update.loop" ⟨[.ref d, .ref I,rawInt ((i:Int)+1), .none],[]⟩)) _ _ _
  refine wpAny_bind (wpAny_holding ?_)
  refine wpAny_bind (wpAny_tryCatch ?_)
  unfold Builtin.Dict.pairItems
  refine wpAny_bind (wpAny_typeOf (s:={s with heap:=g}) ⟨o,ho,hc⟩ ?_)
  rw[if_pos (by decide)]
  refine wpAny_bind (wpAny_seqItems (s:={s with heap:=g}) ho hdt (wpAny_pure ?_))
  show wpAny _ _ (holding [key,kv[i].2] (dictSet d key kv[i].2)) _ _ _
  refine wpAny_holding (wpAny_dictSet_pairs (s:={s with heap:=g}) gK (hd.extBut hx.extBut hdI) (λg2 fH dS=>?_) (by omega))
  refine wpAny_pure ⟨plainId_quiet QP _,?_⟩
  have aL:∀{b:Addr}{u:Obj},s.heap.get? b=some u->b≠I->b≠d->g2.get? b=some u:=fun {b u} e h1 h2=>(dS.2 b h2).trans (hx.extBut b u h1 e)
  refine ih (i+1) {s with heap:=g2,toks:=s.toks+1} (stored acc kv[i].1 kv[i].2) (by omega) (by omega) ?_ ?_ ?_ fH ?_ ?_
  ·exact it'.extBut dS.extBut (λe=>hdI e.symm)
  ·exact(hl.extBut hx.extBut hlI).extBut dS.extBut hld
  ·refine⟨hp.1,λj x p h1 h2=>?_⟩
   obtain⟨t2,gU,e2,iD,dL⟩:=hp.2 j x p h1 h2
   exact⟨t2,gU,e2,(iD.extBut hx.extBut (Dc iD it)).extBut dS.extBut (Ll iD hd),dL⟩
  ·have:=E6 acc kv[i].1 kv[i].2
   omega
  ·intro g3 tk hd3 kp
   refine r g3 tk ?_ λb o h1 h2 e=>kp b o h1 h2 (aL e h1 h2)
   rw[List.drop_eq_getElem_cons lt2]
   exact hd3
theorem Hb (hh:A.handled=none){o:Obj}{its:Array Value}(hx:s.heap.get? l=some o)(hc:o.cls= .type "list")(dj:o.data= .seq its n)(hd:o.dict=none)(hp:RK knd s.heap its kv)(hz:its.size<=sizeLine)
  (r:∀g tk,g.DictOf knd s.heap.objs.size (G2 [] kv)->(∀b u,s.heap.get? b=some u->g.get? b=some u)->Q (.ref s.heap.objs.size) {s with heap:=g,toks:=tk}):wpAny (model prog w) A (call (.type "dict") [.ref l]) Q E s:=by
 refine callType_codes (Q₁:=λobj s₁=>obj= .ref s.heap.objs.size/\s₁={s with heap:=s.heap.push {cls:=.type "dict",data:=.dict #[]}}) F.kt_called_dict (F.kt_typeCall_dict_1 _) F.entry_dict_init (kt_code_dict_new _ ⟨rfl,rfl⟩) ?_
 rintro obj s₁ ⟨rfl,rfl⟩
 have eT:(s.heap.push {cls:=.type "dict",data:=.dict #[]}).DictOf knd s.heap.objs.size []:=Heap.DictOf.new s.heap
 have ji:(s.heap.push {cls:=.type "dict",data:=.dict #[]}).get? l=some o:=Heap.get?_push_of_some _ hx
 refine⟨eT.typeIs,F.args_dict_init_2 _ _,?_⟩
 unfold Builtin.«dict.__init__»
 refine wpAny_bind ?_
 unfold Builtin.Dict.selfAndRest
 refine wpAny_bind (wpAny_notOrdered_dict eT.typeIs ?_)
 show wpAny _ _ (pure (s.heap.objs.size,[Value.ref l])) _ _ _
 refine wpAny_pure ?_
 show wpAny _ _ (Builtin.Dict.updateFrom "dict.__init__" s.heap.objs.size (.ref l) [] .none) _ _ _
 unfold Builtin.Dict.updateFrom
 refine wpAny_bind (wpAny_typeOf ⟨o,ji,hc⟩ ?_)
 rw[if_pos (by decide)]
 refine wpAny_bind (Na ji hc dj hd hh λg tk kp=>?_)
 rw[if_pos (show(none:Option Value).isNone=true from rfl)]
 refine wpAny_bind (wpAny_rule ?_)
 have hlg:g.IsList l its:=⟨o,kp _ _ ji,hc,n,dj⟩
 have hdg:g.DictOf knd s.heap.objs.size []:=by
  obtain⟨o',es,ep,ho,q⟩:=eT
  exact⟨o',es,ep,kp _ _ ho,q⟩
 have gW:s.heap.objs.size<g.objs.size:=by
  obtain⟨o',es,ep,ho,q⟩:=hdg
  exact Heap.lt_size ho
 have jk:l<s.heap.objs.size:=Heap.lt_size hx
 refine wpAny_bind (wpAny_pyIter_list (s:={s with heap:=g,toks:=tk}) hlg ?_)
 refine wpAny_pure ⟨plainId_quiet QP _,?_⟩
 refine Aw (A:=A.in1) (show A.in1.in1.handled=none from hh) (d:=s.heap.objs.size) (I:=g.objs.size) (l:=l) (its:=its) (kv:=kv) (Nat.ne_of_lt gW) (Nat.ne_of_lt (Nat.lt_trans jk gW)) (Nat.ne_of_lt jk) its.size 0 _ [] rfl (Nat.zero_le _) ⟨_,Heap.get?_push_size _ rfl,rfl,rfl⟩ (hlg.push _) ?_ (hdg.push _) (by simpa using hz) ?_
 ·refine⟨hp.1,λj x p h1 h2=>?_⟩
  obtain⟨t2,gU,e2,⟨ot,hot,q⟩,dL⟩:=hp.2 j x p h1 h2
  exact⟨t2,gU,e2,⟨ot,Heap.get?_push_of_some _ (kp _ _ (Heap.get?_push_of_some _ hot)),q⟩,dL⟩
 ·intro g2 tk2 fH kp2
  refine⟨rfl,r g2 tk2 fH λb u e=>?_⟩
  have hb:=Heap.lt_size e
  exact kp2 b u (Nat.ne_of_lt (Nat.lt_trans hb gW)) (Nat.ne_of_lt hb) (Heap.get?_push_of_some _ (kp _ _ (Heap.get?_push_of_some _ e)))
end
section
def VG (acc kvs:List (Key×V)):List (Key×V):=kvs.foldl (λa p=>KQ a p.1 p.2) acc
def Om (kvs:List (Key×V))(k:Key)(v:V):(KQ kvs k v).length<=kvs.length+1:=by
 unfold KQ
 split<;> simp
def Gi:∀(kvs acc:List (Key×V)),(VG acc kvs).length<=acc.length+kvs.length
 | [],acc=>by simp[VG]
 |p::kvs,acc=>by
  have h1:=Gi kvs (KQ acc p.1 p.2)
  have h2:=Om acc p.1 p.2
  show(VG (KQ acc p.1 p.2) kvs).length<=_
  rw[List.length_cons]
  omega
def KV.all (t:KV kvs vs):∀{acc:List (Key×V)}{cA:List (Key×Value)},KV acc cA->KV (VG acc kvs) (G2 cA vs):=by
 induction t with
 |nil=>intro acc cA h;exact h
 | @cons p q kvs vs r _ ih=>
  intro acc cA h
  have h2:=h.put p.1 r.2
  have e:stored cA p.1 q.2=stored cA q.1 q.2:=by rw[r.1]
  rw[e] at h2
  exact ih h2
def OU (K:W.Frag):List V->Hp->VK->Prop:=λxs H Q=>∃ l ps kvs,xs=[.ref l]/\SqL K H l ps/\Paired (λp (kv:Key×V)=>∃ t,p= .ref t/\SqT K H t [kV kv.1,kv.2]) ps kvs/\∀d,H d=none->Q (.ref d) (upd H d (.dK (VG [] kvs)))
def WG (I:Inv X aa U H s):∀{ps:List V}{kvs:List (Key×V)}{its:List Value},Paired (λp (kv:Key×V)=>∃ t,p= .ref t/\SqT X.K H t [kV kv.1,kv.2]) ps kvs->X0 ps its->∃kv,KV kvs kv/\RK (Yt X.prog X.w) s.heap its.toArray kv:=fun {ps kvs its} p=>by
 induction p generalizing its with
 |nil=>
  intro v
  cases v
  exact⟨[], .nil,rfl,λj x p h=>by simp at h⟩
 | @cons _ b _ _ r _ ih=>
  intro v
  cases v with
  |cons rv v=>
   obtain⟨kv,h1,h2,h3⟩:=ih v
   obtain⟨t,rfl,ht⟩:=r
   cases rv
   obtain⟨i2,v2,tp,_⟩:=I.tuple ht
   obtain⟨key,val,rfl,e1,e2⟩:=X0.two v2
   refine⟨(b.1,val)::kv, .cons ⟨rfl,e2⟩ h1,by simpa using h2,λj x p hj hp=>?_⟩
   cases j with
   |zero=>
    simp at hj hp
    subst hj hp
    exact⟨t,key,rfl,tp,Ha e1⟩
   |succ j=>exact h3 j x p (by simpa using hj) (by simpa using hp)
def Z6 (K:W.Frag)(hK:X.K=K)(hc:X.calm=true):ZM X (.type "dict") (OU K):=by
 subst hK
 intro aa s U H xs us Q I r h
 obtain⟨l,ps,kvs,rfl,hq,hp,q⟩:=h
 obtain⟨u,rfl,ru⟩:=VI r
 cases ru
 obtain⟨its,rv,⟨o,n,ho,jd,hdn,dj⟩,hz⟩:=I.list hq
 obtain⟨kv,h1,h2⟩:=WG I hp rv
 have af:=rv.length
 have fr:=Paired.len hp
 refine Hb (knd:=Yt X.prog X.w) (I.ok.hd hc) ho jd dj hdn h2 (by simpa[←af] using hz) λg tk hd kp=>?_
 refine⟨.ref s.heap.objs.size,_,I.laid (t':=tk) kp (Nat.le_refl _) (show YR X.prog X.w _ g _ (.dK (VG [] kvs)) from⟨Nat.le_trans (Gi kvs []) (by simp;omega),beq_eq_false_iff_ne.mpr (Ne.symm (Nat.ne_of_lt I.big)),_,KV.all h1 .nil,hd⟩),rfl,q _ (I.hok.fresh (Nat.le_refl _))⟩
def J3 (ns:List Int):List Int:=ns.mergeSort λa b=>decide (a<=b)
def Gm (ns:List Int):(J3 ns).Perm ns:=List.mergeSort_perm ns _
def EW (ns:List Int):(J3 ns).Pairwise (· <= ·):=by
 have h:=List.pairwise_mergeSort (le:=λa b:Int=>decide (a<=b)) (λa b c h1 h2=>by rw[decide_eq_true_eq] at h1 h2⊢;omega) (λa b=>by rw[Bool.or_eq_true,decide_eq_true_eq,decide_eq_true_eq];omega) ns
 exact h.imp λh=>by simpa using h
def N9 {a b:List Int}(h:a.Perm b)(r:a.Pairwise (· <= ·)):a=J3 b:=List.Perm.eq_of_pairwise (le:=(· <= ·)) (λ_ _ _ _ h1 h2=>Int.le_antisymm h1 h2) r (EW b) (h.trans (Gm b).symm)
def NY:∀{ns:List Int}{vs:List Value},X0 (ns.map V.int) vs->IntsAre vs ns:=fun {ns}=>by
 induction ns with
 |nil=>intro vs h;cases h;exact .nil
 |cons n ns ih=>
  intro vs h
  cases h with
  |cons r t=>
   obtain⟨k,rfl⟩:=r
   exact .cons n k (ih t)
def OG (K:W.Frag):List V->Hp->VK->Prop:=λxs H Q=>∃ l ns,xs=[.ref l]/\SqL K H l (ns.map V.int)/\ns.length<64/\∀p,H p=none->Q (.ref p) (upd H p (.lst ((J3 ns).map V.int)))
def JQ (K:W.Frag)(hK:X.K=K):ZM X (.builtin "sorted") (OG K):=by
 subst hK
 intro aa s U H xs us Q I r h
 obtain⟨l,ns,rfl,hq,fw,q⟩:=h
 obtain⟨u,rfl,ru⟩:=VI r
 cases ru
 obtain⟨its,rv,pl,hz⟩:=I.list hq
 have af:=rv.length
 rw[List.length_map] at af
 refine sorted_ints pl.isList (NY rv) (by omega) λout ns' a1 a2 a3=>?_
 obtain⟨e,he⟩:=sortedAll_at s.heap its out
 have en:ns'=J3 ns:=N9 a2 a3
 have v:=Du a1
 rw[en] at v
 have fK:H (s.heap.objs.size+1)=none:=I.hok.fresh (Nat.le_succ _)
 refine⟨.ref (s.heap.objs.size+1),_,I.laid (t':=s.toks) (λb o e=>sortedAll_old e) (Nat.le_succ _) (show YR X.prog X.w _ _ _ (.lst ((J3 ns).map V.int)) from⟨?_,out.toList,e,v,he⟩),rfl,q _ fK⟩
 rw[List.length_map,(Gm ns).length_eq]
 rw[List.length_map] at hz
 exact hz
end
section
variable {o:Obj}
def HM {k:Key}(h:KZ k u=true):XW (kV k) u:=by
 cases k with
 |inl n=>
  cases u<;> simp[KZ,Value.isInt] at h
  subst h
  exact⟨_,rfl⟩
 |inr x=>
  cases u<;> simp[KZ,Value.isStrOf] at h
  subst h
  exact⟨_,rfl⟩
end
section
def KY {o:Obj}(hb:b≠a)(e:h.get? b=some o):(sortedHeap h a vs out).get? b=some o:=
 Heap.get?_update_of_ne _ hb.symm (Heap.get?_push_of_some _ (Heap.get?_push_of_some _ (Heap.get?_update_of_ne _ hb.symm e)))
end
section
variable [fd:FdOk Fd]{u:TS}
def B6 (h:Paired (Xf K H) xs ns):xs=ns.map V.int:=by
 induction h with
 |nil=>rfl
 |cons r _ ih=>rw[List.map_cons,ih,show _=V.int _ from r]
def N7 (ns:List Int):Paired (Xf K H) (ns.map V.int) ns:=by
 induction ns with
 |nil=>exact .nil
 |cons n ns ih=>exact .cons rfl ih
def Ez {ma:Rs (List Int)}(ha:EvL K Er S OO U ta Xf ma):Ev K Er S OO OO U (tCB (OG K) (Xm ta Yo)) (oL (oF Xf)) (ma.bind λas=>chk (as.length<64) (.ok (J3 as))):=λH Q w s P=>
 ha.run w s FO.tr P λas x H1 s1 w1 q1 ⟨p,xs,e,q,pr⟩ P1=>by
  obtain⟨hl,P2⟩:=PZ.chk P1
  exact⟨p,as,by rw[e],SqL.of (by rw[←B6 pr];exact q),hl,MX w1 (N7 _) P2⟩
def LP {d:List (Int×M)}(pr:Paired (rDP r K H) kvs d):kvs.map (λkv=>kv.1)=(d.map λkx=>kx.1).map Sum.inl:=by
 induction pr with
 |nil=>rfl
 |cons r _ ih=>rw[List.map_cons,List.map_cons,List.map_cons,r.1,ih]
def Ho (d ps:List (Int×M)):List (Int×M):=ps.foldl (λd p=>UM d p.1 p.2) d
def DR {ps:List (Int×M)}(h:Paired (rDP r K H) kvs ps):∀{acc:List (Key×V)}{d:List (Int×M)},Paired (rDP r K H) acc d->Paired (rDP r K H) (VG acc kvs) (Ho d ps):=by
 induction h with
 |nil=>intro acc d h;exact h
 | @cons kv kx _ _ r _ ih=>
  intro acc d h
  have:=Ko (k:=kx.1) r.2 h
  rw[←r.1] at this
  exact ih this
def Mi (hs:Xp h H){ps:List (Int×M)}(p:Paired (rP2 Xf r K h) xs ps):∃kvs,Paired (λp (kv:Key×V)=>∃ t,p= .ref t/\SqT K H t [kV kv.1,kv.2]) xs kvs/\Paired (rDP r K h) kvs ps:=by
 induction p with
 |nil=>exact⟨[], .nil, .nil⟩
 | @cons x pr _ _ q _ ih=>
  obtain⟨kvs,h1,h2⟩:=ih
  obtain⟨t,a,b,e,ht,e1,e2⟩:=q
  have e1:a= .int pr.1:=e1
  subst e1
  exact⟨(.inl pr.1,b)::kvs, .cons ⟨t,e,SqT.of (hs _ _ ht)⟩ h1, .cons ⟨rfl,e2⟩ h2⟩
def UJ [z:MonoE r]{ma:Rs (List (Int×M))}(ha:EvL K Er S OO U ta (rP2 Xf r) ma):Ev K Er S OO OO U (tCB (OU K) (Xm ta Yo)) (oD r) (ma.bind λps=>.ok (Ho [] ps)):=λH Q w s P=>
 ha.run w s FO.tr P λps x H1 s1 w1 q1 ⟨p,xs,e,q,pr⟩ P1=>by
  obtain⟨kvs,h1,h2⟩:=Mi (Xn (H:=H1) (OO:=OO)) pr
  refine⟨p,xs,kvs,by rw[e],SqL.of q,h1,λd hd=>?_⟩
  have hn:=VT (OO:=OO) hd (o:=.dK (VG [] kvs))
  exact P1 (.ref d) [(d, .dK (VG [] kvs))] _ (Xv hd _) (w1.new hd rfl) hn ⟨d,_,rfl,Paired.imp2 (λ_ _ h=>⟨h.1,z.mono hn h.2⟩) (DR h2 .nil),rfl⟩
end
section
end
section
end
section
variable [fd:FdOk Fd]{u:TS}
end
theorem Rx (h1:s.heap.get? l=some o1)(c1:o1.cls= .type "list")(h2:s.heap.get? b=some o2)(c2:o2.cls= .type "list")(hu:A.units<cLine)
  (h:wpAny (model prog w) A (call (.builtin "list.__lt__") [.ref l, .ref b]) (λv s'=>(∃k,v= .bool k)/\Q v s') E s):wpAny (model prog w) A (compareOp .Lt (.ref l) (.ref b)) Q E s:=by
 have t1:s.TypeIs (.ref l) "list":=⟨_,h1,c1⟩
 have t2:s.TypeIs (.ref b) "list":=⟨_,h2,c2⟩
 show wpAny _ _ (richCompare .Lt (.ref l) (.ref b)) _ _ _
 unfold richCompare
 refine wpAny_holding ?_
 refine wpAny_bind (wpAny_cRoomFor hu ?_)
 have hone:oneThing? .Lt (.ref l) (.ref b)=none:=rfl
 rw[hone]
 dsimp only
 refine wpAny_bind (wpAny_typeOf t1 ?_)
 refine wpAny_bind (wpAny_typeOf t2 ?_)
 rw[if_neg (by decide)]
 refine wpAny_bind (wpAny_pure ?_)
 rw[if_neg (by decide)]
 unfold tryCompare
 refine wpAny_bind (wpAny_bind (wpAny_callSpecialIfBound?_slot t1 F.slot_list_lt (thn h λv s' ⟨⟨k,e⟩,q⟩=>?_)))
 subst e
 exact wpAny_pure (wpAny_pure q)
def Km:entryFor table "list.__eq__.loop" =some Builtin.«list.__eq__.loop»:=entryFor_of_fast (by kernel_rfl)
def QC:plainId "list.__eq__.loop" =true:=by decide+kernel
section
end
section
def Ak [DecidableEq M](as:List M)(a:M)(k:Int):Rs Int:=chk (0<=k) ((Ob (as.drop k.toNat) a).bind λj=>.ok (k+j))
def E9 [DecidableEq M][z:InE r][y:MonoE r]{mb:Rs M}{mc:Rs Int}(ha:EvB K Er S OO U ta (rV r) ma)(hb:EvB K Er S OO U tb r mb)(hc:EvB K Er S OO U tc Xf mc):EvB K Er S OO U (tBM K "list" (HG K) ta (Xm tb (Xm tc Yo))) Xf (ma.bind λas=>mb.bind λa=>mc.bind λk=>Ak as a k):=λH Q w s P=>
 ha.run w s FB.tr P λas x H1 s1 w1 q1 ⟨p,xs,e,q,pr⟩ P1=>⟨by rw[e];exact .inl ⟨rfl,_,SqL.of q⟩,hb.run w1 q1 FB.tr P1 λb v H2 s2 w2 q2 r2 P2=>hc.run w2 q2 FB.tr P2 λk vk H3 s3 w3 q3 r3 P3=>by
  obtain⟨hk0,P4⟩:=PZ.chk P3
  have cV:=Paired.imp2 (G:=r K H3) (λ_ _ h=>y.mono (s2.trans s3) h) pr
  have fe:=y.mono s3 r2
  cases hi:Ob (as.drop k.toNat) b with
  |bad=>rw[hi] at P4;exact P4.elim
  |err x=>exact absurd hi HI
  |ok c=>
   rw[hi] at P4
   obtain⟨j,hj,rfl⟩:=MA hi
   obtain⟨h1,h2⟩:=Gk fe (Paired.drop' k.toNat cV) hj
   obtain⟨zz,hz1,hz2⟩:=h1
   rw[List.getElem?_drop] at hz1
   refine⟨p,xs,v,k.toNat,k.toNat+j,k,e,by rw[show vk= .int k from r3],by omega,SqL.of ((s2.trans s3) _ _ q),z.fl fe,(ZK fe cV).1,Nat.le_add_right _ _,⟨zz,hz1,hz2⟩,λm z hm1 hm2 hz=>?_,?_⟩
   ·refine h2 (m-k.toNat) z (by omega) ?_
    rw[List.getElem?_drop,show k.toNat+(m-k.toNat)=m by omega]
    exact hz
   ·have:=P4 (.int (k+(j:Int))) H3 (Xp.refl _) rfl
    rw[show((k.toNat+j:Nat):Int)=k+(j:Int) by omega]
    exact this⟩
end
section
def Oz (K:W.Frag):List V->Hp->VK->Prop:=λxs H Q=>∃ p ys,xs=[.ref p]/\((SqL K H p ys/\∀l,H l=none->Q (.ref l) (upd H l (.tup ys)))∨(SqT K H p ys/\Q (.ref p) H))
def KU (K:W.Frag)(h:X.K=K):ZM X (.type "tuple") (Oz K):=by subst h;exact Gr
def Hu [z:MonoE r](ha:EvB K Er S OO U ta (rV r) ma):EvB K Er S OO U (tCB (Oz K) (Xm ta Yo)) (rPL r) (ma.bind λa=>.ok a):=λH Q w s P=>
 ha.run w s FB.tr P λa x H1 s1 w1 q1 r9 P1=>by obtain⟨p,xs,e,q,pr⟩:=r9;exact⟨p,xs,by rw[e], .inl ⟨SqL.of q,λl hl=>P1 (.ref l) _ (Xv hl _) ⟨l,xs,rfl,X9,Paired.imp2 (λ_ _ h=>z.mono (Xv hl _) h) pr⟩⟩⟩
def tk (k:List Int):List Key:=k.map Sum.inl
variable [fd:FdOk Fd]{u:TS}
end
section
variable [DecidableEq M]{d:Nat}
open Classical in
end
section
end
section
def Inv.turns {t':Nat}{ch:List Addr}(I:Inv X aa U H s)(k:∀b o,b∉ch->s.heap.get? b=some o->h'.get? b=some o)(hf:∀b∈ch,DZ X aa H b):Inv X aa U H {s with heap:=h',toks:=t'}:=by
 have gi:∀b o,H b=some o->b∉ch:=λb o e z=>by rw[(hf b z).1] at e;cases e
 refine I.step (g':=s.gens) (d':=s.drawn) (ch:=ch) (λb hb=>?_) (λb o _ _ hc e _=>k b o hc e) (λb o _ _ hc e _=>⟨o.slots,k b o hc e⟩)
  (λb o _ e n=>n) (λb o hc e=>⟨o,k b o hc e⟩) (λb xs e=>e) (λb o xs e=>e) (λb ps e=>⟨#[],by rw[e];simp⟩) (λm hm=>?_) (λb v e=>?_) I.bare
 ·obtain⟨f0,f1,f2,f3,f4,f5⟩:=hf b hb
  exact⟨f3,f1,f4,f5⟩
 ·obtain⟨o,es,ep,ho,r⟩:=hm
  exact⟨o,es,ep,k _ o (λz=>(hf _ z).2.1 rfl) ho,r⟩
 ·refine(I.hok b v e).stay (λc o hc q=>k c o ?_ q) (λc q=>q) λc xs q=>q
  rcases hc with z |z
  ·rw[z];exact gi b v e
  ·exact gi c _ z
end
def Itz (K:W.Frag)(a b:Addr):It:=
 ⟨λi H=>∃ xs ys x y,SqL K H a xs/\SqL K H b ys/\xs[i]?=some x/\ys[i]?=some y,λi H v H'=>∃ p x y,v= .ref p/\H p=none/\H'=upd H p (.tup [x,y])/\(∀xs,SqL K H a xs->xs[i]?=some x)/\∀ys,SqL K H b ys->ys[i]?=some y,
  λi H=>∃ xs ys,SqL K H a xs/\SqL K H b ys/\(xs.length<=i∨ys.length<=i)⟩
def AV {u x:Addr}(h:b∉ [z,t,u,v,x]):b≠z/\b≠t/\b≠u/\b≠v/\b≠x:=⟨λe=>h (e▸ .head _),λe=>h (e▸ .tail _ (.head _)),λe=>h (e▸ .tail _ (.tail _ (.head _))),λe=>h (e▸ .tail _ (.tail _ (.tail _ (.head _)))),λe=>h (e▸ .tail _ (.tail _ (.tail _ (.tail _ (.head _)))))⟩
def qj {p:Addr->Prop}{u x:Addr}(h1:p z)(h2:p t)(h3:p u)(h4:p v)(h5:p x):∀b∈[z,t,u,v,x],p b:=
 List.forall_mem_cons.mpr ⟨h1,List.forall_mem_cons.mpr ⟨h2,List.forall_mem_cons.mpr ⟨h3,List.forall_mem_cons.mpr ⟨h4,List.forall_mem_cons.mpr ⟨h5,λ_ h=>(List.not_mem_nil h).elim⟩⟩⟩⟩⟩
def Od {TI TO i1 i2 l1 l2:Addr}(ap:ZipApart z TI TO i1 i2 l1 l2):
  Turn P w K (.Tuple elts k pos) (Itz K l1 l2) [z,TI,TO,i1,i2] z (λi h=>IsZip h z TI TO .none/\IsPair h TI (.ref i1) (.ref i2)/\(∃a b,IsPair h TO a b)/\h.IsListIter i1 l1 i/\h.IsListIter i2 l2 i) where
 mem:=.head _
 obj:=λi h st=>by
  obtain⟨h1,h2,⟨a,c,h3⟩,⟨o4,h4,c4,d4⟩,⟨o5,h5,c5,d5⟩⟩:=st
  exact qj ⟨_,h1,λv z=>by cases z⟩ ⟨_,h2,λv z=>by cases z⟩ ⟨_,h3,λv z=>by cases z⟩ ⟨o4,h4,λv z=>by rw[d4] at z;cases z⟩ ⟨o5,h5,λv z=>by rw[d5] at z;cases z⟩
 keep:=λi h h' st k=>⟨k z (.head _) _ st.1,k TI (.tail _ (.head _)) _ st.2.1,let ⟨a,b,q⟩:=st.2.2.1;⟨a,b,k TO (.tail _ (.tail _ (.head _))) _ q⟩,st.2.2.2.1.at λo q=>k i1 (.tail _ (.tail _ (.tail _ (.head _)))) o q,st.2.2.2.2.at λo q=>k i2 (.tail _ (.tail _ (.tail _ (.tail _ (.head _))))) o q⟩
 item:=by
  intro X hP hw hK hc i aa s U H E I hf st hg
  subst hP hw hK
  obtain⟨xs,ys,x,y,iE,iF,hx,hy⟩:=hg
  obtain⟨jl,iG,p1,_⟩:=I.list iE
  obtain⟨aA,fO,p2,_⟩:=I.list iF
  obtain⟨u,hu,ru⟩:=iG.get hx
  obtain⟨v,hv,rv⟩:=fO.get hy
  obtain⟨h1,h2,⟨a,c,h3⟩,h4,h5⟩:=id st
  refine wpAny_pyNext_zip_item ap h1 h2 h3 h4 h5 p1.isList p2.isList (x:=u) (y:=v) (by simpa using hu) (by simpa using hv) λh' z' TO' i1' i2' tup sz kk=>?_
  have hT:∀b o,s.heap.get? b=some o->s.heap.objs.size≠b:=λb o q z=>absurd (Heap.lt_size q) (by rw[←z];exact Nat.lt_irrefl _)
  have tz:=hT z _ h1
  have tTI:=hT TI _ h2
  have tTO:=hT TO _ h3
  have t1:s.heap.objs.size≠i1:=by obtain⟨o,q,_⟩:=h4;exact hT i1 o q
  have t2:s.heap.objs.size≠i2:=by obtain⟨o,q,_⟩:=h5;exact hT i2 o q
  refine⟨_,rfl,wpAny_letOwnedTupleGo_zip z' λiz z'' sb=>?_⟩
  have k1:∀b o,b≠z->h'.get? b=some o->iz.get? b=some o:=λb o hb e=>(sb.2 b hb).trans e
  have k2:∀b o,b∉ [z,TI,TO,i1,i2]->s.heap.get? b=some o->iz.get? b=some o:=λb o q1 q=>let f:=AV q1;k1 b o f.1 (kk b o f.1 f.2.2.1 f.2.2.2.1 f.2.2.2.2 q)
  refine⟨.ref s.heap.objs.size,upd H s.heap.objs.size (.tup [x,y]),I.turnLay (h':=iz) (t':=s.toks) k2 hf (Nat.le_refl _) ⟨by show 2<=sizeLine;decide,[u,v], .cons ru (.cons rv .nil),⟨_,k1 _ _ tz tup,⟨rfl,rfl⟩,_,rfl⟩⟩,rfl,
   ⟨_,x,y,rfl,I.hok.fresh (Nat.le_refl _),rfl,λzs hz=>by rw[I.list_inj hz iE];exact hx,λzs hz=>by rw[I.list_inj hz iF];exact hy⟩,⟨z'',k1 _ _ ap.TIz (kk _ _ ap.TIz ap.TITO ap.TIi1 ap.TIi2 h2),⟨_,_,k1 _ _ ap.TOz TO'⟩,i1'.at λo q=>k1 _ _ ap.i1z q,i2'.at λo q=>k1 _ _ ap.i2z q⟩,λb hb=>?_⟩
  exact(XH (qj (p:=λb=>b≠s.heap.objs.size) tz.symm tTI.symm tTO.symm t1.symm t2.symm b hb)).trans (hf b hb).1
 done:=by
  intro X hP hw hK hc i aa s U H E I hf st hg
  subst hP hw hK
  obtain⟨xs,ys,iE,iF,hx⟩:=hg
  obtain⟨jl,iG,p1,_⟩:=I.list iE
  obtain⟨aA,fO,p2,_⟩:=I.list iF
  obtain⟨h1,h2,⟨a,c,h3⟩,h4,h5⟩:=id st
  have hl1:=iG.length
  have fr:=fO.length
  refine wpAny_pyNext_zip_end (I.ok.hd hc) ap h1 h2 h3 h4 h5 p1.isList p2.isList (hx.elim (λh=>.inl (by simp;omega)) λh=>.inr (by simp;omega)) λh' kk=>⟨rfl,I.turns (t':=s.toks) (ch:=[z,TI,TO,i1,i2]) (λb o q1 q=>let f:=AV q1;kk b o f.1 f.2.2.1 f.2.2.2.1 f.2.2.2.2 q) hf⟩
 self:=λ_ _ _ _ _ st h=>wpAny_pyIter_zip st.1 h
section
variable {gO:Pos}
def qg (K:W.Frag)(t:TA):TI:=λU H R=>t U H λvs H1=>∃ a b,vs=[.ref a, .ref b]/\(∃xs,SqL K H1 a xs)/\(∃ys,SqL K H1 b ys)/\R (Itz K a b) H1
def Wr {t:TA}{p:Pos}(K:W.Frag)(hK:X.K=K)(hg:Gl X "zip")(hm:X.mg "zip" =none)(ha:PA X (e::es) t)
  (he:starEach (e::es) X.env=(false,eval e X.env)::starEach es X.env:=by rfl)(hpl:(backTo pos (starEach es X.env)).any (·.1)=false:=by rfl):PI X (.Tuple elts k gO) (.Call (.Name "zip" p) (e::es) [] pos) (qg K t):=by
 subst hK
 intro aa s U H R I h
 refine wpAny_Call_Name_kw (JP I hg hm boot_zip ?_)
 refine callWith_type1 (thn (ha pos aa s U H _ I h) λus s1 r9=>?_) he hpl
 obtain⟨vs,H1,I1,r1,q1⟩:=r9
 obtain⟨a,b,rfl,⟨xs,iE⟩,⟨ys,iF⟩,q⟩:=q1
 obtain⟨u,v,rfl,ru,rv⟩:=X0.two r1
 cases ru
 cases rv
 obtain⟨jl,_,pl1,_⟩:=I1.list iE
 obtain⟨aA,_,pl2,_⟩:=I1.list iF
 have l1:a<s1.heap.objs.size:=by obtain⟨o,n,ho,_⟩:=pl1;exact Heap.lt_size ho
 have l2:b<s1.heap.objs.size:=by obtain⟨o,n,ho,_⟩:=pl2;exact Heap.lt_size ho
 refine call_zip_2 pl1.isList pl2.isList λh' hz hTI hTO i1 i2 sz kk=>?_
 refine wpAny_pyIter_zip hz ?_
 have hge:∀c:Nat,s1.heap.objs.size<=c->DZ X aa H1 c:=λc hc=>I1.fpOk hc (I1.hok.fresh hc)
 generalize s1.heap.objs.size=n0 at l1 l2 hz hTI hTO i1 i2 hge⊢
 have l1': @LT.lt Nat _ a n0:=l1
 have l2': @LT.lt Nat _ b n0:=l2
 have ap:ZipApart (n0+4) (n0+2) (n0+3) n0 (n0+1) a b:=by
  constructor<;> (intro z;have z: @Eq Nat _ _:=z;omega)
 refine⟨_,[n0+4,n0+2,n0+3,n0,n0+1],_,_,H1,rfl,I1.kept (t':=s1.toks) kk,Od ap,⟨hz,hTI,⟨_,_,hTO⟩,i1,i2⟩,λc hb=>hge c ?_,q⟩
 simp only[List.mem_cons,List.not_mem_nil,or_false] at hb
 rcases hb with rfl |rfl |rfl |rfl |rfl
 ·exact Nat.le_add_right _ _
 ·exact Nat.le_add_right _ _
 ·exact Nat.le_add_right _ _
 ·exact Nat.le_refl _
 ·exact Nat.le_add_right _ _
end
section
def Op {q:Enc B}[z:MonoE r][y:MonoE q]{mb:Rs (List B)}(ha:EvS K Er S OO U ta (rV r) ma)(hb:EvS K Er S OO U tb (rV q) mb):Walk K Er S OO U (qg K (Xm ta (Xm tb Yo))) (rP2 r q) (ma.bind λas=>mb.bind λbs=>.ok (as.zip bs)):=⟨fun {H R} w s P=>by
 refine ha H _ w s ?_
 cases em:ma with
 |bad=>rw[em] at P;exact P
 |err x=>rw[em] at P;exact P
 |ok as=>
  rw[em] at P
  intro v H1 s1 ⟨p,xs,e,hp,pr⟩
  refine hb H1 _ (w.keep s1) (S.mono _ _ (Xh s1) s) ?_
  have P1:PZ Er _ H (mb.bind λbs=>.ok (as.zip bs)):=P
  cases en:mb with
  |bad=>rw[en] at P1;exact P1
  |err x=>rw[en] at P1;exact λH2 s2=>P1 H2 (s1.trans s2)
  |ok bs=>
   rw[en] at P1
   intro v2 H2 s2 ⟨p2,ys,e2,cT,cV⟩
   have di:=Xh (OO:=OO) s2 _ _ hp
   refine⟨p,p2,by rw[e,e2],⟨xs,SqL.of (Xn _ _ di)⟩,⟨ys,SqL.of (Xn _ _ cT)⟩,P1 _ H2 (s1.trans s2) ?_ ?_⟩
   ·intro i c hc bp H3 w3 m3
    rw[List.getElem?_zip_eq_some] at hc
    obtain⟨x,hx,rx⟩:=Paired.getR pr hc.1
    obtain⟨x2,dS,rx2⟩:=Paired.getR cV hc.2
    have q1:SqL K H3 p xs:=SqL.of (Xn _ _ (m3 _ _ di))
    have q2:SqL K H3 p2 ys:=SqL.of (Xn _ _ (m3 _ _ cT))
    refine⟨⟨xs,ys,x,x2,q1,q2,hx,dS⟩,λyv H4 h4=>?_⟩
    obtain⟨b,x',y',rfl,hb,rfl,g1,g2⟩:=h4
    have e1:=g1 xs q1
    have e3:=g2 ys q2
    rw[hx] at e1
    rw[dS] at e3
    cases e1
    cases e3
    refine⟨Xv hb _,⟨b,x,x2,rfl,Z9 w3 hb,z.mono (((Xh s2).trans m3).trans (Xh (Xv hb _))) rx,y.mono (m3.trans (Xh (Xv hb _))) rx2⟩⟩
   ·intro bp H3 w3 m3
    refine⟨xs,ys,SqL.of (Xn _ _ (m3 _ _ di)),SqL.of (Xn _ _ (m3 _ _ cT)),?_⟩
    rw[List.length_zip,Paired.len pr,Paired.len cV]
    omega⟩
end
section
end
section
variable [fd:FdOk Fd]{u:TS}
end
section
variable {u:TS}
end
section
end
section
end
section
variable {o:Obj}
end
section
end
section
variable {OO3:List (List XD)}{ζ:Type}
variable [fd:FdOk Fd]{u:TS}
def Iw {q:Enc B}{m:Rs (M×B×δ)}(ha:EvB K Er S OO U ta (rP3 r q t) m):EvB K Er S OO U (tCB (Gj K) (Xm ta Yo)) Xf (m.bind λ_=>.ok (3:Int)):=λH Q w s P=>
 ha.run w s FB.tr P λa x H1 s1 w1 q1 r9 P1=>by obtain⟨p,x1,x2,x3,e,q,h1,h2,h3⟩:=r9;exact⟨p,[x1,x2,x3],by rw[e], .inr (SqT.of q),P1 _ H1 (Xp.refl _) rfl⟩
def oT3 (o:OE M)(q:OE L)(t:OE B):OE (M×L×B):=λK h v a C=>∃ p x y z C1 C2 C3,v= .ref p/\h p=some (.tup [x,y,z])/\o K h x a.1 C1/\q K h y a.2.1 C2/\t K h z a.2.2 C3/\C=C1++(C2++C3)
instance {o:OE M}{q:OE L}{t:OE B}[m:MonoO o][n:MonoO q][k:MonoO t]:MonoO (oT3 o q t):=⟨λs r9=>by obtain⟨p,x,y,z,C1,C2,C3,e,h,h1,h2,h3,c⟩:=r9;exact⟨p,x,y,z,C1,C2,C3,e,s _ _ h,m.mono s h1,n.mono s h2,k.mono s h3,c⟩⟩
instance {o:OE M}{q:OE L}{t:OE B}[m:FlatO o][n:FlatO q][k:FlatO t]:FlatO (oT3 o q t):=⟨λs r9=>by obtain⟨p,x,y,z,C1,C2,C3,e,h,h1,h2,h3,c⟩:=r9;exact⟨p,x,y,z,C1,C2,C3,e,s _ _ h rfl,m.flat s h1,n.flat s h2,k.flat s h3,c⟩⟩
instance {o:OE M}{q:OE L}{t:OE B}{ro:Enc M}{rq:Enc L}{rt:Enc B}[m:FrzC o ro][n:FrzC q rq][k:FrzC t rt]:FrzC (oT3 o q t) (rP3 ro rq rt):=⟨λ⟨p,x,y,z,C1,C2,C3,e,h,h1,h2,h3,c⟩ s hc=>by
 subst c
 exact⟨p,x,y,z,e,s _ _ h,m.frz h1 s λc hm=>hc c (by simp[hm]),n.frz h2 s λc hm=>hc c (by simp[hm]),k.frz h3 s λc hm=>hc c (by simp[hm])⟩⟩
end
section
variable {ζ:Type}
variable [fd:FdOk Fd]{u:TS}
def Uz {ma:Rs Bool}(ha:EvB K Er S OO U ta XO ma):EvB K Er S OO U (tCB (λxs H Q=>(∃i,xs=[.int i]/\Q (.int i) H)∨∃k,xs=[.bl k]/\Q (.int (if k then 1 else 0)) H) (Xm ta Yo)) Xf (ma.bind λb=>.ok (if b=true then(1:Int) else 0)):=λH Q w s P=>
 ha.run w s FB.tr P λb x H1 s1 w1 q1 r1 P1=>.inr ⟨b,by rw[show x= .bl b from r1],P1 _ H1 (Xp.refl _) rfl⟩
end
section
variable {ζ:Type}
variable [fd:FdOk Fd]{u:TS}
end
section
variable {ζ:Type}
variable [fd:FdOk Fd]{u:TS}
end
end L2
namespace L2
open PySem
end L2
namespace L2
open PySem PySem.Spec PyProof.Rows
def dd (l:List Int):List Int:=l.foldl step_dedup []
section
end
section
end
section
variable {Mqz:Model}
end
section
variable {o:Obj}{es:Array (Int×Value)}{ep:Nat}{t:SetTable}
end
section
variable {tp:Addr}{o:Obj}{es:Array (Int×Value)}{ep:Nat}{t:SetTable}{Lqz:List (Int×Value)}
end
section
variable {tp:Addr}{o:Obj}{es:Array (Int×Value)}{ep:Nat}{t:SetTable}{Lqz:List (Int×Value)}
end
section
end
section
variable {u:TS}
variable [fd:FdOk Fd]
end
section
end
section
variable {E:XK}
end
section
def O5 (K:W.Frag):R2:=λx y H Q=>∃ a b xs ys,x= .ref a/\y= .ref b/\SqT K H a xs/\SqT K H b ys/\ys≠ []/\xs.length+ys.length<=sizeLine/\
 (xs=[]->Q (.ref b) H)/\(xs≠ []->∀p,H p=none->Q (.ref p) (upd H p (.tup (xs++ys))))
def Uv (K:W.Frag)(hK:X.K=K):OpR X (binaryOp .Add) (O5 K):=by
 subst hK
 intro aa s U H x y v u Q I rx ry h
 obtain⟨a,b,xs,ys,e1,e2,ha,hb,hy,hz,q1,q2⟩:=h
 by_cases hx:xs=[]
 ·subst e1 e2
  cases rx
  cases ry
  obtain⟨its,r1,p1,_⟩:=I.tuple ha
  obtain⟨aA,r2,p2,_⟩:=I.tuple hb
  obtain⟨⟨cls,dd,data,sl⟩,ho,hc,n,hd⟩:=id p1
  obtain⟨⟨cls2,dd2,data2,sl2⟩,eA,eP,n2,fH⟩:=id p2
  simp only at hc hd eP fH
  subst hc hd eP fH
  have e0:its=[]:=r1.nil_iff.mpr hx
  exact concat_meets ⟨_,ho,rfl⟩ ⟨_,eA,rfl⟩ noFill_tuple_add seq_tuple_add PySem.F.slot_tuple_add PySem.F.entry_tuple_add (PySem.F.args_tuple_add_2 _ _)
   (tuple_addW0 a b its.toArray aA.toArray n n2 dd dd2 sl sl2 (by simp[e0])) ⟨ho,eA,⟨.ref b,H,I,rfl,q1 hx⟩⟩
 ·exact Pn aa s U H x y v u Q I rx ry ⟨a,b,xs,ys,e1,e2,ha,hb,hx,hz,λz=>absurd z hy,λ_=>q2 hx⟩
end
section
def Ux [z:MonoE r]{mb:Rs (List M)}(ha:EvB K Er S OO U ta (rPL r) ma)(hb:EvB K Er S OO U tb (rPL r) mb):EvB K Er S OO U (tOp (O5 K) ta tb) (rPL r) (ma.bind λas=>mb.bind λbs=>chk (0<bs.length/\as.length+bs.length<=sizeLine) (.ok (as++bs))):=λH Q w s P=>
 ha.run w s FB.tr P λas x H1 s1 w1 q1 ⟨p,xs,e,q,pr⟩ P1=>hb.run w1 q1 FB.tr P1 λbs y H2 s2 w2 q2 ⟨p',ys,e',q',eF⟩ P2=>by
  obtain⟨⟨h1,h2⟩,P3⟩:=PZ.chk P2
  have hl:=Paired.len pr
  have iX:=Paired.len eF
  have cV:Paired (r K H2) xs as:=Paired.imp2 (λ_ _ h=>z.mono s2 h) pr
  refine⟨p,p',xs,ys,e,e',SqT.of (s2 _ _ q),SqT.of q',λz=>by rw[z] at iX;simp at iX;omega,by rw[hl,iX];exact h2,λhz=>?_,λ_ a ha=>P3 _ _ (Xv ha _) ⟨a,_,rfl,X9,Paired.imp2 (λ_ _ h=>z.mono (Xv ha _) h) (Paired.app cV eF)⟩⟩
  subst hz
  have ha:as=[]:=List.length_eq_zero_iff.mp (by rw[←hl];rfl)
  subst ha
  exact P3 _ H2 (Xp.refl _) ⟨p',ys,rfl,q',eF⟩
variable {u:TS}[fd:FdOk Fd]
end
section
variable {u:TS}[fd:FdOk Fd]
end
section
end
def ltG [DecidableEq M](lt:M->M->Bool):List M->List M->Bool
 |_,[]=>false
 | [],_::_=>true
 |a::as,b::bs=>if a=b then ltG lt as bs else lt a b
def qH (A:Around)(s:Shared)(v u:Value)(b:Bool):Prop:=
 ∀(prog:Program) (w:World) (E:Value->Shared->Prop) (Q:Value->Shared->Prop),Q (.bool b) s->wpAny (model prog w) A (richCompare .Lt v u) Q E s
structure LtOk {M:Type}(r:Enc M)(lt:M->M->Bool)(d:Nat):Prop where
 at':∀{X:Cx}{aa:List (Addr×Obj)}{U:St}{H:Hp}{s:Shared}{x y:V}{v u:Value}{a b:M}{A:Around},Inv X aa U H s->XW x v->XW y u->r X.K H x a->r X.K H y b->A.units+d<cLine->qH A s v u (lt a b)
def ltI (a b:Int):Bool:=decide (a<b)
def lt_int:LtOk Xf ltI 0:=⟨fun {X aa U H s x y v u a b A} I rx ry h1 h2 _ prog w E Q q=>by
 have e1:x=V.int a:=h1
 have e2:y=V.int b:=h2
 subst e1 e2
 obtain⟨t,rfl⟩:=rx
 obtain⟨t',rfl⟩:=ry
 exact CmpOf.ints_lt (P:=λj v=>∃ t,v= .int (if j=0 then a else b) t) (λj=>if j=0 then a else b) (λ_ _ h=>h) 0 1 _ _ _ _ _ ⟨t,rfl⟩ ⟨t',rfl⟩ q⟩
section
variable [DecidableEq M]{lt:M->M->Bool}{d:Nat}
def Fq:ltG lt as []=false:=by cases as<;> rfl
def qG (E:EqOk r d)(Lqz:LtOk r lt d)(I:Inv X aa U H s){m:Nat}(d1:o1.data= .seq i1.toArray n)(d2:o2.data= .seq i2.toArray m)
  (v1:X0 xs i1)(v2:X0 ys i2)(p1:Paired (r X.K H) xs as)(p2:Paired (r X.K H) ys bs)(g1:s.heap.get? l=some o1)(g2:s.heap.get? b=some o2)(hu:A.units+(d+1)<cLine):
  ∀(k i:Nat),as.length-i=k->i<=as.length->i<=bs.length->R (.ok (.ret (.bool (ltG lt (as.drop i) (bs.drop i))))) s->
  codeAny (model prog w) A (.builtin "list.__eq__.loop" ⟨[.ref l, .ref b,rawInt i,rawInt 0],[]⟩) R s:=by
 have n1:as.length=i1.length:=by rw[←Paired.len p1];exact v1.length
 have n2:bs.length=i2.length:=by rw[←Paired.len p2];exact v2.length
 intro k
 induction k with
 |zero=>
  intro i hk jm fz q
  refine codeAny_builtin Km ?_
  rw[Around.under_plainId QC _]
  show wpAny _ A.in1 (Builtin.List.listItems (.ref l) >>= _) _ _ s
  refine wpAny_bind (wpAny_listItems g1 d1 (wpAny_bind (wpAny_listItems g2 d2 ?_)))
  rw[show((i:Nat):Int).toNat=i from rfl,show i1.toArray[i]?=none by simp;omega]
  refine wpAny_bind (wpAny_listItems g1 d1 (wpAny_bind (wpAny_listItems g2 d2 (wpAny_pure ?_))))
  have e:ltG lt (as.drop i) (bs.drop i)=decide (i1.toArray.size<i2.toArray.size):=by
   rw[List.drop_eq_nil_of_le (show as.length<=i by omega)]
   cases hd:bs.drop i with
   |nil=>
    have:=congrArg List.length hd
    simp at this
    rw[Fq,decide_eq_false (by simp;omega)]
   |cons x t=>
    have:=congrArg List.length hd
    simp at this
    exact(decide_eq_true (show i1.toArray.size<i2.toArray.size by simp;omega)).symm
  rw[e] at q
  exact q
 |succ k ih=>
  intro i hk jm fz q
  have lt1:i<as.length:=by omega
  refine codeAny_builtin Km ?_
  rw[Around.under_plainId QC _]
  show wpAny _ A.in1 (Builtin.List.listItems (.ref l) >>= _) _ _ s
  refine wpAny_bind (wpAny_listItems g1 d1 (wpAny_bind (wpAny_listItems g2 d2 ?_)))
  rw[show((i:Nat):Int).toNat=i from rfl]
  have f1:i1.toArray[i]?=some i1[i]:=by simp
  obtain⟨x,ex,rx⟩:=Paired.getR (i:=i) (b:=i1[i]) v1 (by simp)
  obtain⟨a,ea,ra⟩:=Paired.getL p1 ex
  have dx:as.drop i=a::as.drop (i+1):=by rw[List.drop_eq_getElem_cons lt1, ←(List.getElem?_eq_some_iff.mp ea).2]
  rw[f1]
  by_cases lt2:i<bs.length
  ·have f2:i2.toArray[i]?=some i2[i]:=by simp
   obtain⟨y,ey,ry⟩:=Paired.getR (i:=i) (b:=i2[i]) v2 (by simp)
   obtain⟨c,ec,rc⟩:=Paired.getL p2 ey
   have dy:bs.drop i=c::bs.drop (i+1):=by rw[List.drop_eq_getElem_cons lt2, ←(List.getElem?_eq_some_iff.mp ec).2]
   rw[dx,dy,ltG] at q
   rw[f2]
   show wpAny _ _ (eqBool i1[i] i2[i] >>= _) _ _ _
   refine wpAny_bind (E.eq (A:=A.in1) I rx ry ra rc (by rw[YM];omega) _ _ _ _ ?_)
   by_cases hac:a=c
   ·rw[if_pos hac] at q
    rw[if_pos (by simpa using hac)]
    exact wpAny_pure ⟨plainId_quiet QC _,ih (i+1) (by omega) (by omega) (by omega) q⟩
   ·rw[if_neg hac] at q
    rw[if_neg (by simpa using hac)]
    refine wpAny_bind (wpAny_listItems g1 d1 (wpAny_bind (wpAny_listItems g2 d2 ?_)))
    rw[f1,f2]
    show wpAny _ _ (richCompare .Lt i1[i] i2[i] >>= _) _ _ _
    exact wpAny_bind (Lqz.at' (A:=A.in1) I rx ry ra rc (by rw[YM];omega) _ _ _ _ (wpAny_pure q))
  ·rw[show i2.toArray[i]?=none by simp;omega]
   refine wpAny_bind (wpAny_listItems g1 d1 (wpAny_bind (wpAny_listItems g2 d2 (wpAny_pure ?_))))
   rw[List.drop_eq_nil_of_le (show bs.length<=i by omega),Fq, ←decide_eq_false (show ¬i1.toArray.size<i2.toArray.size by simp;omega)] at q
   exact q
theorem Mr (E:EqOk r d)(Lqz:LtOk r lt d)(I:Inv X aa U H s){Er:Value->Shared->Prop}{x y:V}(rx:XW x v)(ry:XW y u)(h1:rL r X.K H x as)(h2:rL r X.K H y bs)(hu:A.units+(d+1)<cLine)(q:Q (.bool (ltG lt as bs)) s):
  ∃l b o1 o2,v= .ref l/\u= .ref b/\s.heap.get? l=some o1/\o1.cls= .type "list" /\s.heap.get? b=some o2/\o2.cls= .type "list" /\wpAny (model prog w) A (call (.builtin "list.__lt__") [.ref l, .ref b]) Q Er s:=by
 obtain⟨l,xs,rfl,q1,p1⟩:=h1
 obtain⟨b,ys,rfl,q2,p2⟩:=h2
 cases rx
 cases ry
 obtain⟨i1,v1,⟨o1,n1,g1,c1,_,d1⟩,_⟩:=I.list q1
 obtain⟨i2,v2,⟨o2,n2,g2,c2,_,d2⟩,_⟩:=I.list q2
 have me:Meets (Builtin.«list.__lt__» ⟨[.ref l, .ref b],[]⟩) λA' R s'=>s'=s/\A'.units+(d+1)<cLine/\R (.ok (.ret (.bool (ltG lt as bs)))) s':=by
  rintro prog w A' R s' ⟨rfl,eE,q'⟩
  show wpAny _ _ (slotArgs "__lt__" 1 ⟨[.ref l, .ref b],[]⟩ >>= _) _ _ _
  refine wpAny_bind (wpAny_pure (wpAny_bind (wpAny_isInstance ⟨_,g2,c2⟩ (by first |rfl |kernel_rfl) ?_)))
  rw[if_neg (by decide)]
  show wpAny _ _ (if(CmpOp.Lt==CmpOp.Eq || CmpOp.Lt==CmpOp.NotEq)=true then _ else _) _ _ _
  rw[if_neg (by decide)]
  exact wpAny_pure ⟨plainId_quiet QC _,qG E Lqz I d1 d2 v1 v2 p1 p2 g1 g2 eE as.length 0 rfl (Nat.zero_le _) (Nat.zero_le _) (by simpa using q')⟩
 exact⟨l,b,o1,o2,rfl,rfl,g1,c1,g2,c2,call_meets F.slot_list_lt ⟨_,g1,c1⟩ F.entry_list_lt (F.args_list_lt_2 _ _) me ⟨rfl,hu,q⟩⟩
def N6 (E:EqOk r d)(Lqz:LtOk r lt d):LtOk (rL r) (ltG lt) (d+1):=⟨fun {X aa U H s x y v u as bs A} I rx ry h1 h2 hu prog w Er Q q=>by
 obtain⟨l,b,o1,o2,rfl,rfl,g1,c1,g2,c2,h⟩:=Mr E Lqz I (prog:=prog) (w:=w) (A:=A) (Er:=Er) rx ry h1 h2 hu (Q:=λv s'=>(∃k,v= .bool k)/\Q v s') ⟨⟨_,rfl⟩,q⟩
 exact Rx g1 c1 g2 c2 (by omega) h⟩
def LtOk.imp {q:Enc M}(Lqz:LtOk r lt d)(h:∀{K:W.Frag}{H:Hp}{v:V}{a:M},q K H v a->r K H v a):LtOk q lt d:=⟨λI rx ry h1 h2 hu=>Lqz.at' I rx ry (h h1) (h h2) hu⟩
def T4 {q:Enc M}(h:rV q K H v as):rL q K H v as:=by
 obtain⟨a,xs,e,q,p⟩:=h
 exact⟨a,xs,e,SqL.of q,p⟩
end
section
def kp (kf:Value->M)(d:M)(xs:Array Keyed)(i:Nat):M:=(xs[i]?.map λp=>kf p.1).getD d
def NR {d:M}{xs:Array Keyed}(h:xs[i]?=ys[j]?):kp kf d xs i=kp kf d ys j:=by unfold kp;rw[h]
structure Ord (lt:M->M->Bool):Prop where
 irr:∀a,lt a a=false
 tr:∀{a b c},lt a b=true->lt b c=true->lt a c=true
structure SB (κ:SortKind)(a0:Array Keyed)(st:SortSt):Prop where
 perm:(arrOf st).Perm a0
 kind:kindOf st=κ
 failed:failedOf st=none
 pend:pendingOf st= #[]
def SB.size {κ:SortKind}{a0:Array Keyed}{st:SortSt}(h:SB κ a0 st):(arrOf st).size=a0.size:=h.perm.size_eq
def SB.setArr {κ:SortKind}{a0:Array Keyed}{st:SortSt}(h:SB κ a0 st){xs:Array Keyed}(hp:xs.Perm (arrOf st)):SB κ a0 (setArr st xs):=⟨hp.trans h.perm,h.kind,h.failed,h.pend⟩
structure Asks (prog:Program)(w:World)(A:Around)(E:Value->Shared->Prop)(s:Shared)(κ:SortKind)(lt:M->M->Bool)(kf:Value->M)(d:M)(a0:Array Keyed):Prop extends Ord lt where
 ask:∀{st:SortSt}{i j:Nat}{Q:Option Bool->SortSt->Prop},SB κ a0 st->i<a0.size->j<a0.size->Q (some (lt (kp kf d (arrOf st) i) (kp kf d (arrOf st) j))) st->wpS (model prog w) A E s (ltAt' i j) Q st
 two:∀{st:SortSt}{i j:Nat},SB κ a0 st->i<a0.size->j<a0.size->i≠j->lt (kp kf d (arrOf st) i) (kp kf d (arrOf st) j)=true∨lt (kp kf d (arrOf st) j) (kp kf d (arrOf st) i)=true
variable {κ:SortKind}{lt:M->M->Bool}{kf:Value->M}{d:M}{a0:Array Keyed}
def Ris (lt:M->M->Bool)(k:Nat->M)(n:Nat):Prop:=∀ i j,i<j->j<n->lt (k i) (k j)=true
def Fal (lt:M->M->Bool)(k:Nat->M)(n:Nat):Prop:=∀ i j,i<j->j<n->lt (k j) (k i)=true
def Ris.more (O:Ord lt){k:Nat->M}(h:Ris lt k n)(q:0<n->lt (k (n-1)) (k n)=true):Ris lt k (n+1):=λi j cQ hj=>by
 rcases Nat.lt_or_ge j n with z |z
 ·exact h i j cQ z
 ·have e:j=n:=by omega
  subst e
  rcases Nat.lt_or_ge i (j-1) with y |y
  ·exact O.tr (h i (j-1) y (by omega)) (q (by omega))
  ·rw[show i=j-1 by omega];exact q (by omega)
def Fal.more (O:Ord lt){k:Nat->M}(h:Fal lt k n)(q:0<n->lt (k n) (k (n-1))=true):Fal lt k (n+1):=λi j cQ hj=>by
 rcases Nat.lt_or_ge j n with z |z
 ·exact h i j cQ z
 ·have e:j=n:=by omega
  subst e
  rcases Nat.lt_or_ge i (j-1) with y |y
  ·exact O.tr (q (by omega)) (h i (j-1) y (by omega))
  ·rw[show i=j-1 by omega];exact q (by omega)
def Asks.other (Lqz:Asks prog w A E s κ lt kf d a0){st:SortSt}{i j:Nat}(Bqz:SB κ a0 st)(hi:i<a0.size)(hj:j<a0.size)(n:i≠j)(h:lt (kp kf d (arrOf st) i) (kp kf d (arrOf st) j)=false):lt (kp kf d (arrOf st) j) (kp kf d (arrOf st) i)=true:=(Lqz.two Bqz hi hj n).resolve_left (by rw[h];decide)
def OW (Lqz:Asks prog w A E s κ lt kf d a0){st:SortSt}{a m:Nat}{Q:AscSt->SortSt->Prop}(Bqz:SB κ a0 st)(hm:m<=a0.size)(h1:1<=a)(ham:a<=m)(R:Ris lt (kp kf d (arrOf st)) a)
  (q:∀n,a<=n->n<=m->Ris lt (kp kf d (arrOf st)) n->(n≠m->lt (kp kf d (arrOf st) n) (kp kf d (arrOf st) (n-1))=true)->Q (none,n) st):wpS (model prog w) A E s (ascLoop a m) Q st:=by
 unfold ascLoop
 refine wpS_forRange (I:=λx c t=>t=st/\c=(none,x)/\Ris lt (kp kf d (arrOf st)) x) ?_ ?_ ⟨rfl,rfl,R⟩
 ·intro x c t hx hxm hI
  obtain⟨rfl,rfl,R'⟩:=hI
  refine wpS_bind (Lqz.ask Bqz (by omega) (by omega) ?_)
  cases e:lt (kp kf d (arrOf t) x) (kp kf d (arrOf t) (x-1)) with
  |true=>exact wpS_pure (q x hx (by omega) R' λ_=>e)
  |false=>exact wpS_pure ⟨rfl,rfl,R'.more Lqz.toOrd λ_=>Lqz.other Bqz (by omega) (by omega) (by omega) e⟩
 ·intro c t hI
  obtain⟨rfl,rfl,R'⟩:=hI
  have e:max a m=m:=by omega
  rw[e] at R'⊢
  exact q m ham (Nat.le_refl _) R' λz=>absurd rfl z
def NL (Lqz:Asks prog w A E s κ lt kf d a0){st:SortSt}{a m:Nat}{Q:DescSt->SortSt->Prop}(Bqz:SB κ a0 st)(hm:m<=a0.size)(h1:1<=a)(ham:a<=m)(R:Fal lt (kp kf d (arrOf st)) a)
  (q:∀n,a<=n->n<=m->Fal lt (kp kf d (arrOf st)) n->Q (none,n,0) st):wpS (model prog w) A E s (descLoop a m) Q st:=by
 unfold descLoop
 refine wpS_forRange (I:=λx c t=>t=st/\c=(none,x,0)/\Fal lt (kp kf d (arrOf st)) x) ?_ ?_ ⟨rfl,rfl,R⟩
 ·intro x c t hx hxm hI
  obtain⟨rfl,rfl,R'⟩:=hI
  show wpS _ _ _ _ (ltAt' x (x-1) >>= _) _ _
  refine wpS_bind (Lqz.ask Bqz (by omega) (by omega) ?_)
  cases e:lt (kp kf d (arrOf t) x) (kp kf d (arrOf t) (x-1)) with
  |true=>exact wpS_pure ⟨rfl,rfl,R'.more Lqz.toOrd λ_=>e⟩
  |false=>
   show wpS _ _ _ _ (ltAt' (x-1) x >>= _) _ _
   refine wpS_bind (Lqz.ask Bqz (by omega) (by omega) ?_)
   rw[Lqz.other Bqz (by omega) (by omega) (by omega) e]
   exact wpS_pure (q x hx (by omega) R')
 ·intro c t hI
  obtain⟨rfl,rfl,R'⟩:=hI
  have e:max a m=m:=by omega
  rw[e] at R'⊢
  exact q m ham (Nat.le_refl _) R'
def LH {xs:Array Keyed}(hn:n<=xs.size)(hi:i<n):kp kf d (mirror xs 0 n ((n-0)/2)) i=kp kf d xs (n-1-i):=by
 have e:=getElem?_mirror_all (i:=0) hn i
 rw[if_pos ⟨Nat.zero_le _,hi⟩,Nat.zero_add] at e
 exact NR e
def Tj (Lqz:Asks prog w A E s κ lt kf d a0){st:SortSt}{m:Nat}{Q:Option Nat->SortSt->Prop}(Bqz:SB κ a0 st)(hm:m<=a0.size)(h1:1<=m)
  (q:∀n t,SB κ a0 t->n<=m->Ris lt (kp kf d (arrOf t)) n->Q (some n) t):wpS (model prog w) A E s (countRun' 0 m) Q st:=by
 rw[countRun0_eq]
 refine wpS_bind (OW Lqz Bqz hm (Nat.le_refl 1) h1 (λi j cQ hj=>by omega) λn hn hnm R z=>?_)
 show wpS _ _ _ _ (if(n==m)=true then _ else _) _ _
 by_cases e:n=m
 ·subst e
  rw[if_pos (beq_self_eq_true n)]
  exact wpS_pure (q n st Bqz (Nat.le_refl _) R)
 ·rw[if_neg (by rw[beq_eq_false_iff_ne.mpr e];decide)]
  have z:=z e
  by_cases g:n > 1
  ·show wpS _ _ _ _ (if n > 1 then _ else _) _ _
   rw[if_pos g]
   show wpS _ _ _ _ (ltAt' 0 (n-1) >>= _) _ _
   refine wpS_bind (Lqz.ask Bqz (by omega) (by omega) ?_)
   rw[show lt (kp kf d (arrOf st) 0) (kp kf d (arrOf st) (n-1))=true from R 0 (n-1) (by omega) (by omega)]
   exact wpS_pure (q n st Bqz hnm R)
  ·have e1:n=1:=by omega
   subst e1
   show wpS _ _ _ _ (descPart 1 m) _ _
   unfold descPart
   refine wpS_bind (wpS_lift (wpAny_rule ⟨rfl,?_⟩))
   have F2:Fal lt (kp kf d (arrOf st)) 2:=Fal.more Lqz.toOrd (n:=1) (λi j cQ hj=>by omega) λ_=>z
   refine wpS_bind (NL Lqz Bqz hm (by omega) (by omega) F2 λn hn2 hnm2 F=>?_)
   show wpS _ _ _ _ (tail3 n m) _ _
   unfold tail3
   refine wpS_bind (wpS_reverse ?_)
   have B2:SB κ a0 (setArr st (mirror (arrOf st) 0 n ((n-0)/2))):=Bqz.setArr (mirror_perm _ _ _ _)
   have hsz:n<=(arrOf st).size:=by rw[Bqz.size];omega
   refine wpS_bind (OW Lqz B2 hm (by omega) hnm2 (λi j cQ hj=>?_) λk _ hk R2 _=>wpS_pure (q k _ B2 hk R2))
   show lt (kp kf d (mirror (arrOf st) 0 n ((n-0)/2)) i) (kp kf d (mirror (arrOf st) 0 n ((n-0)/2)) j)=true
   rw[LH hsz (by omega),LH hsz hj]
   exact F (n-1-j) (n-1-i) (by omega) (by omega)
def Wl (O:Ord lt){xs:Array Keyed}(hk:k<xs.size)(hl:l<=k)(R:Ris lt (kp kf d xs) k)(lo:∀i,i<l->lt (kp kf d xs i) (kp kf d xs k)=true)(hi:∀i,l<=i->i<k->lt (kp kf d xs k) (kp kf d xs i)=true):Ris lt (kp kf d (bubble xs k (k-l))) (k+1):=by
 have g:∀p,kp kf d (bubble xs k (k-l)) p=if p=l then kp kf d xs k else if l<p/\p<=k then kp kf d xs (p-1) else kp kf d xs p:=λp=>by
  have e:=getElem?_bubble hk (k-l) (by omega) p
  rw[show k-(k-l)=l by omega] at e
  by_cases h1:p=l
  ·rw[if_pos h1] at e⊢;exact NR e
  ·rw[if_neg h1] at e⊢
   by_cases h2:l<p/\p<=k
   ·rw[if_pos h2] at e⊢;exact NR e
   ·rw[if_neg h2] at e⊢;exact NR e
 intro i j cQ hj
 rw[g,g]
 rcases Nat.lt_trichotomy i l with cU |cU |cU
 ·rw[if_neg (by omega),if_neg (by omega)]
  rcases Nat.lt_trichotomy j l with fP |fP |fP
  ·rw[if_neg (by omega),if_neg (by omega)];exact R i j cQ (by omega)
  ·rw[if_pos fP];exact lo i cU
  ·rw[if_neg (by omega),if_pos (by omega)];exact R i (j-1) (by omega) (by omega)
 ·rw[if_pos cU,if_neg (by omega),if_pos (by omega)];exact hi (j-1) (by omega) (by omega)
 ·rw[if_neg (by omega),if_pos (by omega),if_neg (by omega),if_pos (by omega)];exact R (i-1) (j-1) (by omega) (by omega)
def Tn (Lqz:Asks prog w A E s κ lt kf d a0){st:SortSt}{n ok:Nat}{Q:Bool->SortSt->Prop}(Bqz:SB κ a0 st)(hn:n<=a0.size)(hok:ok<=n)(R:Ris lt (kp kf d (arrOf st)) ok)
  (q:∀t,SB κ a0 t->Ris lt (kp kf d (arrOf t)) n->Q true t):wpS (model prog w) A E s (binarySort' 0 n ok) Q st:=by
 rw[binarySort'_eq]
 simp only[Nat.zero_add]
 refine wpS_bind (wpS_mono (wpS_forRange (I:=λk c t=>c=(none,())/\SB κ a0 t/\Ris lt (kp kf d (arrOf t)) (if k<=n then k else n)) (Q:=λc t=>c=(none,())/\SB κ a0 t/\Ris lt (kp kf d (arrOf t)) n) ?_ ?_ ?_) ?_)
 ·intro k c t hk gp hI
  obtain⟨rfl,Bt,Rt⟩:=hI
  rw[if_pos (Nat.le_of_lt gp)] at Rt
  refine wpS_bind (wpS_mono (wpS_forRange (I:=λx c u=>u=t/\∃l r,c=(none,l,r)/\l<=r/\r<=k/\r+x<=k+l/\(∀i,i<l->lt (kp kf d (arrOf t) i) (kp kf d (arrOf t) k)=true)/\(∀i,r<=i->i<k->lt (kp kf d (arrOf t) k) (kp kf d (arrOf t) i)=true))
   (Q:=λc u=>u=t/\∃l,c=(none,l,l)/\l<=k/\(∀i,i<l->lt (kp kf d (arrOf t) i) (kp kf d (arrOf t) k)=true)/\(∀i,l<=i->i<k->lt (kp kf d (arrOf t) k) (kp kf d (arrOf t) i)=true)) ?_ ?_ ?_) ?_)
  ·intro x c u _ hx hI
   obtain⟨rfl,l,r,rfl,hlr,hrk,hm,lo,hi⟩:=hI
   by_cases hge:l≥r
   ·have e:r=l:=by omega
    subst e
    show wpS _ _ _ _ (if r≥r then _ else _) _ _
    rw[if_pos (Nat.le_refl _)]
    exact wpS_pure ⟨rfl,r,rfl,hrk,lo,hi⟩
   ·show wpS _ _ _ _ (if l≥r then _ else _) _ _
    rw[if_neg hge]
    show wpS _ _ _ _ (ltAt' k ((l+r)/2) >>= _) _ _
    refine wpS_bind (Lqz.ask Bt (by omega) (by omega) ?_)
    cases e:lt (kp kf d (arrOf u) k) (kp kf d (arrOf u) ((l+r)/2)) with
    |true=>
     refine wpS_pure ⟨rfl,l,(l+r)/2,rfl,by omega,by omega,by omega,lo,λi h1 h2=>?_⟩
     rcases Nat.eq_or_lt_of_le h1 with y |y
     ·rw[←y];exact e
     ·exact Lqz.tr e (Rt _ _ y h2)
    |false=>
     have e':=Lqz.other Bt (by omega) (by omega) (by omega) e
     refine wpS_pure ⟨rfl,(l+r)/2+1,r,rfl,by omega,by omega,by omega,λi h1=>?_,hi⟩
     rcases Nat.eq_or_lt_of_le (Nat.le_of_lt_succ h1) with y |y
     ·rw[y];exact e'
     ·exact Lqz.tr (Rt _ _ y (by omega)) e'
  ·intro c u hI
   obtain⟨rfl,l,r,rfl,hlr,hrk,hm,lo,hi⟩:=hI
   have e:r=l:=by omega
   subst e
   exact⟨rfl,r,rfl,hrk,lo,hi⟩
  ·exact⟨rfl,0,k,rfl,by omega,by omega,by omega,λi hi=>by omega,λi h1 h2=>by omega⟩
  ·intro c u hI
   obtain⟨rfl,l,rfl,hlk,lo,hi⟩:=hI
   show wpS _ _ _ _ (moveDown' k l >>= _) _ _
   rw[moveDown'_eq]
   refine wpS_bind (wpS_modify (wpS_pure ⟨rfl,Bt.setArr (bubble_perm _ _ _),?_⟩))
   rw[if_pos (show k+1<=n from gp)]
   exact Wl Lqz.toOrd (by rw[Bt.size];omega) hlk Rt lo hi
 ·intro c t hI
  obtain⟨hc,Bt,Rt⟩:=hI
  refine⟨hc,Bt,?_⟩
  have e:(if max (max ok 1) n<=n then max (max ok 1) n else n)=n:=by split<;> omega
  rwa [e] at Rt
 ·refine⟨rfl,Bqz,λi j cQ hj=>?_⟩
  refine R i j cQ ?_
  split at hj<;> omega
 ·intro c t hI
  obtain⟨rfl,Bt,Rt⟩:=hI
  exact wpS_pure (q t Bt Rt)
def S8 (Lqz:Asks prog w A E s κ lt kf d a0){st:SortSt}{Q:Unit->SortSt->Prop}(Bqz:SB κ a0 st)(h2:2<=a0.size)(fw:a0.size<64)
  (q:∀t,(arrOf t).Perm a0->failedOf t=none->Ris lt (kp kf d (arrOf t)) a0.size->Q () t):wpS (model prog w) A E s sortRuns' Q st:=by
 rw[sortRuns'_eq]
 refine wpS_bind (wpS_get ?_)
 have hmr:minRun' a0.size a0.size 0=a0.size:=by
  cases e:a0.size with
  |zero=>omega
  |succ f=>rw[minRun'_succ,if_pos (by omega)]
 have hs:=Bqz.size
 show wpS _ _ _ _ (forIn [0:(arrOf st).size] _ _ >>= _) _ _
 rw[hs,hmr]
 let Dn:SortSt->Prop:=λt=>(arrOf t).Perm a0/\failedOf t=none/\pendingOf t= #[(0,a0.size,0)]/\Ris lt (kp kf d (arrOf t)) a0.size
 have fin:∀t,SB κ a0 t->Ris lt (kp kf d (arrOf t)) a0.size->Dn (setPending t ((pendingOf t).push (0,a0.size,0))):=λt Bt Rt=>⟨Bt.perm,Bt.failed,by show(pendingOf t).push _=_;rw[Bt.pend];rfl,Rt⟩
 refine wpS_bind (wpS_mono (wpS_forRange (I:=λx c t=>if x=0 then c=(none,0)/\SB κ a0 t else c=(none,a0.size)/\Dn t) (Q:=λc t=>c=(none,a0.size)/\Dn t) ?_ ?_ ?_) ?_)
 ·intro x c t _ hx hI
  by_cases hx0:x=0
  ·rw[if_pos hx0] at hI
   obtain⟨rfl,Bt⟩:=hI
   show wpS _ _ _ _ (if 0≥a0.size then _ else _) _ _
   rw[if_neg (by omega)]
   refine wpS_bind (Tj Lqz Bt (by omega) (by omega) λm u Bu hm Ru=>?_)
   have hb:∀v,SB κ a0 v->(pendingOf v).back?=none:=λv Bv=>by rw[Bv.pend];rfl
   by_cases ah:m<a0.size
   ·show wpS _ _ _ _ (if m<a0.size then _ else _) _ _
    rw[if_pos ah]
    refine wpS_bind (wpS_lift (wpAny_rule ⟨rfl,?_⟩))
    rw[Nat.sub_zero,Nat.min_self]
    refine wpS_bind (Tn Lqz Bu (Nat.le_refl _) hm Ru λv Bv Rv=>?_)
    show wpS _ _ _ _ (get >>= _) _ _
    refine wpS_bind (wpS_get ?_)
    rw[hb v Bv]
    refine wpS_bind (wpS_modify (wpS_pure ?_))
    show if x+1=0 then _ else _
    rw[if_neg (by omega)]
    exact⟨by rw[Nat.zero_add],fin v Bv Rv⟩
   ·have e:m=a0.size:=by omega
    subst e
    show wpS _ _ _ _ (if a0.size<a0.size then _ else _) _ _
    rw[if_neg ah]
    refine wpS_bind (wpS_get ?_)
    rw[hb u Bu]
    refine wpS_bind (wpS_modify (wpS_pure ?_))
    show if x+1=0 then _ else _
    rw[if_neg (by omega)]
    exact⟨by rw[Nat.zero_add],fin u Bu Ru⟩
  ·rw[if_neg hx0] at hI
   obtain⟨rfl,D⟩:=hI
   show wpS _ _ _ _ (if a0.size≥a0.size then _ else _) _ _
   rw[if_pos (Nat.le_refl _)]
   exact wpS_pure ⟨rfl,D⟩
 ·intro c t hI
  rw[if_neg (by omega)] at hI
  exact hI
 ·rw[if_pos rfl];exact⟨rfl,Bqz⟩
 ·intro c t hI
  obtain⟨rfl,D1,D2,D3,D4⟩:=hI
  refine wpS_bind (wpS_mono (wpS_forRange (I:=λ_ c u=>u=t/\c=(none,())) (Q:=λc u=>u=t/\c=(none,())) ?_ (λ_ _ h=>h) ⟨rfl,rfl⟩) ?_)
  ·intro x c u _ _ hI
   obtain⟨rfl,rfl⟩:=hI
   refine wpS_bind (wpS_get ?_)
   rw[if_pos (by rw[D3];exact Nat.le_refl 1)]
   exact wpS_pure ⟨rfl,rfl⟩
  ·intro c u hI
   obtain⟨rfl,rfl⟩:=hI
   exact wpS_pure (q _ D1 D2 D4)
end
section
def DP {f:M->L}{k:List L}(h:l'.Perm k):∀{l:List M},k=l.map f->∃m:List M,m.Perm l/\m.map f=l':=by
 induction h with
 |nil=>intro l e;cases l with
  |nil=>exact⟨[], .nil,rfl⟩
  |cons a l=>cases e
 |cons x _ ih=>intro l e;cases l with
  |nil=>cases e
  |cons a l=>
   injection e with e1 e2
   obtain⟨m,hm,em⟩:=ih e2
   exact⟨a::m,hm.cons a,by rw[List.map_cons,em,e1]⟩
 |swap x y t=>intro l e;cases l with
  |nil=>cases e
  |cons a l=>cases l with
   |nil=>cases e
   |cons b l=>
    injection e with e1 e2
    injection e2 with e2 e3
    exact⟨b::a::l, .swap ..,by rw[List.map_cons,List.map_cons,e1,e2,e3]⟩
 |trans _ _ ih1 ih2=>
  intro l e
  obtain⟨m2,h2,e2⟩:=ih2 e
  obtain⟨m1,h1,e1⟩:=ih1 e2.symm
  exact⟨m1,h1.trans h2,e1⟩
structure OrdT (lt:M->M->Bool):Prop extends Ord lt where
 tot:∀{a b},a≠b->lt a b=true∨lt b a=true
def NA:OrdT ltI:=⟨⟨λa=>by simp[ltI],λh1 h2=>by simp only[ltI,decide_eq_true_eq] at*;omega⟩,λh=>by simp only[ltI,decide_eq_true_eq];omega⟩
section
variable [DecidableEq M]{lt:M->M->Bool}
def Ot (O:OrdT lt):∀{a b c:List M},ltG lt a b=true->ltG lt b c=true->ltG lt a c=true
 |_,[],_,h,_=>by rw[Fq] at h;cases h
 |_,_::_,[],_,h=>by rw[Fq] at h;cases h
 | [],_::_,_::_,_,_=>rfl
 |a::as,b::bs,c::cs,h1,h2=>by
  rw[ltG] at h1 h2⊢
  by_cases e1:a=b
  ·rw[if_pos e1] at h1
   by_cases e2:b=c
   ·rw[if_pos e2] at h2
    rw[if_pos (e1.trans e2)]
    exact Ot O h1 h2
   ·rw[if_neg e2] at h2
    rw[if_neg (by rw[e1];exact e2),e1];exact h2
  ·rw[if_neg e1] at h1
   by_cases e2:b=c
   ·rw[if_neg (by rw[←e2];exact e1), ←e2];exact h1
   ·rw[if_neg e2] at h2
    have h3:=O.tr h1 h2
    rw[if_neg (λe=>by rw[e,O.irr] at h3;cases h3)]
    exact h3
def IE:∀(a:List M),ltG lt a a=false
 | []=>rfl
 |a::as=>by rw[ltG,if_pos rfl];exact IE as
def I9 (O:OrdT lt):∀{a b:List M},a≠b->ltG lt a b=true∨ltG lt b a=true
 | [],[],h=>absurd rfl h
 | [],_::_,_=>.inl rfl
 |_::_,[],_=>.inr rfl
 |a::as,b::bs,h=>by
  rw[ltG,ltG]
  by_cases e:a=b
  ·subst e
   rw[if_pos rfl,if_pos rfl]
   exact I9 O λz=>h (by rw[z])
  ·rw[if_neg e,if_neg (Ne.symm e)];exact O.tot e
def FV (O:OrdT lt):OrdT (ltG lt):=⟨⟨IE,Ot O⟩,I9 O⟩
end
def Te (lt:M->M->Bool)(a:M):List M->List M
 | []=>[a]
 |b::l=>if lt a b=true then a::b::l else b::Te lt a l
def Zt (lt:M->M->Bool)(l:List M):List M:=l.foldr (Te lt) []
def Kx (lt:M->M->Bool)(a:M):∀l,(Te lt a l).Perm (a::l)
 | []=>.refl _
 |b::l=>by
  rw[Te]
  split
  ·exact .refl _
  ·exact((Kx lt a l).cons b).trans (.swap ..)
def YC (lt:M->M->Bool):∀l:List M,(Zt lt l).Perm l
 | []=>.refl _
 |a::l=>(Kx lt a _).trans ((YC lt l).cons a)
def DA (O:OrdT lt){a:M}:∀{l:List M},(∀b∈l,a≠b)->l.Pairwise (λx y=>lt x y=true)->(Te lt a l).Pairwise λx y=>lt x y=true
 | [],_,_=>List.pairwise_singleton ..
 |b::l,hn,h=>by
  rw[List.pairwise_cons] at h
  rw[Te]
  split
  ·rename_i hab
   refine List.pairwise_cons.mpr ⟨λc hc=>?_,List.pairwise_cons.mpr h⟩
   rcases List.mem_cons.mp hc with z |z
   ·rw[z];exact hab
   ·exact O.tr hab (h.1 c z)
  ·rename_i hab
   refine List.pairwise_cons.mpr ⟨λc hc=>?_,DA O (λc hc=>hn c (List.mem_cons_of_mem _ hc)) h.2⟩
   rcases List.mem_cons.mp ((Kx lt a l).mem_iff.mp hc) with z |z
   ·rw[z];exact(O.tot (hn b List.mem_cons_self)).resolve_left hab
   ·exact h.1 c z
def V2 (O:OrdT lt):∀{l:List M},l.Nodup->(Zt lt l).Pairwise λx y=>lt x y=true
 | [],_=>.nil
 |a::l,h=>by
  rw[List.nodup_cons] at h
  exact DA O (λb hb e=>h.1 ((YC lt l).mem_iff.mp (e▸hb))) (V2 O h.2)
def G6 (O:OrdT lt){a b:List M}(hn:b.Nodup)(h:a.Perm b)(r:a.Pairwise λx y=>lt x y=true):a=Zt lt b:=
 List.Perm.eq_of_pairwise (le:=λx y=>lt x y=true) (λx y _ _ h1 h2=>by have:=O.tr h1 h2;rw[O.irr] at this;cases this) r (V2 O hn) (h.trans (YC lt b).symm)
end
section
def U2 {f:Value->Sem L}:∀{vs:List Value}{Q:List L->Shared->Prop},(∀v∈vs,∀Q:L->Shared->Prop,Q c s->wpAny (model prog w) A (f v) Q E s)->Q (vs.map λ_=>c) s->wpAny (model prog w) A (vs.mapM f) Q E s
 | [],Q,_,q=>by rw[List.mapM_nil];exact wpAny_pure q
 |v::vs,Q,h,q=>by
  rw[List.mapM_cons]
  refine wpAny_bind (h v List.mem_cons_self _ (wpAny_bind (U2 (λu hu=>h u (List.mem_cons_of_mem _ hu)) (wpAny_pure q))))
def Hs {Q:SortKind->Shared->Prop}(hT:∀v∈vs,s.TypeIs v "list")(aL:vs≠ [])(q:Q oneType' s):wpAny (model prog w) A (keyKind' vs.toArray) Q E s:=by
 obtain⟨v0,vr,rfl⟩:=List.exists_cons_of_ne_nil aL
 rw[keyKind'_eq,List.mapM_toArray]
 refine wpAny_bind (wpAny_map (U2 (c:=(none:Option Value)) (λv hv Q q=>?_) ?_))
 ·show wpAny _ _ (typeOf v >>= λt=>if(t != .type "tuple")=true then pure none else _) _ _ _
  refine wpAny_bind (wpAny_typeOf (hT v hv) ?_)
  rw[if_pos (by decide)]
  exact wpAny_pure q
 ·rw[if_neg (by simp),if_neg (by simp),oneTypeOnly'_eq,List.mapM_toArray]
  refine wpAny_bind (wpAny_bind (wpAny_map (U2 (c:=Value.type "list") (λv hv Q q=>wpAny_typeOf (hT v hv) q) ?_)))
  rw[show((List.map (λ_=>Value.type "list") (v0::vr)).toArray)[0]?=some (Value.type "list") by simp]
  have aK:((List.map (λ_=>Value.type "list") (v0::vr)).toArray.all λx=>x==Value.type "list")=true:=by
   simp only[List.all_toArray,List.all_map,List.all_eq_true]
   intro _ _
   rfl
  simp only[aK,if_true]
  exact wpAny_pure (wpAny_pure q)
def mid (h:Heap)(a:Addr)(vs:List Value):Heap:=((h.update a (Obj.mapSeq λ_=>#[])).push (seqObj "tuple" vs.toArray 0)).push (seqObj "list" #[] 0)
def SD {o:Obj}(aL:b≠a)(hb:h.get? b=some o):(mid h a vs).get? b=some o:=by
 have ah:=Heap.lt_size hb
 unfold mid
 rw[Heap.get?_push_ne _ _ _ (by rw[size_push',Heap.size_update];exact Nat.ne_of_lt (Nat.lt_succ_of_lt ah)),Heap.get?_push_ne _ _ _ (by rw[Heap.size_update];exact Nat.ne_of_lt ah),Heap.get?_update_ne _ _ _ _ aL]
 exact hb
def PL {d:M}{Q:Fin->Shared->Prop}(ho:s.heap.get? a=some (seqObj "list" vs.toArray n))(fw:vs.length<64)
  (hk:2<=vs.length->∀{Q:SortKind->Shared->Prop},Q κ {s with heap:=mid s.heap a vs}->wpAny (model prog w) A (keyKind' vs.toArray) Q E {s with heap:=mid s.heap a vs})(Lqz:Asks prog w A E {s with heap:=mid s.heap a vs} κ lt kf d (pairsOf vs))
  (q:∀out:Array Keyed,out.Perm (pairsOf vs)->Ris lt (kp kf d out) vs.length->Q (.done (.ret .none)) {s with heap:=sortedHeap s.heap a vs (out.map (·.2))}):
  wpAny (model prog w) A (Builtin.«list.sort» ⟨[.ref a],[]⟩) Q E s:=by
 rw[list_sort_plain]
 have ah:=Heap.lt_size ho
 obtain⟨e1,ho1⟩:∃e,(s.heap.update a (Obj.mapSeq λ_=>#[])).get? a=some (seqObj "list" #[] e):=⟨_,get?_update_seq ho λ_=>#[]⟩
 have eA:(mid s.heap a vs).get? a=some (seqObj "list" #[] e1):=by
  unfold mid
  rw[Heap.get?_push_ne _ _ _ (by rw[size_push',Heap.size_update];exact Nat.ne_of_lt (Nat.lt_succ_of_lt ah)),Heap.get?_push_ne _ _ _ (by rw[Heap.size_update];exact Nat.ne_of_lt ah)]
  exact ho1
 refine wpAny_bind (listItems_at ho rfl (wpAny_bind (listUpdate_at ho rfl (wpAny_bind (seqEpoch_at ho1 rfl (wpAny_bind (wpAny_newTuple (wpAny_bind (wpAny_newList (wpAny_holding ?_))))))))))
 show wpAny (model prog w) A _ Q E {s with heap:=mid s.heap a vs}
 have tail:∀(st:SortSt),(arrOf st).Perm (pairsOf vs)->failedOf st=none->Ris lt (kp kf d (arrOf st)) vs.length->wpAny (model prog w) A (do
   let fQ:=(←seqEpoch a) !=e1
   Builtin.List.listUpdate (.ref a) λ_=>(arrOf st).map (·.2)
   if let some e:=failedOf st then rule "list.sort.comparison-raised";throw e
   if fQ then rule "list.sort.modified";raiseError "ValueError" "list modified during sort"
   ret .none) Q E {s with heap:=mid s.heap a vs}:=λst hp hf hr=>by
  refine wpAny_bind (seqEpoch_at eA rfl (wpAny_bind (listUpdate_at eA rfl ?_ (hsz2:=?_))))
  ·rw[hf]
   simp only[bne_self_eq_false,Bool.false_eq_true,if_false]
   exact wpAny_pure (q (arrOf st) hp hr)
  ·have:=hp.size_eq
   rw[pairsOf_size] at this
   rw[Array.size_map,this,sizeLine_eq];omega
 have hsz:vs.toArray.size=vs.length:=List.size_toArray
 by_cases h2:vs.toArray.size<2
 ·rw[if_pos h2,if_pos h2]
  refine wpAny_bind (wpAny_pure ?_)
  show wpAny _ _ ((pure ():StateT SortSt Sem Unit).run (SortSt.mk' general' (vs.toArray.zip vs.toArray) #[] 7 none) >>= _) _ _ _
  rw[StateT.run_pure]
  exact wpAny_bind (wpAny_pure (tail (SortSt.mk' general' (vs.toArray.zip vs.toArray) #[] 7 none) (Array.Perm.refl _) rfl λi j cQ hj=>by omega))
 ·rw[if_neg h2,if_neg h2]
  refine wpAny_bind (hk (by rw[←hsz];omega) ?_)
  refine wpAny_bind (wpAny_mono (S8 Lqz (st:=SortSt.mk' κ (vs.toArray.zip vs.toArray) #[] 7 none) (Q:=λ_ st=>(arrOf st).Perm (pairsOf vs)/\failedOf st=none/\Ris lt (kp kf d (arrOf st)) vs.length) ⟨Array.Perm.refl _,rfl,rfl,rfl⟩ (by rw[pairsOf_size];omega) (by rw[pairsOf_size];exact fw) λt a1 a2 a3=>⟨a1,a2,by rw[pairsOf_size] at a3;exact a3⟩) ?_ λ_ _ e=>e)
  intro p s' hh
  obtain⟨⟨⟩,st⟩:=p
  obtain⟨rfl,hp,hf,hr⟩:=hh
  exact tail st hp hf hr
end
section
variable {d:B}{T:List (Value×V×B)}
open Classical in
def kfG (d:B)(T:List (Value×V×B))(v:Value):B:=if h:∃t,t∈T/\t.1=v then(Classical.choose h).2.2 else d
def Lx (hu:∀t u,t∈T->u∈T->t.1=u.1->t.2.2=u.2.2)(ht:t∈T):kfG d T t.1=t.2.2:=by
 have h:∃u,u∈T/\u.1=t.1:=⟨t,ht,rfl⟩
 unfold kfG
 rw[dif_pos h]
 exact hu _ _ (Classical.choose_spec h).1 ht (Classical.choose_spec h).2
def trG:∀{its:List Value}{ys:List V}{as:List B}{G:V->B->Prop},Paired XW ys its->Paired G ys as->∃T:List (Value×V×B),T.map (·.1)=its/\T.map (λt=>(t.2.1,t.2.2))=ys.zip as/\T.map (·.2.2)=as/\∀t∈T,XW t.2.1 t.1/\G t.2.1 t.2.2
 |_,_,_,_, .nil, .nil=>⟨[],rfl,rfl,rfl,λt h=>nomatch h⟩
 |_,_,_,_, .cons r1 p1, .cons r2 p2=>by
  obtain⟨T,e1,e2,e3,hT⟩:=trG p1 p2
  exact⟨(_,_,_)::T,by rw[List.map_cons,e1],by rw[List.map_cons,e2];rfl,by rw[List.map_cons,e3],λt ht=>(List.mem_cons.mp ht).elim (λz=>z▸⟨r1,r2⟩) (hT t)⟩
variable {κ:SortKind}{lt:B->B->Bool}
structure Sb (X:Cx)(aa:List (Addr×Obj))(U:St)(H:Hp)(κ:SortKind)(lt:B->B->Bool)(G:V->B->Prop)(c:Nat):Prop where
 hq:∀{s:Shared},Inv X aa U H s->∀{v y z a b},XW y v->XW z v->G y a->G z b->a=b
 hk:∀{A:Around}{Er:Value->Shared->Prop}{s:Shared},Inv X aa U H s->∀T:List (Value×V×B),(∀t∈T,XW t.2.1 t.1/\G t.2.1 t.2.2)->2<=T.length->∀{Q:SortKind->Shared->Prop},Q κ s->wpAny (model X.prog X.w) A (keyKind' (T.map (·.1)).toArray) Q Er s
 ha:∀{A:Around}{Er:Value->Shared->Prop}{s:Shared},Inv X aa U H s->∀{v w y z a b},XW y v->XW z w->G y a->G z b->A.units+c<cLine->∀{Q:Bool->Shared->Prop},Q (lt a b) s->wpAny (model X.prog X.w) A (keyLt' κ v w) Q Er s
def BR (d:B){Er:Value->Shared->Prop}{as:List B}{R:Addr->Shared->Prop}(I:Inv X aa U H s)(rv:X0 ys its)(hp:Paired G ys as)(cK:as.Nodup)(fw:as.length<64)(OL:OrdT lt)(hu:A.units+(c+1)<cLine)(Bqz:Sb X aa U H κ lt G c)
  (q:∀zs s',Inv X aa U (upd H s.heap.objs.size (.lst zs)) s'->H s.heap.objs.size=none->(zs.zip (Zt lt as)).Perm (ys.zip as)->zs.length=as.length->R s.heap.objs.size s'):
  wpAny (model X.prog X.w) A (newList its >>= λl=>holding [l] (call (.builtin "list.sort") [l] []) >>= λ_=>ret l) (λfin s'=>∃ p,fin= .done (.ret (.ref p))/\R p s') Er s:=by
 obtain⟨hq,hk,ha⟩:=Bqz
 obtain⟨T,e1,e2,e3,hT⟩:=trG rv hp
 have af:its.length=as.length:=by rw[←e1, ←e3,List.length_map,List.length_map]
 have huq:∀t u,t∈T->u∈T->t.1=u.1->t.2.2=u.2.2:=λt u ht eE e=>hq I (hT t ht).1 (e▸(hT u eE).1) (hT t ht).2 (hT u eE).2
 refine wpAny_bind (wpAny_newList ?_ (by rw[af,sizeLine_eq];omega))
 let g0:=s.heap.push (seqObj "list" its.toArray 0)
 have iY:g0.get? s.heap.objs.size=some (seqObj "list" its.toArray 0):=Heap.get?_push_size _ rfl
 have jo:∀b o,s.heap.get? b=some o->g0.get? b=some o:=λb o hb=>Heap.get?_push_of_some _ hb
 show wpAny _ _ _ _ _ {s with heap:=g0}
 have aL:∀{b o},s.heap.get? b=some o->b≠s.heap.objs.size:=λhb=>Nat.ne_of_lt (Heap.lt_size hb)
 have I2:Inv X aa U H {s with heap:=mid g0 s.heap.objs.size its,toks:=s.toks}:=I.kept λb o hb=>SD (aL hb) (jo b o hb)
 have hitm:∀v,v∈its->∃t,t∈T/\t.1=v:=λv hv=>by rw[←e1] at hv;exact List.mem_map.mp hv
 have key:∀{st:SortSt}{i:Nat},SB κ (pairsOf its) st->i<(pairsOf its).size->∃t p,t∈T/\(arrOf st)[i]?=some (t.1,p)/\kp (kfG d T) d (arrOf st) i=t.2.2:=fun {st i} Bqz hi=>by
  have cU:i<(arrOf st).size:=by rw[Bqz.size];exact hi
  have hm:(arrOf st)[i]∈(pairsOf its).toList:=(Array.perm_iff_toList_perm.mp Bqz.perm).mem_iff.mp (by simp)
  rw[pairsOf_toList] at hm
  obtain⟨t,ht,e⟩:=hitm _ (mem_zip_self hm).2
  have eg:(arrOf st)[i]?=some (arrOf st)[i]:=getElem?_pos _ i cU
  refine⟨t,(arrOf st)[i].2,ht,by rw[eg,e],?_⟩
  unfold kp
  rw[eg,Option.map_some,Option.getD_some, ←e]
  exact Lx huq ht
 have gF:∀{st:SortSt},SB κ (pairsOf its) st->((arrOf st).toList.map λp=>kfG d T p.1).Perm as:=fun {st} Bqz=>by
  have h1:(arrOf st).toList.Perm (its.zip its):=by rw[←pairsOf_toList];exact Array.perm_iff_toList_perm.mp Bqz.perm
  have h2:=h1.map λp=>kfG d T p.1
  have h3:(its.zip its).map (λp=>kfG d T p.1)=as:=by
   have:(its.zip its).map (λp=>kfG d T p.1)=((its.zip its).map Prod.fst).map (kfG d T):=by rw[List.map_map];rfl
   rw[this,List.map_fst_zip (Nat.le_refl _), ←e1, ←e3,List.map_map]
   exact List.map_congr_left λt ht=>Lx huq ht
  rwa [h3] at h2
 have kat:∀{st:SortSt}{i:Nat} (hi:i<(arrOf st).size),kp (kfG d T) d (arrOf st) i=((arrOf st).toList.map λp=>kfG d T p.1)[i]'(by simpa using hi):=fun {st i} hi=>by
  unfold kp
  rw[getElem?_pos (arrOf st) i hi]
  simp
 have LK:∀(A:Around) (Er:Value->Shared->Prop),A.units+c<cLine->Asks X.prog X.w A Er {s with heap:=mid g0 s.heap.objs.size its} κ lt (kfG d T) d (pairsOf its):=λA Er hA=>{
  irr:=OL.irr
  tr:=OL.tr
  ask:=fun {st i j Q} Bqz hi hj qq=>by
   obtain⟨t,p,ht,et,kt⟩:=key Bqz hi
   obtain⟨t',p',ht',et',kt'⟩:=key Bqz hj
   rw[kt,kt'] at qq
   rw[ltAt'_eq]
   refine wpS_bind (wpS_get ?_)
   show wpS _ _ _ _ (elem' (arrOf st) i >>= λx=>elem' (arrOf st) j >>= λy=>lt' x y) Q st
   rw[elem'_eq,elem'_eq,et,et']
   refine wpS_bind (wpS_pure (wpS_bind (wpS_pure ?_)))
   rw[lt'_eq]
   refine wpS_bind (wpS_get ?_)
   rw[Bqz.kind]
   exact wpS_bind (wpS_lift (wpAny_attempt (ha I2 (hT t ht).1 (hT t' ht').1 (hT t ht).2 (hT t' ht').2 hA ⟨rfl,wpS_pure qq⟩)))
  two:=fun {st i j} Bqz hi hj aL=>by
   have cU:i<(arrOf st).size:=by rw[Bqz.size];exact hi
   have fP:j<(arrOf st).size:=by rw[Bqz.size];exact hj
   rw[kat cU,kat fP]
   refine OL.tot λe=>aL ?_
   have hN:=(gF Bqz).nodup_iff.mpr cK
   have hP:=List.pairwise_iff_getElem.mp hN
   rcases Nat.lt_trichotomy i j with z |z |z
   ·exact absurd e (hP i j (by simpa using cU) (by simpa using fP) z)
   ·exact z
   ·exact absurd e.symm (hP j i (by simpa using fP) (by simpa using cU) z)}
 refine wpAny_bind (wpAny_holding (wpAny_call_entry slot_list_sort ⟨_,iY,rfl⟩ entry_list_sort (PL iY (by omega) (λh2 _ hq=>by have:=hk (A:=A.in1) (Er:=Er) I2 T hT (by rw[←List.length_map (f:=(·.1)),e1];exact h2) hq;rw[e1] at this;exact this) (LK _ _ (by rw[YM];omega)) λout hp hr=>⟨_,rfl,wpAny_pure ⟨_,rfl,?_⟩⟩) (args_list_sort _)))
 have hpl:out.toList.Perm (its.zip its):=by rw[←pairsOf_toList];exact Array.perm_iff_toList_perm.mp hp
 have jp:∀p∈out.toList,p.1=p.2:=λp di=>(mem_zip_self (hpl.mem_iff.mp di)).1
 have jq:out.toList.map (·.1)=(out.map (·.2)).toList:=by
  rw[Array.toList_map];exact List.map_congr_left λp di=>jp p di
 have jr:((out.map (·.2)).toList).Perm its:=by
  have:=hpl.map Prod.fst
  rw[List.map_fst_zip (Nat.le_refl _)] at this
  rw[←jq];exact this
 obtain⟨T',js,eT'⟩:=DP jr (l:=T) (f:=(·.1)) e1.symm
 have dL:T'.map (·.2.2)=out.toList.map λp=>kfG d T p.1:=by
  have h1:T'.map (·.2.2)=(T'.map (·.1)).map (kfG d T):=by
   rw[List.map_map];exact List.map_congr_left λt ht=>(Lx huq (js.mem_iff.mp ht)).symm
  rw[h1,eT', ←jq,List.map_map];rfl
 have hol:out.size=its.length:=by have:=hp.size_eq;rwa [pairsOf_size] at this
 have jt:T'.map (·.2.2)=Zt lt as:=by
  refine G6 OL cK (by rw[←e3];exact js.map _) ?_
  rw[dL,List.pairwise_iff_getElem]
  intro i j hi hj cQ
  have cU:i<out.size:=by simpa using hi
  have fP:j<out.size:=by simpa using hj
  have:=hr i j cQ (by omega)
  unfold kp at this
  rw[getElem?_pos out i cU,getElem?_pos out j fP] at this
  simpa using this
 have vv:∀{Uqz:List (Value×V×B)},(∀t∈Uqz,XW t.2.1 t.1)->X0 (Uqz.map (·.2.1)) (Uqz.map (·.1)):=fun {Uqz}=>by
  induction Uqz with
  |nil=>intro _;exact .nil
  |cons t Uqz ih=>intro h;exact .cons (h t List.mem_cons_self) (ih λu eE=>h u (List.mem_cons_of_mem _ eE))
 obtain⟨e,he⟩:=sortedHeap_at (out:=out.map (·.2)) iY
 have fK:H s.heap.objs.size=none:=I.hok.fresh (Nat.le_refl _)
 have hvv:X0 (T'.map (·.2.1)) (out.map (·.2)).toList:=by rw[←eT'];exact vv λt ht=>(hT t (js.mem_iff.mp ht)).1
 have iH:(T'.map (·.2.1)).length=as.length:=by rw[List.length_map,js.length_eq, ←e3,List.length_map]
 refine q (T'.map (·.2.1)) _ (I.laid (t':=s.toks) (λb o e=>?_) (Nat.le_refl _) (show YR X.prog X.w _ _ _ (.lst (T'.map (·.2.1))) from⟨?_,(Array.map (λp:Keyed=>p.2) out).toList,e,hvv,he⟩)) fK ?_ iH
 ·exact L2.KY (aL e) (jo _ _ e)
 ·rw[iH,sizeLine_eq];omega
 ·rw[←jt, ←e2]
  have:(T'.map (·.2.1)).zip (T'.map (·.2.2))=T'.map λt=>(t.2.1,t.2.2):=by
   rw[List.zip_map']
  rw[this]
  exact js.map _
def Ua {G:Hp->V->B->Prop}{c:Nat}(d:B)(OL:OrdT lt)(hu:X.A.units+(c+2)<cLine)(Bqz:∀aa U H,Sb X aa U H κ lt (G H) c):ZM X (.builtin "sorted") (λxs H Q=>∃ l ys as,xs=[.ref l]/\SqL X.K H l ys/\Paired (G H) ys as/\as.Nodup/\as.length<64/\∀p zs,H p=none->(zs.zip (Zt lt as)).Perm (ys.zip as)->zs.length=as.length->Q (.ref p) (upd H p (.lst zs))):=by
 intro aa s U H xs us Q I rr h
 obtain⟨l,ys,as,rfl,hq,hp,cK,fw,q⟩:=h
 obtain⟨u,rfl,ru⟩:=VI rr
 cases ru
 obtain⟨its,rv,pl,hz⟩:=I.list hq
 have af:its.length=as.length:=by rw[←Paired.len hp];exact rv.length.symm
 refine Calls.call_function_entry kind_sorted plain_sorted entry_sorted (args_sorted1 _) ?_
 unfold Builtin.«sorted»
 refine wpAny_bind (m:=checkCount "sorted" 1 1 _) (wpAny_pure (wpAny_bind (collect_list pl.isList ?_ (by rw[af,sizeLine_eq];omega))))
 have I1:Inv X aa U H {s with heap:=(s.heap.push (seqObj "list" #[] 0)).update s.heap.objs.size (Obj.mapSeq (· ++its.toArray)),toks:=s.toks}:=I.kept λb o hb=>by
  have ah:=Heap.lt_size hb
  rw[Heap.get?_update_ne _ _ _ _ (Nat.ne_of_lt ah),Heap.get?_push_ne _ _ _ (Nat.ne_of_lt ah)]
  exact hb
 refine wpAny_mono (BR d (A:=X.A.in1) I1 rv hp cK fw OL (by rw[YM];omega) (Bqz aa U H) (R:=λp s'=>EP X aa U Q (.ref p) s') λzs s' I' hf dU iH=>⟨.ref _,_,I',rfl,q _ zs hf dU iH⟩) (λfin s' r9=>?_) λ_ _ x=>x
 obtain⟨p,e,r⟩:=r9
 subst e
 exact⟨_,rfl,r⟩
end
section
variable [DecidableEq L]{r:Enc L}{lt:L->L->Bool}{d:Nat}
def OD (K:W.Frag)(r:Enc L)(lt:L->L->Bool):List V->Hp->VK->Prop:=λxs H Q=>∃ l ys as,xs=[.ref l]/\SqL K H l ys/\Paired (rL r K H) ys as/\as.Nodup/\as.length<64/\
 ∀p zs,H p=none->(zs.zip (Zt (ltG lt) as)).Perm (ys.zip as)->zs.length=as.length->Q (.ref p) (upd H p (.lst zs))
theorem UV (E:EqOk r d)(Lqz:LtOk r lt d)(O:OrdT lt)(K:W.Frag)(hK:X.K=K)(hu:X.A.units+(d+3)<cLine):ZM X (.builtin "sorted") (OD K r lt):=by
 subst hK
 refine Ua (G:=λH=>rL r X.K H) (c:=d+1) (κ:=oneType') [] (FV O) hu λaa U H=>{
  hq:=fun {s} I {v y z a b} r1 r2 l1 l2=>by
   obtain⟨b1,z1,w1,m1⟩:=id l1
   obtain⟨b2,z2,w2,m2⟩:=id l2
   rw[w1] at r1 l1
   rw[w2] at r2 l2
   have fR:v= .ref b1:=r1
   have fe:v= .ref b2:=r2
   rw[fR] at fe
   cases fe
   exact(MK E).uniq I l1 l2
  hk:=fun {A Er s} I T hT h2 Q q=>Hs (λv hv=>?_) (λe=>by rw[List.map_eq_nil_iff.mp e] at h2;simp at h2) q
  ha:=fun {A Er s} I {v w y z a b} r1 r2 l1 l2 hA Q q=>by
   rw[keyLt'_oneType,oneLt'_eq]
   simp only[if_true]
   obtain⟨b1,b2,o1,o2,v1,v2,g1,c1,g2,c2,ju⟩:=Mr E Lqz I (prog:=X.prog) (w:=X.w) (A:=A) (Er:=Er) r1 r2 l1 l2 hA (Q:=λu s'=>u= .bool (ltG lt a b)/\s'=s) ⟨rfl,rfl⟩
   rw[v1,v2]
   refine wpAny_bind (wpAny_cRoomFor (by omega) (wpAny_bind (wpAny_callSpecialIfBound?_slot ⟨_,g1,c1⟩ F.slot_list_lt (thn ju λu s' ⟨ev,es⟩=>?_))))
   subst ev es
   exact wpAny_truthy_bool q}
 obtain⟨t,ht,rfl⟩:=List.mem_map.mp hv
 obtain⟨r1,a,zs,w1,m1,_⟩:=hT t ht
 rw[w1] at r1
 have fR:t.1= .ref a:=r1
 obtain⟨its',_,⟨o,n,g1,c1,_,_⟩,_⟩:=I.list m1
 rw[fR]
 exact⟨o,g1,c1⟩
end
section
end
section
def P3.tri {F:M->L->B->Prop}:∀{l m n},P3 F l m n->∃T:List (M×L×B),T.map (·.1)=l/\T.map (·.2.1)=m/\T.map (·.2.2)=n/\∀t∈T,F t.1 t.2.1 t.2.2:=λp=>by
 induction p with
 |nil=>exact⟨[],rfl,rfl,rfl,λt h=>nomatch h⟩
 |cons r _ ih=>
  obtain⟨T,e1,e2,e3,h⟩:=ih
  exact⟨(_,_,_)::T,by rw[List.map_cons,e1],by rw[List.map_cons,e2],by rw[List.map_cons,e3],λt ht=>(List.mem_cons.mp ht).elim (λz=>z▸r) (h t)⟩
def P3.oft {F:M->L->B->Prop}:∀{T:List (M×L×B)},(∀t∈T,F t.1 t.2.1 t.2.2)->P3 F (T.map (·.1)) (T.map (·.2.1)) (T.map (·.2.2)):=fun {T}=>by
 induction T with
 |nil=>intro _;exact .nil
 |cons t T ih=>intro h;exact .cons (h t List.mem_cons_self) (ih λu hu=>h u (List.mem_cons_of_mem _ hu))
def PH {a:List M}{b:List L}(h:a.zip b=a'.zip b')(h1:a.length=b.length)(h2:a'.length=b'.length):a=a'/\b=b':=by
 have e1:=congrArg (List.map Prod.fst) h
 have e2:=congrArg (List.map Prod.snd) h
 rw[List.map_fst_zip (by omega),List.map_fst_zip (by omega)] at e1
 rw[List.map_snd_zip (by omega),List.map_snd_zip (by omega)] at e2
 exact⟨e1,e2⟩
def P3.perm {F:M->L->B->Prop}{m:List L}{n:List B}(p:P3 F l m n)(h:(zs.zip bs).Perm (l.zip m))(hl:zs.length=bs.length):∃n',P3 F zs bs n'/\n'.Perm n:=by
 obtain⟨T,e1,e2,e3,hT⟩:=p.tri
 have ez:T.map (λt=>(t.1,t.2.1))=l.zip m:=by rw[←e1, ←e2,List.zip_map']
 obtain⟨T',hp,e⟩:=DP h ez.symm
 have:(T'.map (·.1)).zip (T'.map (·.2.1))=zs.zip bs:=by rw[List.zip_map'];exact e
 obtain⟨f1,f2⟩:=PH this (by simp) hl
 refine⟨T'.map (·.2.2),?_,by rw[←e3];exact hp.map _⟩
 rw[←f1, ←f2]
 exact P3.oft λt ht=>hT t (hp.mem_iff.mp ht)
def Nh [DecidableEq L]{r:Enc L}{o:OE (List L)}[z:MonoO o][zf:FrzC o (rV r)]{m:Rs (List (List L))}(he:Ev K Er S OO OO' U te (oL o) m):
  Ev K Er S OO OO' U (tCB (OD K r lt) (Xm te Yo)) (oL o) (m.bind λas=>chk (as.length<64/\as.Nodup) (.ok (Zt (ltG lt) as))):=λH Q w s P=>by
 refine he H _ w s ?_
 cases m with
 |bad=>exact P
 |err x=>exact P
 |ok as=>
  intro v C H1 s1 w1 m1 ⟨p,xs,Cs,e,q,c⟩
  subst c
  obtain⟨⟨fw,cK⟩,P⟩:=PZ.chk (show PZ Er (FO K OO OO' (oL o) Q) H (chk (as.length<64/\as.Nodup) (.ok (Zt (ltG lt) as))) from P)
  have hH:H1 p=some (.lst xs):=w1.cell (p, .lst xs) List.mem_cons_self
  refine⟨p,xs,as,by rw[e],SqL.of hH,?_,cK,fw,λp2 zs cT dU af=>?_⟩
  ·refine q.pair λa b c hc ho=>T4 (zf.frz ho Xn λx hx=>w1.cell x (List.mem_cons_of_mem _ (List.mem_flatten.mpr ⟨c,hc,hx⟩)))
  ·have hsl:(Zt (ltG lt) as).length=as.length:=(YC _ as).length_eq
   obtain⟨Cs',q',hCs⟩:=q.perm dU (by rw[hsl];exact af)
   have w2:W (Cs'.flatten::OO') H1:=w1.sub (OO':=Cs.flatten::OO') (by simp) |>.of (by simp only[List.flatten_cons];exact hCs.flatten.append_right _)
   have w3:=w2.new cT (o:=.lst zs) rfl
   have w4:W (((p2, .lst zs)::Cs'.flatten)::OO') (upd H1 p2 (.lst zs)):=w3.of (by simp)
   have mm:Xp (hid H1 (((p,HO.lst xs)::Cs.flatten)::OO')) (hid (upd H1 p2 (.lst zs)) (((p2,HO.lst zs)::Cs'.flatten)::OO')):=λb ob hb=>by
    obtain⟨b1,b2⟩:=XM hb
    have aL:b≠p2:=XQ b1 cT
    refine YA (by rw[XH aL];exact b1) λhz=>b2 ?_
    rw[XB,List.map_cons] at hz⊢
    rcases List.mem_cons.mp hz with y |y
    ·exact absurd y aL
    ·refine List.mem_cons_of_mem _ ?_
     rcases List.mem_append.mp y with y |y
     ·exact List.mem_append_left _ ((hCs.flatten.map _).mem_iff.mp y)
     ·exact List.mem_append_right _ y
   exact P (.ref p2) _ _ (s1.trans (Xv cT _)) w4 (m1.trans mm) ⟨p2,zs,Cs',rfl,q'.imp λ_ _ _ h=>z.mono mm h,rfl⟩
def SM [z:MonoO o][zf:FrzC o r][zr:MonoE r](i k:Nat)(hn:0<n)(hσ:U[i]?=some (some v))(hk:OO[k]?=some C)(h:∀x,S.p x->oL o K x v as C)
  (hc:∀(D:List XD) a u,EvT Er (S.add K r u a) (D::OO.set k []) ((X5 n caps U).set 0 (some u)) tt (c a)):
  Ev K Er S OO (OO.set k []) U (F1 n caps (FE K (Q0 i)) (YI 0) tt (Q0 0)) (oL o) ((Rs.ok as).bind λas=>T6 as c λa=>.ok a):=λH Q w s P=>by
 obtain⟨p,xs,Cs,e,q,cc⟩:=h _ s
 subst cc e
 obtain⟨hsz,P⟩:=PZ.chk (show PZ Er (FO K OO (OO.set k []) (oL o) Q) H (chk (as.length<=sizeLine) (KP as c λa=>.ok a)) from P)
 have pm:=XN hk
 have hH:H p=some (.lst xs):=w.tr (p, .lst xs) (List.mem_flatten.mpr ⟨_,List.mem_of_getElem? hk,List.mem_cons_self⟩)
 have hxl:=q.len.1
 have w1:W (((p, .lst xs)::Cs.flatten)::OO.set k []) H:=w.of pm
 have nd1:=w1.nd
 rw[XB] at nd1
 have hm0:∀{H2},Xp H H2->Xp (hid H OO) (hid H2 ([]::OO.set k [])):=fun {H2} s2=>by
  rw[YK, ←XF pm]
  exact Zv s2 λb hb=>by rw[XB];exact List.mem_append_right _ hb
 refine⟨.ref p,hσ,p,rfl,⟨xs,SqL.of hH⟩,?_⟩
 refine HY (xs:=xs) (λi ys H2=>∃ bs Ds,Xp H H2/\P3 (o K (hid H OO)) ys bs Ds/\Ds.flatten.Sublist (Cs.take i).flatten/\bs.length<=i/\i<=as.length/\PZ Er (FO K OO (OO.set k []) (oL o) Q) H ((KP (as.drop i) c λa=>.ok a).bind λZA=>.ok (bs++ZA))) ?_ ?_ ?_ ?_
 ·refine⟨[],[],Xp.refl _, .nil,by simp,Nat.le_refl _,Nat.zero_le _,?_⟩
  rw[List.drop_zero]
  revert P
  cases KP as c (λa=>Rs.ok a)<;> exact λz=>z
 ·rintro i ys H2 hi ⟨bs,Ds,s2,q2,_,hb,fz,_⟩
  exact⟨SqL.of (s2 _ _ hH),by rw[q2.len.1];omega⟩
 ·rintro i x ys H2 hx ⟨bs,Ds,s2,q2,sb,hb,fz,P2⟩
  have ah:i<as.length:=by rw[←hxl];exact(List.getElem?_eq_some_iff.mp hx).1
  obtain⟨x',c0,dF,hc0,ho⟩:=P3.get q (show as[i]?=some as[i] by simp[ah])
  rw[hx] at dF
  cases dF
  have jd:=(List.getElem?_eq_some_iff.mp hc0)
  have bd:∀y∈c0,y∈Cs.flatten:=λy hy=>List.mem_flatten.mpr ⟨c0,List.mem_of_getElem? hc0,hy⟩
  have rx:r K (hid H2 ([]::OO.set k [])) x as[i]:=zf.frz ho (hm0 s2) λy hy=>by
   have hy1:=w1.cell y (List.mem_cons_of_mem _ (bd y hy))
   rw[YK]
   refine YA (s2 _ _ hy1) λhz=>?_
   exact(List.nodup_append.mp nd1).2.2 y.1 (List.mem_map.mpr ⟨y,List.mem_cons_of_mem _ (bd y hy),rfl⟩) y.1 hz rfl
  rw[List.drop_eq_getElem_cons ah] at P2
  have az:PZ Er (FO K OO (OO.set k []) (oL o) Q) H ((c as[i]).bind λb=>(if b=true then(Rs.ok as[i]).bind λb=>(KP (as.drop (i+1)) c λa=>.ok a).bind λbs=>.ok (b::bs) else KP (as.drop (i+1)) c λa=>.ok a).bind λZA=>.ok (bs++ZA)):=by
   rw[←XZ];exact P2
  refine hc [] as[i] x H2 _ ((w1.tail.keep s2).nil) ⟨S.mono _ _ (hm0 s2) s,rx⟩ ?_
  cases ec:c as[i] with
  |bad=>rw[ec] at az;exact az
  |err ex=>rw[ec] at az;exact λH4 s4=>az H4 (s2.trans s4)
  |ok b=>
   rw[ec] at az
   intro H4 s4
   have tk:(Cs.take (i+1)).flatten=(Cs.take i).flatten++c0:=by
    rw[List.take_succ_eq_append_getElem jd.1,List.flatten_append,jd.2];simp
   cases b with
   |false=>
    refine⟨bs,Ds,s2.trans s4,q2,sb.trans ?_,Nat.le_succ_of_le hb,ah,az⟩
    rw[tk];exact List.sublist_append_left _ _
   |true=>
    rw[if_pos rfl]
    refine⟨x,?_,bs++[as[i]],Ds++[c0],s2.trans s4,q2.snoc ho,?_,by simp;omega,ah,?_⟩
    ·unfold X5
     rw[List.getElem?_set_self (by simp;omega)]
    ·rw[tk,List.flatten_append]
     exact sb.append (by simp)
    ·have:((KP (as.drop (i+1)) c λa=>Rs.ok a).bind λZA=>Rs.ok ((bs++[as[i]])++ZA))=((Rs.ok as[i]).bind λb=>(KP (as.drop (i+1)) c λa=>.ok a).bind λbs=>.ok (b::bs)).bind λZA=>.ok (bs++ZA):=by
      rw[XZ,Rs.ok_bind,XZ];congr 1;funext ZA;rw[Rs.ok_bind,List.append_assoc];rfl
     rw[this];exact az
 ·rintro ys H2 p2 ⟨bs,Ds,s2,q2,sb,hb,fz,P2⟩ cT
  rw[hxl,List.drop_length] at P2
  have P2:FO K OO (OO.set k []) (oL o) Q bs H:=by
   have e:((KP ([]:List M) c λa=>Rs.ok a).bind λZA=>Rs.ok (bs++ZA))= .ok bs:=by show Rs.ok (bs++[])=_;rw[List.append_nil]
   rw[e] at P2;exact P2
  have sb2:Ds.flatten.Sublist Cs.flatten:=sb.trans (by
   rw[List.take_of_length_le (by rw[hxl, ←q.len.2];exact Nat.le_refl _)]
   exact List.Sublist.refl _)
  have w2:W (Ds.flatten::OO.set k []) H2:=(w1.keep s2).sub (by
   simp only[List.flatten_cons,List.cons_append]
   exact(sb2.append_right _).trans (List.sublist_cons_self ..))
  have w3:=w2.new cT (o:=.lst ys) rfl
  have w4:W (((p2, .lst ys)::Ds.flatten)::OO.set k []) (upd H2 p2 (.lst ys)):=w3.of (by simp)
  have mm:Xp (hid H OO) (hid (upd H2 p2 (.lst ys)) (((p2,HO.lst ys)::Ds.flatten)::OO.set k [])):=λb ob hb=>by
   rw[←XF pm] at hb
   obtain⟨b1,b2⟩:=XM hb
   have b3:=s2 _ _ b1
   have aL:b≠p2:=XQ b3 cT
   refine YA (by rw[XH aL];exact b3) λhz=>b2 ?_
   rw[XB,List.map_cons] at hz⊢
   rcases List.mem_cons.mp hz with y |y
   ·exact absurd y aL
   ·refine List.mem_cons_of_mem _ ?_
    rcases List.mem_append.mp y with y |y
    ·exact List.mem_append_left _ ((sb2.map _).mem y)
    ·exact List.mem_append_right _ y
  exact P2 (.ref p2) _ _ (s2.trans (Xv cT _)) w4 mm ⟨p2,ys,Ds,rfl,q2.imp λ_ _ _ hh=>z.mono mm hh,rfl⟩
end
section
variable {u:TS}[fd:FdOk Fd]
def WI:LtOk (rV Xf) (ltG ltI) 1:=LtOk.imp (N6 eq_int lt_int) T4
end
section
variable {u:TS}
def Th (K:W.Frag)(o:OE ρ)(Cf:List XD)(Q:VK)(b:ρ)(h:Hp):Prop:=∀ v C H',W [C++Cf] H'->Xp h (hid H' [C++Cf])->o K (hid H' [C++Cf]) v b C->Q v H'
def AE (K:W.Frag)(o:OE ρ)(k:Nat)(Cf:List XD)(D:Ends)(b:ρ)(h:Hp):Prop:=∀ v C OO' H',OO'[k]?=some Cf->W (C::OO') H'->Xp h (hid H' (C::OO'))->o K (hid H' (C::OO')) v b C->D.rt v H'
instance {o:OE ρ}{k:Nat}{Cf:List XD}:FdOk (AE K o k Cf):=⟨λD b h h' s q v C O H' e w m x=>q v C O H' e w (s.trans m) x⟩
def qe (r1:Enc α1)(o:OE ρ)(f:α1->Rs ρ)(K:W.Frag):Sp:=λvs H Q _=>∃ v1 a1 b,vs=[v1]/\∃Cf,W [Cf] H/\r1 K (hid H [Cf]) v1 a1/\f a1= .ok b/\Th K o Cf Q b (hid H [Cf])
def AU (r1:Enc α1)(r2:Enc α2)(o:OE ρ)(f:α1->α2->Rs ρ)(K:W.Frag):Sp:=λvs H Q _=>∃ v1 v2 a1 a2 b,vs=[v1,v2]/\∃Cf,W [Cf] H/\r1 K (hid H [Cf]) v1 a1/\r2 K (hid H [Cf]) v2 a2/\f a1 a2= .ok b/\Th K o Cf Q b (hid H [Cf])
def Fy {o:OE ρ}{m:Rs ρ}(k:Nat)(hk:OO'[k]?=some Cf)(he:Ev K Er S OO OO' U te o m):Sv Er S OO U (Zd (W9 te) u) (AE K o k Cf) m:=λH D w s P=>
 he H _ w s (by
  cases m with
  |bad=>exact P
  |err x=>exact λH' s'=>P H' (Xn.trans s')
  |ok a=>exact λv C H' s' w' m' ho=>P v C OO' H' hk w' m' ho)
def Ia {o:OE ρ}[zo:MonoO o]{m:Rs ρ}{Q:VK}{b:ρ}(n:Nat)(h:Sv (λ_ _=>False) S (List.replicate n []++[Cf]) U t (AE K o n Cf) m)(w:W [Cf] H)(hs:S.p (hid H [Cf]))(hm:m= .ok b)(qf:Th K o Cf Q b (hid H [Cf]))(hD:D.rt=Q):t D U H:=by
 have pe:(List.replicate n ([]:List XD)++[Cf]).flatten.Perm [Cf].flatten:=by
  rw[List.flatten_append,Yh,List.nil_append]
 refine h H D (w.of pe) (by rw[XF pe];exact hs) ?_
 subst hm
 rw[XF pe]
 intro v C OO' H' hk w' m' ho
 rw[hD]
 have hp:=XN hk
 have wk:W (C::Cf::OO'.set n []) H':=w'.of (by rw[List.flatten_cons,List.flatten_cons (l:=C)];exact hp.append_left C)
 have eh:hid H' (C::OO')=hid H' (C::Cf::OO'.set n []):=(XF (by rw[List.flatten_cons,List.flatten_cons (l:=C)];exact hp.append_left C)).symm
 have am:Xp (hid H' (C::OO')) (hid H' [C++Cf]):=by
  rw[eh]
  exact Zv (Xp.refl _) λb hb=>by
   rw[XB,XB, ←List.append_assoc]
   refine List.mem_append_left _ ?_
   simpa[fl] using hb
 exact qf v C H' (wk.sub (by simp)) (m'.trans am) (zo.mono am ho)
def Sc {o:OE ρ}{Q:VK}{b:ρ}(w:W OO H)(P:FO K OO OO o Q b H):Th K o OO.flatten Q b (hid H OO):=λv C H' w' m' ho=>by
 have e1:([C++OO.flatten]:List (List XD)).flatten=(C::OO).flatten:=by simp
 have e2:hid H' [C++OO.flatten]=hid H' (C::OO):=by unfold hid fl;rw[e1]
 rw[e2] at m' ho
 have w2:W (C::OO) H':=w'.of (by rw[e1])
 refine P v C H' (λx ob hx=>?_) w2 m' ho
 by_cases hb:x∈fl OO
 ·obtain⟨oo,hoo⟩:=Hk hb
  have h1:=w.tr _ hoo
  rw[hx] at h1
  cases h1
  exact w2.tail.tr _ hoo
 ·exact(XM (m' _ _ (YA hx hb))).1
def KS:hid H [OO.flatten]=hid H OO:=by unfold hid fl;rw[show([OO.flatten]:List (List XD)).flatten=OO.flatten by simp]
def W.one (w:W OO H):W [OO.flatten] H:=w.of (by simp)
def L4 [MonoE r1]{o:OE ρ}{f:α1->Rs ρ}{ma:Rs α1}(ha:EvS K Er S OO U ta r1 ma):Ev K Er S OO OO U (Q6 (qe r1 o f K) [] E0 (Xm ta Yo)) o (ma.bind λa=>noE (f a)):=λH Q w s P=>
 ha.run w s FO.tr P λa x H1 s1 w1 q1 r1 P1=>by
  obtain⟨b,hb,P2⟩:=P1.okOf λx=>U1
  exact⟨x,a,b,rfl,OO.flatten,w1.one,by rw[KS];exact r1,U4 hb,by rw[KS];exact Sc w1 P2⟩
def LN [z1:MonoE r1][MonoE r2]{o:OE ρ}{f:α1->α2->Rs ρ}{ma:Rs α1}{mb:Rs α2}(ha:EvS K Er S OO U ta r1 ma)(hb:EvS K Er S OO U tb r2 mb):
  Ev K Er S OO OO U (Q6 (AU r1 r2 o f K) [] E0 (Xm ta (Xm tb Yo))) o (ma.bind λa=>mb.bind λb=>noE (f a b)):=λH Q w s P=>
 ha.run w s FO.tr P λa x H1 s1 w1 q1 r1 P1=>hb.run w1 q1 FO.tr P1 λb y H2 s2 w2 q2 r2 P2=>by
  obtain⟨c,hc,P3⟩:=P2.okOf λx=>U1
  exact⟨x,y,a,b,c,rfl,OO.flatten,w2.one,by rw[KS];exact z1.mono (Xh s2) r1,by rw[KS];exact r2,U4 hc,by rw[KS];exact Sc w2 P3⟩
end
section
variable [fd:FdOk Fd]{u:TS}
end
section
end
section
end
section
end
section
variable {lt:M->M->Bool}{d:Nat}
end
section
end
section
variable {s0:Shared}
end
section
end
section
variable {E:XK}
end
section
variable {o:Expr}{to:TE}{t:TA}{name:Str}{aI ao:Pos}{id:String}{r:V->List V->Hp->VK->Prop}
end
section
end
section
variable [fd:FdOk Fd]{u:TS}
def Pp {q:Enc B}[z:MonoE r][y:MonoE q][MonoE t]{ma:Rs M}{mb:Rs B}{mc:Rs δ}{f:M->B->δ->Rs L}(i j k:Nat)(ha:EvS K Er S OO U ta r ma)(hb:EvS K Er S OO U tb q mb)(hc:EvS K Er S OO U tc t mc)
  (hr:∀a b c v w x,Sv Er (((S.add K r v a).add K q w b).add K t x c) OO (((U.set i (some v)).set j (some w)).set k (some x)) u Fd (f a b c)):Sv Er S OO U (Zd (RJ i j k (Xm ta (Xm tb (Xm tc Yo)))) u) Fd (ma.bind λa=>mb.bind λb=>mc.bind λc=>f a b c):=λH D w s P=>
 ha.st w s P λa v1 H1 s1 w1 q1 r1 P1=>hb.st w1 q1 P1 λb v2 H2 s2 w2 q2 r2 P2=>hc.st w2 q2 P2 λc v3 H3 s3 w3 q3 r3 P3=>
  ⟨v1,v2,v3,rfl,hr a b c v1 v2 v3 H3 D w3 ⟨⟨⟨q3,z.mono (Xh s3) (z.mono (Xh s2) r1)⟩,y.mono (Xh s3) r2⟩,r3⟩ P3⟩
end
end L2
namespace HT
open PySem PySem.Spec PyProof PyProof.Rows
section
end
end HT
namespace L2
open PySem PySem.Spec PyProof.Rows
section
end
section
end
section
variable [fd:FdOk Fd]{u:TS}
def Lh [MonoE r]{a:Option M}(h:∀x,S.p x->JI r K x v a)(hr:∀b,Sv Er (S.add K r v b) OO U u Fd (f b)):Sv Er S OO U u Fd ((Ta a).bind f):=λH D w s P=>by
 cases a with
 |none=>exact P.elim
 |some b=>exact hr b H D w ⟨s,(h _ s).2⟩ P
end
section
variable {E:XK}{u:TS}
end
section
def ltP (a b:Int×Int):Bool:=if a.1=b.1 then decide (a.2<b.2) else decide (a.1<b.1)
def F7:OrdT ltP:=⟨⟨λa=>by simp[ltP],fun {a b c} h1 h2=>by
 unfold ltP at*
 split at h1<;> split at h2<;> split<;> simp only[decide_eq_true_eq] at* <;> omega⟩,fun {a b} h=>by
 unfold ltP
 by_cases e:a.1=b.1
 ·rw[if_pos e,if_pos e.symm,decide_eq_true_eq,decide_eq_true_eq]
  have:a.2≠b.2:=λz=>h (Prod.ext e z)
  omega
 ·rw[if_neg e,if_neg (Ne.symm e),decide_eq_true_eq,decide_eq_true_eq];omega⟩
def Ij {x y:V}(h:X0 [x,y] us):∃a b,us=[a,b]/\XW x a/\XW y b:=by
 cases h with
 |cons a b=>cases b with
  |cons c d=>cases d with
   |nil=>exact⟨_,_,rfl,a,c⟩
def Pf (K:W.Frag):List V->Hp->VK->Prop:=λxs H Q=>∃ l ys,∃as:QPs,xs=[.ref l]/\SqL K H l ys/\Paired (rP2 Xf Xf K H) ys as/\as.Nodup/\as.length<64/\
 ∀p zs,H p=none->(zs.zip (Zt ltP as)).Perm (ys.zip as)->zs.length=as.length->Q (.ref p) (upd H p (.lst zs))
def A1 (I:Inv X aa U H s):∀(T:List (Value×V×Int×Int)),(∀t∈T,XW t.2.1 t.1/\rP2 Xf Xf X.K H t.2.1 t.2.2)->∃fs,PySem.W.KatTups s.heap (T.map (·.1)) fs/\fs.length=T.length/\∀v∈fs,∃i t,v= .int i t
 | [],_=>⟨[], .nil,rfl,λv h=>nomatch h⟩
 |t::T,h=>by
  obtain⟨fs,k1,k2,k3⟩:=A1 I T λu hu=>h u (List.mem_cons_of_mem _ hu)
  obtain⟨r1,a,x,y,w1,m1,h1,h2⟩:=h t List.mem_cons_self
  rw[w1] at r1
  have fR:t.1= .ref a:=r1
  obtain⟨its,rv,⟨o,g1,c1,n,d1⟩,_⟩:=I.tuple (SqT.of m1)
  have e1:x= .int t.2.2.1:=h1
  subst e1
  obtain⟨u1,us,rfl,⟨tk,e2⟩,rr⟩:∃u1 us,its=u1::us/\XW (.int t.2.2.1) u1/\X0 [y] us:=by
   cases rv with
   |cons a b=>exact⟨_,_,rfl,a,b⟩
  refine⟨u1::fs,?_,by simp[k2],λv hv=>?_⟩
  ·rw[List.map_cons,fR]
   exact .cons g1 c1 d1 (by simp) k1
  ·rcases List.mem_cons.mp hv with z |z
   ·exact⟨_,_,z.trans e2⟩
   ·exact k3 v z
def AX:Sb X aa U H (tuples' true) ltP (rP2 Xf Xf X.K H) 1 where
 hq:=fun {s} I {v y z a b} r1 r2 l1 l2=>by
  obtain⟨b1,x1,y1,w1,m1⟩:=id l1
  obtain⟨b2,x2,y2,w2,m2⟩:=id l2
  rw[w1] at r1 l1
  rw[w2] at r2 l2
  have fR:v= .ref b1:=r1
  have fe:v= .ref b2:=r2
  rw[fR] at fe
  cases fe
  exact(SY eq_int eq_int).uniq I l1 l2
 hk:=fun {A Er s} I T hT h2 Q q=>by
  obtain⟨fs,k1,k2,k3⟩:=A1 I T hT
  refine PySem.W.kat_kind (T:=.type "int") k1 (by rw[k2];omega) (λv hv=>?_) rfl q
  obtain⟨i,t,rfl⟩:=k3 v hv
  exact .now
 ha:=fun {A Er s} I {v w y z a b} r1 r2 l1 l2 hA Q qq=>by
  obtain⟨a1,x1,y1,v1,m1,ji,hy1⟩:=l1
  obtain⟨a2,x2,y2,v2,m2,dS,jv⟩:=l2
  rw[v1] at r1
  rw[v2] at r2
  have fR:v= .ref a1:=r1
  have fe:w= .ref a2:=r2
  obtain⟨is1,iG,⟨o1,g1,_,n1,d1⟩,_⟩:=I.tuple (SqT.of m1)
  obtain⟨is2,fO,⟨o2,g2,_,n2,d2⟩,_⟩:=I.tuple (SqT.of m2)
  rw[show x1=V.int a.1 from ji,show y1=V.int a.2 from hy1] at iG
  rw[show x2=V.int b.1 from dS,show y2=V.int b.2 from jv] at fO
  obtain⟨p1,p2,rfl,q1,q2⟩:=Ij iG
  obtain⟨p3,p4,rfl,q3,q4⟩:=Ij fO
  rw[fR,fe]
  refine PySem.W.kat_lt g1 d1 g2 d2 ?_
  show PySem.W.KatLex _ _ _ true _ _ [(p1,p3),(p2,p4)] 0 _
  refine PySem.W.kat_cons (eq_int.eq (A:=A) I q1 q3 rfl rfl (by omega) _ _ _ _ ?_)
  refine PySem.W.kat_go (λz=>PySem.W.kat_yes (PySem.W.kat_cons (eq_int.eq (A:=A) I q2 q4 rfl rfl (by omega) _ _ _ _ (PySem.W.kat_go (λy=>PySem.W.kat_yes (PySem.W.kat_nil ?_)) λy=>PySem.W.kat_no (PySem.W.kat_one _ _ ?_))))) λz=>PySem.W.kat_no ?_
  ·have z:=of_decide_eq_true z
   have y:=of_decide_eq_true y
   unfold ltP at qq
   rwa [if_pos z,decide_eq_false (by omega)] at qq
  ·have z:=of_decide_eq_true z
   have y:=of_decide_eq_false y
   unfold ltP at qq
   rw[if_pos z] at qq
   exact lt_int.at' (A:=A) I q2 q4 rfl rfl (by omega) _ _ _ _ qq
  ·have z:=of_decide_eq_false z
   unfold ltP at qq
   rw[if_neg z] at qq
   obtain⟨tk1,rfl⟩:=q1
   obtain⟨tk3,rfl⟩:=q3
   exact oneLt_int qq
def DW (K:W.Frag)(hK:X.K=K)(hu:X.A.units+4<cLine):ZM X (.builtin "sorted") (Pf K):=by
 subst hK
 exact Ua (G:=λH=>rP2 Xf Xf X.K H) (0,0) F7 (by omega) λ_ _ _=>AX
end
section
def Wj {l sl:Addr}{items ys:List Value}{vl vu:Value}{lo hi:Option Int}{Q:Unit->Shared->Prop}(hl:s.heap.get? l=some {cls:=.type "list",data:=.seq items.toArray n})
  (hs:s.heap.IsSliceOf sl vl vu .none)(pl:IsPart vl lo)(pu:IsPart vu hi)(hb:s.heap.IsList b ys.toArray)(aL:l≠b)(hz:items.length+ys.length<=sizeLine)
  (h:Q () {s with heap:=s.heap.update l (Obj.mapSeq λxs=>xs.extract 0 (HT.sIx items.length 0 lo)++ys.toArray++xs.extract (max (HT.sIx items.length 0 lo) (HT.sIx items.length items.length hi)) xs.size)}):
  wpAny (model prog w) A (setItem (.ref l) (.ref sl) (.ref b)) Q E s:=by
 have hL:s.heap.IsList l items.toArray:=PySem.IsL.isList (n:=n) hl
 obtain⟨ob,hob,hbc,nb,hbd⟩:=id hb
 obtain⟨os,eB,fq,gl⟩:=id hs
 have hTs:s.TypeIs (.ref sl) "slice":=⟨os,eB,fq⟩
 unfold setItem
 try with_reducible refine wpAny_holding ?_
 first |refine wpAny_bind (wpAny_pure ?_) |skip
 refine wpAny_bind (wpAny_sequenceKey hL.typeIs (by decide) ?_)
 refine wpAny_bind (wpAny_callSpecial?_slot (name:=Str.ofString "__setitem__") hL.typeIs slot_list_setitem
  (wpAny_call_entry slot_list_setitem hL.typeIs entry_list_setitem ?_ (args_list_setitem _ _ _)))
 show wpAny _ _ (Builtin.List.listSubscript? (.ref sl) >>= _) _ _ s
 refine wpAny_bind ?_
 unfold Builtin.List.listSubscript?
 refine wpAny_bind (wpAny_specialOf hTs slice_no_index ?_)
 simp only[Option.isNone_none,if_true]
 refine wpAny_pure ?_
 show wpAny _ _ (typeOf (.ref sl) >>= _) _ _ s
 refine wpAny_bind (wpAny_typeOf hTs ?_)
 rw[if_neg (by decide)]
 rw[listSliceParts_eq]
 refine wpAny_bind (wpAny_bind (wpAny_field eB gl (x:=.none) rfl (wpAny_bind (wpAny_listPart .none ?_))))
 rw[if_neg (show ¬((rawPart none==rawInt 0)=true) from Bool.false_ne_true)]
 refine wpAny_bind (wpAny_field eB gl (x:=vl) rfl (wpAny_bind (wpAny_listPart pl ?_)))
 refine wpAny_bind (wpAny_field eB gl (x:=vu) rfl (wpAny_bind (wpAny_listPart pu (wpAny_pure ?_))))
 dsimp only
 rw[if_neg (by
  have:(l==b)=false:=by rw[beq_eq_false_iff_ne];exact aL
  simp[Builtin.List.listSameRef,this])]
 unfold Builtin.List.listAllItems
 refine wpAny_bind (wpAny_bind (wpAny_typeOf hb.typeIs ?_))
 rw[if_pos (by decide)]
 unfold Builtin.List.listItems
 refine wpAny_bind (wpAny_seqItems hob hbd (wpAny_pure ?_))
 refine wpAny_bind (wpAny_bind (wpAny_seqItems hl rfl (wpAny_pure ?_)))
 obtain⟨b1,b2,b3⟩:=Uk lo hi items.length
 refine wpAny_bind (wpAny_of_eq ((sliceIndices_raw lo hi none items.toArray.size (by simp)).trans (congrArg (pure:Int×Int×Int->Sem (Int×Int×Int)) (show sliceBounds lo hi none items.toArray.size=(((HT.sIx items.length 0 lo:Nat):Int),((HT.sIx items.length items.length hi:Nat):Int),1) by rw[List.size_toArray];exact Prod.ext b1 (Prod.ext b2 b3)))) ?_)
 show wpAny _ _ (if((1:Int)==1)=true then _ else _) _ _ s
 rw[if_pos (by decide)]
 refine wpAny_bind (wpAny_rule ?_)
 have hsz:items.toArray.size+ys.toArray.size<=sizeLine:=by rw[List.size_toArray,List.size_toArray];exact hz
 first
  |simp only[UG hsz,Bool.false_eq_true,if_false]
  |refine PySem.W.KFB.if_not (UG hsz) ?_
 first |refine wpAny_bind (wpAny_pure ?_) |skip
 have hmax:(max ((HT.sIx items.length 0 lo:Nat):Int) ((HT.sIx items.length items.length hi:Nat):Int)).toNat=max (HT.sIx items.length 0 lo) (HT.sIx items.length items.length hi):=by omega
 show wpAny _ _ (updateSeq l (λxs=>xs.extract 0 (((HT.sIx items.length 0 lo:Nat):Int)).toNat++ys.toArray++xs.extract (max ((HT.sIx items.length 0 lo:Nat):Int) ((HT.sIx items.length items.length hi:Nat):Int)).toNat xs.size) >>= _) _ _ s
 rw[hmax,Int.toNat_natCast]
 refine wpAny_bind (wpAny_updateSeq (hz:=Nat.le_trans (Nat.le_add_right _ _) hsz) (_hz':=by
  simp only[Array.size_append,Array.size_extract,List.size_toArray]
  have:HT.sIx items.length 0 lo<=items.length:=HT.sIx_le _ _ (Nat.zero_le _) lo
  omega) hl rfl ?_)
 refine wpAny_bind (wpAny_letGo ?_)
 first
  |exact wpAny_bind (wpAny_pure (wpAny_pure ⟨.none,rfl,wpAny_pure h⟩))
  |exact wpAny_pure ⟨.none,rfl,wpAny_pure h⟩
end
def spl (xs:List M)(lo hi:Option Int)(ys:List M):List M:=xs.take (HT.sIx xs.length 0 lo)++ys++xs.drop (max (HT.sIx xs.length 0 lo) (HT.sIx xs.length xs.length hi))
section
variable {o:Expr}{lo hi:Option Expr}{p2:Pos}{to:TE}{tl th:TO}
def gSl (to:TE)(tl th:TO):TG:=λv U H Q=>to U H λx H1=>tl U H1 λl H2=>th U H2 λu H3=>∃ p xs b ys,x= .ref p/\v= .ref b/\H3 p=some (.lst xs)/\H3 b=some (.lst ys)/\p≠b/\xs.length+ys.length<=sizeLine/\Q U (upd H3 p (.lst (spl xs l u ys)))
def Ax (ho:PE X o to)(hl:PO X lo tl)(hu:PO X hi th)
  (ha:∀v,assign (.Subscript o (.Slice lo hi none p2) pos) X.env v=(do
   let ov ←holding [v] (eval o X.env)
   let iv ←holding [v,ov] (eval (.Slice lo hi none p2) X.env)
   standAt pos
   holding [v,ov,iv] (setItem ov iv v)
   release [iv,v,ov] []):=by intro _;rfl):PG X (.Subscript o (.Slice lo hi none p2) pos) (gSl to tl th):=by
 intro aa s U H v u Q I r h
 rw[ha]
 refine wpAny_bind (wpAny_holding (thn (ho aa s U H _ I h) λov s1 r9=>?_))
 obtain⟨x,H1,I1,r1,q1⟩:=r9
 refine wpAny_bind (wpAny_holding (wpAny_Slice (thn (hl aa s1 U H1 _ I1 q1) λvl s2 ⟨l,H2,I2,pl,q2⟩=>thn (hu aa s2 U H2 _ I2 q2) λvu s3 r9=>?_)))
 obtain⟨u',H3,I3,pu,q3⟩:=r9
 rw[evalPart_none]
 refine wpAny_pure ?_
 have I4:Inv X aa U H3 {s3 with heap:=s3.heap.push {cls:=.type "slice",data:=.fields #[vl,vu, .none]}}:=I3.kept (t':=s3.toks) λb ob q=>Heap.get?_push_of_some _ q
 obtain⟨p,xs,b,ys,rfl,rfl,e1,e2,aL,hz,q⟩:=q3
 cases r1
 cases r
 obtain⟨its,n,rv,g1,z1⟩:=I4.lst e1
 obtain⟨aA,n2,fO,g2,z2⟩:=I4.lst e2
 have l1:=rv.length
 have l2:=fO.length
 refine wpAny_bind (wpAny_standAt (wpAny_bind (wpAny_holding (Wj g1 (Heap.IsSliceOf.new ..) pl pu (PySem.IsL.isList (n:=n2) g2) aL (by omega) ?_))))
 refine wpAny_release ⟨U,_,?_,q⟩
 rw[←l1]
 refine I4.lset (t':=s3.toks) (its':=its.take (HT.sIx xs.length 0 l)++aA++its.drop (max (HT.sIx xs.length 0 l) (HT.sIx xs.length xs.length u'))) e1 g1 (HQ its aA _ _) ?_ ?_
 ·exact X0.append (X0.append (rv.take _) fO) (rv.drop _)
 ·unfold spl
  rw[List.length_append,List.length_append,List.length_take,List.length_drop]
  have:HT.sIx xs.length 0 l<=xs.length:=HT.sIx_le _ _ (Nat.zero_le _) l
  omega
end
section
variable {G:Hp}
def Hq (H G:Hp):Hp:=λb=>match G b with
 |some o=>some o
 |none=>H b
def FQ {o:HO}(h:G b=some o):Hq H G b=some o:=by unfold Hq;rw[h]
def Vt (h:G b=none):Hq H G b=H b:=by unfold Hq;rw[h]
def Inv.laidG {t':Nat}(I:Inv X aa U H s)(k:∀b u,s.heap.get? b=some u->h'.get? b=some u)(hp:∀a o,G a=some o->s.heap.objs.size<=a)(new:∀a o,G a=some o->YR X.prog X.w (Hq H G) h' a o):
  Inv X aa U (Hq H G) {s with heap:=h',toks:=t'}:=by
 have bE:∀b u,H b=some u->Hq H G b=some u:=λb u e=>by
  cases hg:G b with
  |none=>rw[Vt hg];exact e
  |some o=>have:=I.hok.fresh (hp b o hg);rw[this] at e;cases e
 have oldN:∀b,b<s.heap.objs.size->Hq H G b=H b:=λb hb=>by
  cases hg:G b with
  |none=>exact Vt hg
  |some o=>have:=hp b o hg;omega
 refine I.un ⟨λb u q _ _ _=>k b u q,λb u q _ _ _=>⟨u.slots,k b u q⟩,λb u q n _=>by rw[oldN b (Heap.lt_size q)];exact n,λb u q _=>⟨u,k b u q⟩,λb xs q=>bE b _ q,λb u xs q=>bE b _ q,λb ps q=>⟨#[],by rw[bE b _ q];simp⟩⟩ λb u e=>?_
 cases hg:G b with
 |some o=>rw[FQ hg] at e;cases e;exact new b _ hg
 |none=>
  rw[Vt hg] at e
  exact(I.hok b u e).stay (λc v _ q=>k c v q) (λc q=>bE c _ q) λc xs q=>bE c _ q
def KO {R:M->L->Prop}:∀{xs:List M}{ys:List L},xs.length=ys.length->(∀(j:Nat) x y,xs[j]?=some x->ys[j]?=some y->R x y)->Paired R xs ys
 | [],[],_,_=>.nil
 | [],_::_,h,_=>by simp at h
 |_::_,[],h,_=>by simp at h
 |x::xs,y::ys,h,r=>.cons (r 0 x y rfl rfl) (KO (by simpa using h) λj a b ha hb=>r (j+1) a b (by simpa using ha) (by simpa using hb))
def He {R:M->L->Prop}{xs:List M}(h:Paired R xs ys):∀{p:M×L},p∈xs.zip ys->R p.1 p.2:=by
 induction h with
 |nil=>intro p hp;simp at hp
 |cons r _ ih=>
  intro p hp
  rw[List.zip_cons_cons] at hp
  rcases List.mem_cons.mp hp with z |z
  ·rw[z];exact r
  ·exact ih z
def Gn {R:M->L->Prop}{as:List L}(hl:zs.length=bs.length)(hm:∀{p:M×L},p∈zs.zip bs↔p∈ys.zip as)(h:Paired R ys as):Paired R zs bs:=KO hl λj x y hx hy=>by
 have:(x,y)∈zs.zip bs:=by
  rw[List.mem_iff_getElem?]
  exact⟨j,by rw[List.getElem?_zip_eq_some];exact⟨hx,hy⟩⟩
 exact He h (hm.mp this)
def Ox (tl:TE)(K:W.Frag):TE:=λU H Q=>tl U H λx H1=>∃ l,∃d:QPs,x= .ref l/\H1 l=some (.dK (d.map λe=>(Sum.inl e.1,V.int e.2)))/\d.Nodup/\d.length<64/\
 ∀p H2 zs,Xp H1 H2->H1 p=none->H2 p=some (.lst zs)->Paired (rP2 Xf Xf K H2) zs (Zt ltP d)->Q (.ref p) H2
open Classical in
def Mu (as:List Addr)(d:QPs):Hp:=λb=>if h:∃j:Nat,as[j]?=some b then(d[Classical.choose h]?).map λe=>HO.tup [.int e.1, .int e.2] else none
def R7 {as:List Addr}{d:QPs}(hn:as.Nodup){e:Int×Int}(ha:as[j]?=some a)(he:d[j]?=some e):Mu as d a=some (.tup [.int e.1, .int e.2]):=by
 have h:∃j:Nat,as[j]?=some a:=⟨j,ha⟩
 unfold Mu
 rw[dif_pos h]
 have hs:=Classical.choose_spec h
 have:Classical.choose h=j:=by
  obtain⟨h1,e1⟩:=List.getElem?_eq_some_iff.mp hs
  obtain⟨h2,e2⟩:=List.getElem?_eq_some_iff.mp ha
  exact(List.getElem_inj hn).mp (e1.trans e2.symm)
 rw[this,he]
 rfl
def Fb {as:List Addr}{d:QPs}{o:HO}(h:Mu as d a=some o):∃(j:Nat) (e:Int×Int),as[j]?=some a/\d[j]?=some e/\o= .tup [.int e.1, .int e.2]:=by
 unfold Mu at h
 split at h
 ·rename_i hx
  have hs:=Classical.choose_spec hx
  obtain⟨e,he,rfl⟩:=Option.map_eq_some_iff.mp h
  exact⟨_,e,hs,he,rfl⟩
 ·cases h
def KV.dget {d:QPs}:∀{vs:List (Key×Value)},KV (d.map λe=>(Sum.inl e.1,V.int e.2)) vs->∀{j:Nat}{k:Key}{x:Value},vs[j]?=some (k,x)->∃e,d[j]?=some e/\k=Sum.inl e.1/\XW (.int e.2) x:=by
 induction d with
 |nil=>intro vs h j k x e;cases h;simp at e
 |cons c d ih=>
  intro vs h j k x e
  cases h with
  |cons r t=>
   cases j with
   |zero=>
    have e:=Option.some.inj e
    subst e
    exact⟨c,rfl,r.1.symm,r.2⟩
   |succ j=>exact ih t (by simpa using e)
end
section
variable {l:Expr}{tl:TE}{npos aI ao:Pos}
theorem DV (hc:X.calm=true)(hg:Gl X "sorted")(hm:X.mg "sorted" =none)(hl:PE X l tl)(hu:X.A.units+4<cLine)
  (bU:attributeBase l "items" X.env (eval l X.env)=eval l X.env:=by rfl)(bV:(aI.endLine==ao.line)=true:=by rfl)
  (he:starEach [.Call (.Attribute l "items" aI) [] [] ao] X.env=(false,eval (.Call (.Attribute l "items" aI) [] [] ao) X.env)::starEach [] X.env:=by rfl)(hpl:(backTo pos (starEach [] X.env)).any (·.1)=false:=by rfl):
  PE X (.Call (.Name "sorted" npos) [.Call (.Attribute l "items" aI) [] [] ao] [] pos) (Ox tl X.K):=by
 intro aa s U H Q I h
 refine wpAny_Call_Name_kw (JP I hg hm boot_sorted ?_ (by decide) (by decide))
 refine callWith_builtin1 ?_ he hpl
 rw[he]
 show wpAny _ _ (spliced ((false,eval (.Call (.Attribute l "items" aI) [] [] ao) X.env)::backTo pos (starEach [] X.env))) _ _ s
 refine Calls.spliced_cons ?_
 refine wpAny_Call_method0_late bU bV (thn (hl aa s U H _ I h) λv s1 r9=>?_)
 obtain⟨x,H1,I1,r1,q1⟩:=r9
 obtain⟨a,d,rfl,hd,cK,fw,q⟩:=q1
 cases r1
 obtain⟨hz,hs,vs,b9,hm⟩:=(show YR X.prog X.w H1 s1.heap a (.dK (d.map λe=>(Sum.inl e.1,V.int e.2))) from I1.hok a _ hd)
 refine⟨"dict","dict.items",F.plainAttrs_dict,F.slot_dict_items,F.type_dict_items,hm.typeIs,hm.mapOf.noDict,?_⟩
 refine method_meetsIn F.slot_dict_items F.entry_dict_items rfl (PySem.evalArgs_none ⟨rfl,hm.typeIs,F.args_dict_items_1 _,_,meets_dict_items (Yt X.prog X.w) a hs,⟨vs,hm⟩,?_⟩)
 obtain⟨ep,hat⟩:∃ep,s1.heap.DictAt (Yt X.prog X.w) a vs ep:=by
  obtain⟨o,es,ep,g1,g2,g3,g4⟩:=hm
  exact⟨ep,o,es,g1,g2,g3,g4⟩
 have hvw:(s1.heap.push {cls:=.type "dict_items",data:=.fields #[.ref a]}).IsItemsView s1.heap.objs.size a:=⟨_,Heap.get?_push_size _ rfl,rfl,rfl⟩
 refine wpAny_pure ?_
 have hl:=b9.length
 rw[List.length_map] at hl
 refine Calls.call_function_entry kind_sorted plain_sorted entry_sorted (args_sorted1 _) ?_
 unfold Builtin.«sorted»
 refine wpAny_bind (m:=checkCount "sorted" 1 1 _) (wpAny_pure (wpAny_bind (PySem.W.kdx_collect (A:=X.A.in1) (knd:=Yt X.prog X.w) (kvs:=vs) (ep:=ep) (I.ok.hd hc) hvw (hat.push _) (by rw[←hl,sizeLine_eq];omega) λh' tk as hk hla hG=>?_)))
 have hnA:as.Nodup:=hG.rise.imp λh=>Nat.ne_of_lt h
 have ff:∀(j:Nat) (b:Addr),as[j]?=some b->∃e,d[j]?=some e/\Mu as d b=some (.tup [.int e.1, .int e.2])/\∃its:List Value,X0 [.int e.1, .int e.2] its/\VF h' b its.toArray:=λj b hb=>by
  obtain⟨key,k,x,e1,e2,e3⟩:=hG.pairs j b hb
  obtain⟨e,he,rfl,rx⟩:=b9.dget e1
  exact⟨e,he,R7 hnA hb he,[key,x], .cons (HM (show KZ (Sum.inl e.1) key=true from e2)) (.cons rx .nil),⟨_,e3,⟨rfl,rfl⟩,_,rfl⟩⟩
 have I2:Inv X aa U (Hq H1 (Mu as d)) {s1 with heap:=h',toks:=tk}:=I1.laidG (λb u e=>hk b u (Heap.get?_push_of_some _ e)) (λb o e=>by
  obtain⟨j,_,hb,_⟩:=Fb e
  have this:(s1.heap.push {cls:=.type "dict_items",data:=.fields #[.ref a]}).objs.size<b:=hG.above b (List.mem_of_getElem? hb)
  rw[Heap.size_push] at this
  omega) λb o e=>by
   obtain⟨j,e0,hb,he,rfl⟩:=Fb e
   obtain⟨e1,he1,_,its,v1,v2⟩:=ff j b hb
   rw[he] at he1
   cases he1
   exact⟨by show 2<=sizeLine;decide,its,v1,v2⟩
 have gX:Paired (rP2 Xf Xf X.K (Hq H1 (Mu as d))) (as.map V.ref) d:=KO (by rw[List.length_map,hla, ←hl]) λj y b hy hb=>by
  rw[List.getElem?_map] at hy
  obtain⟨c,eM,rfl⟩:=Option.map_eq_some_iff.mp hy
  obtain⟨e,he,ht,_⟩:=ff j c eM
  rw[hb] at he
  cases he
  exact⟨c,_,_,rfl,FQ ht,rfl,rfl⟩
 have hvv:∀l:List Addr,X0 (l.map V.ref) (l.map Value.ref):=λl=>by
  induction l with
  |nil=>exact .nil
  |cons a l ih=>exact .cons rfl ih
 have gq:Xp H1 (Hq H1 (Mu as d)):=λb o e=>by
  cases hg:Mu as d b with
  |none=>rw[Vt hg];exact e
  |some u=>
   obtain⟨j,_,hb,_⟩:=Fb hg
   have this:(s1.heap.push {cls:=.type "dict_items",data:=.fields #[.ref a]}).objs.size<b:=hG.above b (List.mem_of_getElem? hb)
   rw[Heap.size_push] at this
   have:=I1.hok.fresh (a:=b) (by omega)
   rw[this] at e;cases e
 refine wpAny_mono (BR (0,0) (A:=X.A.in1) I2 (hvv as) gX cK fw F7 (c:=1) (by rw[YM];omega) AX (R:=λp s'=>EP X aa U Q (.ref p) s') λzs s' I' hf dU iH=>⟨.ref _,_,I',rfl,?_⟩) (λfin s' ⟨p,e,r⟩=>?_) λ_ _ x=>x
 ·have gI:Xp (Hq H1 (Mu as d)) (upd (Hq H1 (Mu as d)) h'.objs.size (.lst zs)):=λb o e=>by rw[XH (XQ e hf)];exact e
  refine q _ _ zs (gq.trans gI) ?_ X9 ?_
  ·cases e:H1 h'.objs.size with
   |none=>rfl
   |some o=>have:=gq _ _ e;rw[hf] at this;cases this
  ·exact Gn (by rw[iH,(YC ltP d).length_eq]) (dU.mem_iff) (Paired.imp2 (λ_ _ z=>MonoE.mono gI z) gX)
 ·subst e
  exact⟨_,rfl,r⟩
end
section
def F9 (K:W.Frag)(hK:X.K=K)(hc:X.calm=true):ZM X (.builtin "min") (Nr K Ng):=by
 subst hK
 intro aa s U H xs us Q I r h
 obtain⟨a,ns,rfl,hq,aL,q⟩:=h
 obtain⟨u,rfl,ru⟩:=VI r
 cases ru
 obtain⟨its,rv,pl,hz⟩:=I.tuple hq
 have af:its.length=ns.length:=by have:=rv.length;simpa using this.symm
 have ah:a<s.heap.objs.size:=by obtain⟨o,ho,_⟩:=pl;exact Heap.lt_size ho
 refine call_min_walk (wpAny_pyIter_tuple pl ?_)
 refine⟨s.heap.objs.size,_,_,_,_,_,_,rfl,Walks.tuple (prog:=X.prog) (w:=X.w) (A:=X.A.in1) (I.ok.hd hc) s.heap.objs.size a (Nat.ne_of_lt ah) its.toArray,⟨⟨_,Heap.get?_push_size _ rfl,rfl,rfl⟩,(show s.heap.IsTuple a its.toArray from pl).at λo e=>Heap.get?_push_of_some _ e⟩,λb hb=>?_,by rw[List.size_toArray,af];exact aL,CmpOf.ints_lt (λi=>ns.getD i 0) (VY rv),λv h' tk hP hk=>?_⟩
 ·rcases List.mem_cons.mp hb with e |hb
  ·rw[e,Heap.size_push];exact Nat.lt_succ_self _
  ·rw[List.mem_singleton.mp hb,Heap.size_push];exact Nat.lt_succ_of_lt ah
 ·have I2:Inv X aa U H {s with heap:=h',toks:=tk}:=I.kept (t':=tk) λb o e=>hk b o (λhm=>by
   rw[List.mem_singleton.mp hm] at e
   exact absurd (Heap.lt_size e) (Nat.lt_irrefl _)) (Heap.get?_push_of_some _ e)
  obtain⟨t,rfl⟩:=VY rv _ _ hP
  refine⟨.int (Ng ns),H,I2,⟨t,?_⟩,q⟩
  rw[List.size_toArray,af,B7 ns (ns.length-1) (by omega),show ns.length-1+1=ns.length by omega,List.take_length]
end
inductive Mx where
 |i (n:Int) |s (x:Str) |b (v:Bool)
 deriving DecidableEq
def Mx.v:Mx->V
 | .i n=>.int n
 | .s x=>.str x
 | .b v=>.bl v
def rMx:Enc Mx:=λ_ _ v m=>v=m.v
instance:FlatE rMx:=⟨λ_ h=>h⟩
def mxI:Mx->Rs Int
 | .i n=>.ok n
 |_=>.bad
def mxS:Mx->Rs Str
 | .s x=>.ok x
 |_=>.bad
def mxB:Mx->Rs Bool
 | .b v=>.ok v
 |_=>.bad
def mx2:List Mx->Rs (Int×Int)
 | [.i a, .i b]=>.ok (a,b)
 |_=>.bad
section
variable {OO3:List (List XD)}{u:TS}
def Ka {te:TE}{m:Rs Mx}(he:EvB K Er S OO U te rMx m):EvB K Er S OO U te Xf (m.bind mxI):=λH Q w s P=>by
 refine he H Q w s ?_
 cases m with
 |bad=>exact P
 |err x=>exact P
 |ok a=>cases a with
  |i n=>exact λv H' s' ho=>P v H' s' ho
  |s x=>exact P.elim
  |b x=>exact P.elim
def S4 {te:TE}{m:Rs Mx}(he:EvB K Er S OO U te rMx m):EvB K Er S OO U te B8 (m.bind mxS):=λH Q w s P=>by
 refine he H Q w s ?_
 cases m with
 |bad=>exact P
 |err x=>exact P
 |ok a=>cases a with
  |i n=>exact P.elim
  |s x=>exact λv H' s' ho=>P v H' s' ho
  |b x=>exact P.elim
def RY {te:TE}{m:Rs Mx}(he:EvB K Er S OO U te rMx m):EvB K Er S OO U te XO (m.bind mxB):=λH Q w s P=>by
 refine he H Q w s ?_
 cases m with
 |bad=>exact P
 |err x=>exact P
 |ok a=>cases a with
  |i n=>exact P.elim
  |s x=>exact P.elim
  |b x=>exact λv H' s' ho=>P v H' s' ho
def Kq {te:TE}{m:Rs (List Mx)}(he:EvB K Er S OO U te (rPL rMx) m):EvB K Er S OO U te (rP2 Xf Xf) (m.bind mx2):=λH Q w s P=>by
 refine he H Q w s ?_
 cases m with
 |bad=>exact P
 |err x=>exact P
 |ok l=>
  match l,P with
  | [.i a, .i b],P=>
   rintro v H' s' ⟨p,xs,e,h,pr⟩
   cases pr with
   |cons r1 t=>cases t with
    |cons r2 t=>cases t with
     |nil=>exact P v H' s' ⟨p,_,_,e,h,r1,r2⟩
  | [],P=>exact P.elim
  | [_],P=>exact(show False by revert P;rename_i x;cases x<;> exact id).elim
  | .i _:: .s _::_,P=>exact P.elim
  | .i _:: .b _::_,P=>exact P.elim
  | .i _:: .i _::_::_,P=>exact P.elim
  | .s _::_::_,P=>exact P.elim
  | .b _::_::_,P=>exact P.elim
def Sq {te:TE}{m:Rs Int}(he:EvS K Er S OO U te Xf m):EvS K Er S OO U te rMx (m.bind λa=>.ok (.i a)):=λH Q w s P=>by
 refine he H Q w s ?_
 cases m with
 |bad=>exact P
 |err x=>exact P
 |ok a=>exact P
def R4 {te:TE}{m:Rs Str}(he:EvS K Er S OO U te B8 m):EvS K Er S OO U te rMx (m.bind λa=>.ok (.s a)):=λH Q w s P=>by
 refine he H Q w s ?_
 cases m with
 |bad=>exact P
 |err x=>exact P
 |ok a=>exact P
def SQ {te:TE}{m:Rs Bool}(he:EvS K Er S OO U te XO m):EvS K Er S OO U te rMx (m.bind λa=>.ok (.b a)):=λH Q w s P=>by
 refine he H Q w s ?_
 cases m with
 |bad=>exact P
 |err x=>exact P
 |ok a=>exact P
def AJ {H:Hp}{xs:List V}{l:List Int}(pr:Paired (Xf K H) xs l):Paired (rMx K H) xs (l.map Mx.i):=by
 induction pr with
 |nil=>exact .nil
 |cons r _ ih=>exact .cons r ih
def Fx {m:Rs (List Int)}(he:EvB K Er S OO U te (rPL Xf) m):EvB K Er S OO U te (rPL rMx) (m.bind λl=>.ok (l.map Mx.i)):=λH Q w s P=>by
 refine he H Q w s ?_
 cases m with
 |bad=>exact P
 |err x=>exact P
 |ok l=>
  rintro v H' s' ⟨p,xs,e,h,pr⟩
  exact P v H' s' ⟨p,xs,e,h,AJ pr⟩
def Nc {ma:Rs QPs}(ha:EvL K Er S OO U ta (rP2 Xf Xf) ma):Ev K Er S OO OO U (tCB (Pf K) (Xm ta Yo)) (oL (oF (rP2 Xf Xf))) (ma.bind λas=>chk (as.length<64/\as.Nodup) (.ok (Zt ltP as))):=λH Q w s P=>
 ha.run w s FO.tr P λas x H1 s1 w1 q1 ⟨p,xs,e,q,pr⟩ P1=>by
  obtain⟨⟨hl,hn⟩,P2⟩:=PZ.chk P1
  have eF:Paired (rP2 Xf Xf K H1) xs as:=Paired.imp2 (λ_ _ h=>MonoE.mono Xn h) pr
  refine⟨p,xs,as,by rw[e],SqL.of q,eF,hn,hl,λp2 zs cT dU af=>?_⟩
  exact MX w1 (Paired.imp2 (λ_ _ h=>FlatE.flat w1.i h) (Gn (by rw[af,(YC ltP as).length_eq]) dU.mem_iff eF)) P2 p2 cT
def Ny {d:QPs}(pr:Paired (rDP Xf K H) kvs d):kvs=d.map λe=>(Sum.inl e.1,V.int e.2):=by
 induction pr with
 |nil=>rfl
 |cons r _ ih=>rw[List.map_cons, ←ih];exact congrArg (· ::_) (Prod.ext r.1 r.2)
def HH {ma:Rs QPs}(ha:EvB K Er S OO U ta (rD Xf) ma):Ev K Er S OO OO U (Ox ta K) (oL (oF (rP2 Xf Xf))) (ma.bind λd=>chk (d.length<64/\d.Nodup) (.ok (Zt ltP d))):=λH Q w s P=>
 ha.run w s FO.tr P λd x H1 s1 w1 q1 ⟨p,kvs,e,q,pr⟩ P1=>by
  obtain⟨⟨hl,hn⟩,P2⟩:=PZ.chk P1
  have PF:FO K OO OO (oL (oF (rP2 Xf Xf))) Q (Zt ltP d) H1:=P2
  rw[Ny pr] at q
  refine⟨p,d,e,q,hn,hl,λp2 H2 zs hs hp hz gX=>?_⟩
  have w2:W ([(p2, .lst zs)]::OO) H2:=by
   refine⟨λc hc=>?_,?_,λc hc=>?_⟩
   ·rw[List.flatten_cons,List.mem_append] at hc
    rcases hc with hc |hc
    ·rw[List.mem_singleton] at hc;subst hc;exact hz
    ·exact hs _ _ (w1.tr c hc)
   ·rw[XB]
    exact List.nodup_cons.mpr ⟨w1.fresh hp,w1.nd⟩
   ·rw[List.flatten_cons,List.mem_append] at hc
    rcases hc with hc |hc
    ·rw[List.mem_singleton] at hc;subst hc;rfl
    ·exact w1.mu c hc
  refine PF (.ref p2) [(p2, .lst zs)] H2 hs w2 (λb o q=>?_) ⟨p2,zs,_,rfl,(L2.P3.of (Paired.imp2 (λ_ _ h=>FlatE.flat w2.i h) gX)).imp λ_ _ _ h=>h,by rw[Yh]⟩
  obtain⟨q1,q2⟩:=XM q
  refine YA (hs _ _ q1) ?_
  rw[XB]
  exact λz=>(List.mem_cons.mp z).elim (λz=>XQ q1 hp z) q2
def FN {ma:Rs (List Int)}(ha:EvB K Er S OO U ta (rPL Xf) ma):EvB K Er S OO U (tCB (Nr K Ng) (Xm ta Yo)) Xf (ma.bind A5):=λH Q w s P=>
 ha.run w s FB.tr P λa x H1 s1 w1 q1 ⟨p,xs,e,q,pr⟩ P1=>by
  obtain⟨h1,P1⟩:=PZ.chk P1
  exact⟨p,a,by rw[e],SqT.of (by rw[←B6 pr];exact q),h1,P1 _ H1 (Xp.refl _) rfl⟩
end
section
variable {OO3:List (List XD)}{u:TS}
variable [fd:FdOk Fd]
def EvP.st {m:Rs (Option Int)}(he:EvP Er S OO U t m){Q:Option Int->Hp->Prop}(w:W OO H)(s:S.p (hid H OO)){f:Option Int->Rs L}(P:PZ Er (Fd D) (hid H OO) (m.bind f))
  (hk:∀a H',Xp H H'->W OO H'->S.p (hid H' OO)->PZ Er (Fd D) (hid H' OO) (f a)->Q a H'):t U H Q:=by
 refine he H Q w s ?_
 cases m with
 |bad=>exact P
 |err x=>exact λH' s'=>P H' (Xn.trans s')
 |ok a=>exact λH' s'=>hk a H' s' (w.keep s') (S.mono _ _ (Xh s') s) (PZ.tr (fd.tr D) (Xh s') P)
def qu {a:List M}{b d:List L}(h:Paired F a b)(k:Paired F c d):Paired F (a++c) (b++d):=by
 induction h with
 |nil=>exact k
 |cons r _ ih=>exact .cons r ih
def Hr {xs:List M}{as:List L}(h:Paired F xs as)(k:Paired F ys bs)(lo hi:Option Int):Paired F (spl xs lo hi ys) (spl as lo hi bs):=by
 unfold spl
 rw[Paired.len h]
 exact qu (qu (Paired.take' _ h) k) (Paired.drop' _ h)
def Og {m:Rs (List Int)}{f:List Int->Rs L}{as:List Int}(i k:Nat)(hσ:U[i]?=some (some v))(bF:OO'[k]?=some C)(h:∀x,S.p x->oL (oF Xf) K x v as C)(he:Ev K Er S OO OO' U te (oL (oF Xf)) m)(hl:∀D,EvP Er S (D::OO') U tl ml)(hh:∀D,EvP Er S (D::OO') U th mh)
  (hr:∀bs C',Sv Er (S.addO K (oL (oF Xf)) v bs C') (OO'.set k C') U u Fd (f bs)):Sv Er S OO U (Zd (BG te (gSl (Q0 i) tl th)) u) Fd (m.bind λbs=>ml.bind λlo=>mh.bind λhi=>chk (as.length+bs.length<=sizeLine) (f (spl as lo hi bs))):=λH D w s P=>
 he.st w s P λbs y D' H1 w1 s1 ho P1=>⟨v,hσ,(hl D').st w1 s1 P1 λlo H2 s2 w2 q2 P2=>(hh D').st w2 q2 P2 λhi H3 s3 w3 q3 az=>by
  obtain⟨hsz,az⟩:=PZ.chk az
  obtain⟨p,xs,Cs,e,q,c⟩:=h _ q3
  obtain⟨pr,cf⟩:=P3.flat q
  rw[cf] at c
  subst c
  have ho3:oL (oF Xf) K (hid H3 (D'::OO')) y bs D':=MonoO.mono ((Xh s2).trans (Xh s3)) ho
  obtain⟨b,ys,Cs',e',q',c'⟩:=ho3
  obtain⟨eF,cf'⟩:=P3.flat q'
  rw[cf'] at c'
  subst c'
  have hp:H3 p=some (.lst xs):=w3.tr (p, .lst xs) (by rw[List.flatten_cons];exact List.mem_append_right _ (List.mem_flatten.mpr ⟨_,List.mem_of_getElem? bF,List.mem_cons_self⟩))
  have hb:H3 b=some (.lst ys):=w3.tr (b, .lst ys) (by simp)
  have aL:p≠b:=λz=>by
   have nd:=w3.nd
   rw[XB] at nd
   have bd:p∈fl OO':=V9 (c:=(p, .lst xs)) (List.mem_flatten.mpr ⟨_,List.mem_of_getElem? bF,List.mem_cons_self⟩)
   exact(List.nodup_append.mp nd).2.2 b (by simp) p bd z.symm
  obtain⟨w4,m4⟩:=MB (D:=[(b, .lst ys)]) (C':=[(p, .lst (spl xs lo hi ys))]) (p:=p) (o:=.lst (spl xs lo hi ys)) w3 bF (by simp) (by simp) (by simp) (λz hz=>by
   have:z=p:=by simpa using hz
   subst this;simp) (λc hc=>by
   have:c=(p, .lst (spl xs lo hi ys)):=by simpa using hc
   rw[this];exact X9) (λc hc=>by
   have:c=(p, .lst (spl xs lo hi ys)):=by simpa using hc
   rw[this];rfl)
  have l1:=Paired.len pr
  have l2:=Paired.len eF
  refine⟨p,xs,b,ys,e,e',hp,hb,aL,by omega,hr (spl as lo hi bs) _ _ D w4 ⟨S.mono _ _ m4 q3,?_⟩ (PZ.tr (fd.tr D) m4 az)⟩
  exact⟨p,_,_,e,(P3.of (Hr (F:=Xf K _) (Paired.imp2 (λ_ _ h=>h) pr) (Paired.imp2 (λ_ _ h=>h) eF) lo hi)).imp λ_ _ _ h=>h,by rw[Yh]⟩⟩
def GJ (d:List (Int×M))(k:Int):List (Int×M):=d.filter λe=>decide (e.1≠k)
def Bm {k:Int}{d:List (Int×M)}(h:Paired (rDP r K H) kvs d):Paired (rDP r K H) (Kl kvs (.inl k)) (GJ d k):=by
 unfold Kl GJ
 induction h with
 |nil=>exact .nil
 | @cons a b l m r0 _ ih=>
  rw[List.filter_cons,List.filter_cons]
  by_cases c:b.1=k
  ·rw[if_neg (by rw[r0.1,c];simp),if_neg (by rw[c];simp)];exact ih
  ·rw[if_pos (by rw[r0.1];simpa using c),if_pos (by simpa using c)];exact .cons r0 ih
def CQ [z:MonoE r]{f:List (Int×M)->Rs L}{d:List (Int×M)}(i k:Nat)(hσ:U[i]?=some (some v))(hk:OO[k]?=some C)(h:∀x,S.p x->oD r K x v d C)(hy:EvB K Er S OO U ty Xf mk)
  (hr:∀d' C',Sv Er (S.addO K (oD r) v d' C') (OO.set k C') U u Fd (f d')):Sv Er S OO U (Zd (JJ (OA (Q0 i) ty)) u) Fd (mk.bind λn=>chk ((Q3 d n).isSome=true) (f (GJ d n))):=λH D w s P=>by
 obtain⟨p,kvs,e,pr,c⟩:=h _ s
 subst c e
 have hH:H p=some (.dK kvs):=w.tr (p, .dK kvs) (List.mem_flatten.mpr ⟨_,List.mem_of_getElem? hk,by simp⟩)
 refine⟨_,hσ,p,rfl, .inl ⟨kvs, .inl hH⟩,hy.st w s P λn vn H2 s2 w2 q2 r2 P2=>?_⟩
 obtain⟨jw,P2⟩:=PZ.chk P2
 have gP:H2 p=some (.dK kvs):=s2 _ _ hH
 have cV:Paired (rDP r K (hid H2 OO)) kvs d:=Paired.imp2 (λ_ _ h=>⟨h.1,z.mono (Xh s2) h.2⟩) pr
 obtain⟨a,ha⟩:=Option.isSome_iff_exists.mp jw
 obtain⟨va,hva,_⟩:=(QS (k:=n) cV).1 a ha
 obtain⟨w3,m3⟩:=MB (D:=[]) (C':=[(p, .dK (Kl kvs (.inl n)))]) (p:=p) (o:=.dK (Kl kvs (.inl n))) w2.nil hk (by simp) (by simp) (by simp) (λb hb=>by simpa using hb) (λc hc=>by
  have:c=(p, .dK (Kl kvs (.inl n))):=by simpa using hc
  rw[this];exact X9) (λc hc=>by
  have:c=(p, .dK (Kl kvs (.inl n))):=by simpa using hc
  rw[this];rfl)
 rw[YK] at m3
 exact⟨kvs, .inl n,va,gP,r2,hva,hr _ _ _ D w3 ⟨S.mono _ _ m3 q2,⟨p,_,rfl,Paired.imp2 (λ_ _ h=>⟨h.1,z.mono m3 h.2⟩) (Bm cV),rfl⟩⟩ (PZ.tr (fd.tr D) m3 P2)⟩
def F5 [z:MonoE r](he:EvL K Er S OO U te r m)(hs:EvB K Er S OO U ts Xf ms):Ev K Er S OO OO U (AW K te ts) (oL (oF r)) (m.bind λas=>ms.bind λk=>chk (k= -1) (.ok as.reverse)):=λH Q w s P=>
 he.run w s FO.tr P λas x H1 s1 w1 q1 ⟨p,xs,e,q,pr⟩ P1=>hs.run w1 q1 FO.tr P1 λk y H2 s2 w2 q2 r2 P2=>by
  obtain⟨hn,P3⟩:=PZ.chk P2
  exact⟨by rw[show y= .int k from r2,hn],p,xs,e,SqL.of (s2 _ _ q),MX w2 (L2.Paired.rev' (Paired.imp2 (λ_ _ h=>z.mono (Xh s2) h) pr)) P3⟩
def FFu (K:W.Frag)(q:OE B)(v1:V)(Q:VK)(x:B)(h:Hp):Prop:=∀ C' H',W [C'] H'->Xp h (hid H' [C'])->q K (hid H' [C']) v1 x C'->Q .non H'
def A8 (q:OE B)(r2:Enc α2)(r3:Enc α3)(f:B->α2->α3->Rs B)(K:W.Frag):Sp:=λvs H Q _=>∃ v1 v2 v3 a1 a2 a3 b,vs=[v1,v2,v3]/\∃C,W [C] H/\q K (hid H [C]) v1 a1 C/\r2 K (hid H [C]) v2 a2/\r3 K (hid H [C]) v3 a3/\f a1 a2 a3= .ok b/\FFu K q v1 Q b (hid H [C])
def A9 (q:OE B)(r2:Enc α2)(r3:Enc α3)(r4:Enc α4)(r5:Enc α5)(f:B->α2->α3->α4->α5->Rs B)(K:W.Frag):Sp:=λvs H Q _=>∃ v1 v2 v3 v4 v5 a1 a2 a3 a4 a5 b,vs=[v1,v2,v3,v4,v5]/\∃C,W [C] H/\q K (hid H [C]) v1 a1 C/\r2 K (hid H [C]) v2 a2/\r3 K (hid H [C]) v3 a3/\r4 K (hid H [C]) v4 a4/\r5 K (hid H [C]) v5 a5/\f a1 a2 a3 a4 a5= .ok b/\FFu K q v1 Q b (hid H [C])
def FNu (K:W.Frag)(q:OE B)(v1:V)(D:Ends)(x:B)(h:Hp):Prop:=∀ C' OO' U' H',W (C'::OO') H'->Xp h (hid H' (C'::OO'))->q K (hid H' (C'::OO')) v1 x C'->D.nx U' H'
instance {q:OE B}{v1:V}:FdOk (FNu K q v1):=⟨λD b h h' s q C O U H' w m x=>q C O U H' w (s.trans m) x⟩
def Lp {q:OE B}{a:B}(k:Nat)(hk:OO[k]?=some C)(hf:∀x,S.p x->q K x v1 a C):Sv Er S OO U GC (FNu K q v1) (.ok a):=λH D w s P=>by
 have hp:=XN hk
 have P:FNu K q v1 D a (hid H OO):=P
 exact P C (OO.set k []) U H (w.of hp) (by rw[XF hp];exact Xp.refl _) (by rw[XF hp];exact hf _ s)
def II {q:OE B}[zq:MonoO q]{m:Rs B}{Q:VK}{b:B}(n k:Nat)(gp:k<n)(h:Sv (λ_ _=>False) S ((List.replicate n []).set k C) U t (FNu K q v1) m)(w:W [C] H)(hs:S.p (hid H [C]))(hm:m= .ok b)(qf:FFu K q v1 Q b (hid H [C]))(hD:∀U H,D.nx U H=Q .non H):t D U H:=by
 have pe:((List.replicate n []).set k C).flatten.Perm [C].flatten:=by
  have h1:=XN (OO:=(List.replicate n []).set k C) (k:=k) (C:=C) (by simp[gp])
  have e:((List.replicate n ([]:List XD)).set k C).set k []=List.replicate n []:=by
   rw[List.set_set]
   apply List.ext_getElem?
   intro m
   by_cases hm:m=k
   ·subst hm;simp[gp]
   ·rw[List.getElem?_set_ne (λe=>hm e.symm)]
  rw[e,List.flatten_cons,Yh] at h1
  simpa using h1.symm
 refine h H D (w.of pe) (by rw[XF pe];exact hs) ?_
 subst hm
 rw[XF pe]
 intro C' OO' U' H' w' m' h1
 rw[hD]
 have am:Xp (hid H' (C'::OO')) (hid H' [C']):=Zv (Xp.refl _) λb hb=>by
  rw[XB]
  refine List.mem_append_left _ ?_
  simpa[fl] using hb
 exact qf C' H' (w'.sub (by simp)) (m'.trans am) (zq.mono am h1)
def N3 (w:W OO H)(hk:OO[k]?=some Cy):W [Cy] H/\Xp (hid H OO) (hid H [Cy])/\W (OO.set k []) (hid H [Cy])/\(∀b,b∈fl (OO.set k [])->b∈fl OO):=by
 have hp:=XN hk
 have wk:W (Cy::OO.set k []) H:=w.of hp
 refine⟨wk.sub (by simp),?_,⟨λcc hc=>YA (wk.tail.tr cc hc) (λz=>by
   have nd:=wk.nd
   rw[XB] at nd
   exact(List.nodup_append.mp nd).2.2 cc.1 (by simpa[fl] using z) cc.1 (V9 hc) rfl),wk.tail.nd,wk.tail.mu⟩,λb hb=>by
   rw[←V0 hp,XB]
   exact List.mem_append_right _ hb⟩
 rw[←XF hp]
 exact Zv (Xp.refl _) λb hb=>by
  rw[XB]
  refine List.mem_append_left _ ?_
  simpa[fl] using hb
def Wo (w:W OO H)(hk:OO[k]?=some Cy)(w':W [C'] H')(m':Xp (hid H [Cy]) (hid H' [C'])):W (OO.set k C') H'/\Xp (hid H OO) (hid H' (OO.set k C'))/\V3 (hid H' [C']) (hid H' (C'::OO.set k []))/\Xp (hid H' (C'::OO.set k [])) (hid H' (OO.set k C')):=by
 obtain⟨_,m0,wo,bd⟩:=N3 w hk
 have gT:k<OO.length:=(List.getElem?_eq_some_iff.mp hk).1
 obtain⟨w4,n4,i4⟩:=Rk wo w' m'
 have nn:Xp (hid H OO) (hid H' (C'::OO.set k [])):=by
  refine Xp.trans (λbb uu hb=>?_) n4
  obtain⟨b1,b2⟩:=XM hb
  exact YA (m0 _ _ hb) λz=>b2 (bd _ z)
 obtain⟨w6,m6⟩:=As (k:=k) w4 (by rw[List.length_set];exact gT)
 rw[List.set_set] at w6 m6
 exact⟨w6,nn.trans m6,i4,m6⟩
def DU [z2:MonoE r2][z3:MonoE r3]{q:OE B}[zq:FlatO q][mq:MonoO q]{f:B->α2->α3->Rs B}(i k:Nat)(hσ:U[i]?=some (some vy))(hk:OO[k]?=some Cy)(h:∀x,S.p x->q K x vy ay Cy)
  (h2:EvS K Er S OO U t2 r2 m2)(h3:EvS K Er S OO U t3 r3 m3)(hr:∀b C',Sv Er (S.addO K q vy b C') (OO.set k C') U u Fd (g b)):
  Sv Er S OO U (Zd (JJ (Q6 (A8 q r2 r3 f K) [] E0 (Xm (Q0 i) (Xm t2 (Xm t3 Yo))))) u) Fd (m2.bind λb=>m3.bind λc=>(noE (f ay b c)).bind g):=λH D w s P=>
 ⟨vy,hσ,h2.st w s P λb z H2 s2 w2 q2 e2 P2=>h3.st w2 q2 P2 λc y H3 s3 w3 q3 e3 P3=>by
  cases en:f ay b c with
  |bad=>rw[en] at P3;exact P3.elim
  |err ex=>rw[en] at P3;exact P3.elim
  |ok r=>
   rw[en] at P3
   have P3:PZ Er (Fd D) (hid H3 OO) (g r):=P3
   obtain⟨wl,m0,_,_⟩:=N3 w3 hk
   refine⟨vy,z,y,ay,b,c,r,rfl,Cy,wl,mq.mono m0 (h _ q3),z2.mono ((Xh s3).trans m0) e2,z3.mono m0 e3,en,λC' H' w' m' hq=>?_⟩
   obtain⟨w6,n6,i4,m6⟩:=Wo w3 hk w' m'
   exact hr r C' H' D w6 ⟨S.mono _ _ n6 q3,mq.mono m6 (zq.flat i4 hq)⟩ (PZ.tr (fd.tr D) n6 P3)⟩
def KG [z2:MonoE r2][z3:MonoE r3][z4:MonoE r4][z5:MonoE r5]{q:OE B}[zq:FlatO q][mq:MonoO q]{f:B->α2->α3->α4->α5->Rs B}(i k:Nat)(hσ:U[i]?=some (some vy))(hk:OO[k]?=some Cy)(h:∀x,S.p x->q K x vy ay Cy)
  (h2:EvS K Er S OO U t2 r2 m2)(h3:EvS K Er S OO U t3 r3 m3)(h4:EvS K Er S OO U t4 r4 m4)(h5:EvS K Er S OO U t5 r5 m5)(hr:∀b C',Sv Er (S.addO K q vy b C') (OO.set k C') U u Fd (g b)):
  Sv Er S OO U (Zd (JJ (Q6 (A9 q r2 r3 r4 r5 f K) [] E0 (Xm (Q0 i) (Xm t2 (Xm t3 (Xm t4 (Xm t5 Yo))))))) u) Fd (m2.bind λb=>m3.bind λc=>m4.bind λd=>m5.bind λe=>(noE (f ay b c d e)).bind g):=λH D w s P=>
 ⟨vy,hσ,h2.st w s P λb z H2 s2 w2 q2 e2 P2=>h3.st w2 q2 P2 λc y H3 s3 w3 q3 e3 P3=>h4.st w3 q3 P3 λd y4 H4 s4 w4 q4 e4 P4=>h5.st w4 q4 P4 λe y5 H5 s5 w5 q5 e5 P5=>by
  cases en:f ay b c d e with
  |bad=>rw[en] at P5;exact P5.elim
  |err ex=>rw[en] at P5;exact P5.elim
  |ok r=>
   rw[en] at P5
   have P5:PZ Er (Fd D) (hid H5 OO) (g r):=P5
   obtain⟨wl,m0,_,_⟩:=N3 w5 hk
   have n3:=Xh (OO:=OO) s3
   have n4:=Xh (OO:=OO) s4
   have n5:=Xh (OO:=OO) s5
   refine⟨vy,z,y,y4,y5,ay,b,c,d,e,r,rfl,Cy,wl,mq.mono m0 (h _ q5),z2.mono (n3.trans (n4.trans (n5.trans m0))) e2,z3.mono (n4.trans (n5.trans m0)) e3,z4.mono (n5.trans m0) e4,z5.mono m0 e5,en,λC' H' w' m' hq=>?_⟩
   obtain⟨w6,n6,i4,m6⟩:=Wo w5 hk w' m'
   exact hr r C' H' D w6 ⟨S.mono _ _ n6 q5,mq.mono m6 (zq.flat i4 hq)⟩ (PZ.tr (fd.tr D) n6 P5)⟩
def AZ (q:OE B)(r2:Enc α2)(r3:Enc α3)(o:OE ρ)(f:B->α2->α3->Rs ρ)(K:W.Frag):Sp:=λvs H Q _=>∃ v1 v2 v3 a1 a2 a3 b,vs=[v1,v2,v3]/\∃C,W [C] H/\q K (hid H [C]) v1 a1 C/\r2 K (hid H [C]) v2 a2/\r3 K (hid H [C]) v3 a3/\f a1 a2 a3= .ok b/\FF K o Q b (hid H [C])
def Oi [z2:MonoE r2][z3:MonoE r3]{q:OE B}[mq:MonoO q]{o:OE ρ}[zo:FlatO o]{f:B->α2->α3->Rs ρ}(i k:Nat)(hσ:U[i]?=some (some vy))(hk:OO[k]?=some Cy)(h:∀x,S.p x->q K x vy ay Cy)
  (h2:EvS K Er S OO U t2 r2 m2)(h3:EvS K Er S OO U t3 r3 m3):
  Sv Er S OO U (Zd (W9 (Q6 (AZ q r2 r3 o f K) [] E0 (Xm (Q0 i) (Xm t2 (Xm t3 Yo))))) u) (FTd K o) (m2.bind λb=>m3.bind λc=>noE (f ay b c)):=λH D w s P=>
 ⟨vy,hσ,h2.st (Fd:=FTd K o) w s P λb z H2 s2 w2 q2 e2 P2=>h3.st (Fd:=FTd K o) w2 q2 P2 λc y H3 s3 w3 q3 e3 P3=>by
  cases en:f ay b c with
  |bad=>rw[en] at P3;exact P3.elim
  |err ex=>rw[en] at P3;exact P3.elim
  |ok r=>
   rw[en] at P3
   have P3:FTd K o D r (hid H3 OO):=P3
   obtain⟨wl,m0,wo,bd⟩:=N3 w3 hk
   refine⟨vy,z,y,ay,b,c,r,rfl,Cy,wl,mq.mono m0 (h _ q3),z2.mono ((Xh s3).trans m0) e2,z3.mono m0 e3,en,λv C' H' w' m' ho=>?_⟩
   obtain⟨w4,n4,i4⟩:=Rk wo w' m'
   refine P3 v C' (OO.set k []) H' w4 (Xp.trans (λbb uu hb=>?_) n4) (zo.flat i4 ho)
   obtain⟨b1,b2⟩:=XM hb
   exact YA (m0 _ _ hb) λz=>b2 (bd _ z)⟩
def AS {o:OE ρ}[MonoO o]{m:Rs ρ}{Q:VK}{b:ρ}(n k:Nat)(gp:k<n)(h:Sv (λ_ _=>False) S ((List.replicate n []).set k C) U t (FTd K o) m)(w:W [C] H)(hs:S.p (hid H [C]))(hm:m= .ok b)(q:FF K o Q b (hid H [C]))(hD:D.rt=Q):t D U H:=by
 have pe:((List.replicate n []).set k C).flatten.Perm [C].flatten:=by
  have h1:=XN (OO:=(List.replicate n []).set k C) (k:=k) (C:=C) (by simp[gp])
  have e:((List.replicate n ([]:List XD)).set k C).set k []=List.replicate n []:=by
   rw[List.set_set]
   apply List.ext_getElem?
   intro m
   by_cases hm:m=k
   ·subst hm;simp[gp]
   ·rw[List.getElem?_set_ne (λe=>hm e.symm)]
  rw[e,List.flatten_cons,Yh] at h1
  simpa using h1.symm
 refine h H D (w.of pe) (by rw[XF pe];exact hs) ?_
 subst hm
 rw[XF pe]
 intro v C1 OO' H' w' mm ho
 rw[hD]
 exact O1 q v C1 OO' H' w' mm ho
section
variable {o:OE ρ}{kf:Nat}{Cf:List XD}{J:Jn B ι}
end
def A7 (r1:Enc α1)(r2:Enc α2)(r3:Enc α3)(r4:Enc α4)(o:OE ρ)(f:α1->α2->α3->α4->Rs ρ)(K:W.Frag):Sp:=λvs H Q _=>∃ v1 v2 v3 v4 a1 a2 a3 a4 b,vs=[v1,v2,v3,v4]/\∃Cf,W [Cf] H/\r1 K (hid H [Cf]) v1 a1/\r2 K (hid H [Cf]) v2 a2/\r3 K (hid H [Cf]) v3 a3/\r4 K (hid H [Cf]) v4 a4/\f a1 a2 a3 a4= .ok b/\Th K o Cf Q b (hid H [Cf])
def Mk [z1:MonoE r1][z2:MonoE r2][z3:MonoE r3][z4:MonoE r4]{o:OE ρ}{f:α1->α2->α3->α4->Rs ρ}{ma:Rs α1}{mb:Rs α2}{mc:Rs α3}(ha:EvS K Er S OO U ta r1 ma)(hb:EvS K Er S OO U tb r2 mb)(hc:EvS K Er S OO U tc r3 mc)(hd:EvS K Er S OO U td r4 md):
  Ev K Er S OO OO U (Q6 (A7 r1 r2 r3 r4 o f K) [] E0 (Xm ta (Xm tb (Xm tc (Xm td Yo))))) o (ma.bind λa=>mb.bind λb=>mc.bind λc=>md.bind λd=>noE (f a b c d)):=λH Q w s P=>
 ha.run w s FO.tr P λa x H1 s1 w1 q1 r1 P1=>hb.run w1 q1 FO.tr P1 λb y H2 s2 w2 q2 r2 P2=>hc.run w2 q2 FO.tr P2 λc z H3 s3 w3 q3 r3 P3=>hd.run w3 q3 FO.tr P3 λd t H4 s4 w4 q4 r4 P4=>by
  obtain⟨e,he,P5⟩:=P4.okOf λx=>U1
  have n2:=Xh (OO:=OO) s2
  have n3:=Xh (OO:=OO) s3
  have n4:=Xh (OO:=OO) s4
  exact⟨x,y,z,t,a,b,c,d,e,rfl,OO.flatten,w4.one,by rw[KS];exact z1.mono (n2.trans (n3.trans n4)) r1,by rw[KS];exact z2.mono (n3.trans n4) r2,by rw[KS];exact z3.mono n4 r3,by rw[KS];exact r4,U4 he,by rw[KS];exact Sc w4 P5⟩
def Oc [MonoO o1][MonoO o2][MonoO o3]{f:Rs L}(i j l k1 k2 k3:Nat)(h1:k1<OO.length)(h2:k2<OO.length)(h3:k3<OO.length)
  (hr:∀v w x C1 C2 C3,Sv Er (((S.addO K (oL o1) v [] C1).addO K (oL o2) w [] C2).addO K (oL o3) x [] C3) (((OO.set k1 C1).set k2 C2).set k3 C3) (((U.set i (some v)).set j (some w)).set l (some x)) u Fd f):Sv Er S OO U (Zd (RJ i j l (Xm (Hd Yo) (Xm (Hd Yo) (Xm (Hd Yo) Yo)))) u) Fd f:=λH D w s P=>by
 refine⟨Nat.zero_le _,λp1 jg=>⟨Nat.zero_le _,λp2 cT=>⟨Nat.zero_le _,λp3 hp3=>⟨_,_,_,rfl,?_⟩⟩⟩⟩
 have key:∀{OO:List (List XD)}{H:Hp}{p:Addr}{k:Nat},W OO H->H p=none->k<OO.length->W (OO.set k [(p, .lst [])]) (upd H p (.lst []))/\Xp (hid H OO) (hid (upd H p (.lst [])) (OO.set k [(p, .lst [])])):=λw hp hk=>by
  obtain⟨a,b⟩:=As (w.new hp (o:=.lst []) rfl) hk
  exact⟨a,(VT hp (o:=.lst [])).trans b⟩
 obtain⟨w1,m1⟩:=key w jg h1
 obtain⟨w2,m2⟩:=key w1 cT (k:=k2) (by simpa using h2)
 obtain⟨w3,m3⟩:=key w2 hp3 (k:=k3) (by simpa using h3)
 have nl:∀{τ:Type}{o:OE τ}{h:Hp}{p:Addr},oL o K h (.ref p) [] [(p, .lst [])]:=fun {τ o h p}=>⟨p,[],[],rfl, .nil,rfl⟩
 exact hr _ _ _ _ _ _ _ D w3 ⟨⟨⟨S.mono _ _ ((m1.trans m2).trans m3) s,nl⟩,nl⟩,nl⟩ (PZ.tr (fd.tr D) ((m1.trans m2).trans m3) P)
end
section
variable {u:TS}[fd:FdOk Fd]
def M9 {tb:TS}[z:MonoE r]{f:B->Rs L}{as:List (List M)}(n k:Nat)(hσ:U[n]?=some (some v))(hk:OO[k]?=some C)(h:∀x,S.p x->oL (oL (oF r)) K x v as C)(hi:EvB K Er S OO U ti Xf mi)
  (J:Jn B ι)(T:∀OO,Tgt K OO g r κ)(x0:ι)(g0:B)(hC:∀x,(J.oo x)[k]?=some C)(h1:OO=J.oo x0)(h2:U=J.ss x0)(h3:∀h,S.p h->(J.sc g0 x0).p h)
  (hb:∀g x a v,Sv Er ((T (J.oo x)).sc a v (J.sc g x)) (J.oo x) ((T (J.oo x)).set v (J.ss x)) tb (FNd J) (body g a))
  (hr:∀g x,Sv Er (J.sc g x) (J.oo x) (J.ss x) u Fd (f g)):Sv Er S OO U (Zd (Hv (FE K (tOp (BC K) (Q0 n) ti)) g tb) u) Fd (mi.bind λi=>(atR as i).bind λrow=>(forN row g0 body).bind f):=λH0 D w0 s0 P0=>
 ⟨v,hσ,hi.st w0 s0 P0 λix vi H s1 w s r1 P=>by
  obtain⟨p,xs,Cs,e,q,c⟩:=h _ s
  subst c
  cases er:atR as ix with
  |bad=>rw[er] at P;exact P.elim
  |err x=>exact absurd er V8
  |ok row=>
   rw[er] at P
   have P:PZ Er (Fd D) (hid H OO) ((forN row g0 body).bind f):=P
   obtain⟨j,hj,aU⟩:=Ea er
   obtain⟨a,c,ha,hc,ho⟩:=P3.get q aU
   obtain⟨p',ys,Cs',e',q',c'⟩:=ho
   have pr:=(P3.flat q').1
   have hpin:(p,HO.lst xs)∈OO.flatten:=List.mem_flatten.mpr ⟨_,List.mem_of_getElem? hk,List.mem_cons_self⟩
   have bd:∀x,(p',HO.lst ys)∈(J.oo x).flatten:=λx=>List.mem_flatten.mpr ⟨_,List.mem_of_getElem? (hC x),List.mem_cons_of_mem _ (List.mem_flatten.mpr ⟨c,List.mem_of_getElem? hc,by rw[c'];exact List.mem_cons_self⟩)⟩
   have hH:H p=some (.lst xs):=w.tr _ hpin
   have gS:H p'=some (.lst ys):=w.tr (p', .lst ys) (by rw[h1];exact bd x0)
   refine⟨p,xs,ix,a,e,r1,SqL.of hH,?_,?_⟩
   ·unfold atI
    rw[(P3.len q).1,hj]
    exact ha
   refine⟨p',e',⟨ys,SqL.of gS⟩,?_⟩
   refine⟨λi mm U' H2=>mm=row.length-i/\i<=row.length/\∃x gg,U'=J.ss x/\W (J.oo x) H2/\Xp (hid H OO) (hid H2 (J.oo x))/\(J.sc gg x).p (hid H2 (J.oo x))/\PZ Er (Fd D) (hid H2 (J.oo x)) ((forN (row.drop i) gg body).bind f),⟨row.length,rfl,Nat.zero_le _,x0,g0,h2,?_,?_,?_,?_⟩,?_⟩
   ·rw[←h1];exact w
   ·rw[←h1];exact Xp.refl _
   ·rw[←h1];exact h3 _ s
   ·rw[←h1,List.drop_zero];exact P
   ·rintro i mm U' H2 ⟨rfl,cU,x,gg,rfl,w2,m2,c7,P2⟩
    have hq:SqL K H2 p' ys:=SqL.of (w2.tr (p', .lst ys) (bd x))
    by_cases ah:i<row.length
    ·right
     obtain⟨y0,iI,ry⟩:=Paired.getR pr (List.getElem?_eq_getElem ah)
     refine⟨⟨ys,y0,hq,iI⟩,λσ3 H3=>∃ x gg,σ3=J.ss x/\W (J.oo x) H3/\Xp (hid H OO) (hid H3 (J.oo x))/\(J.sc gg x).p (hid H3 (J.oo x))/\PZ Er (Fd D) (hid H3 (J.oo x)) ((forN (row.drop (i+1)) gg body).bind f),λσ3 H3 q=>⟨row.length-(i+1),Nat.sub_lt_sub_left ah (Nat.lt_succ_self i),rfl,ah,q⟩,λy H3 hy=>?_⟩
     obtain⟨rfl,jv⟩:=hy
     have:=jv ys hq
     rw[iI] at this
     cases this
     refine(T (J.oo x)).ok (z.mono m2 ry) c7 λv hv=>hb gg x row[i] v H3 _ w2 hv ?_
     rw[List.drop_eq_getElem_cons ah] at P2
     have P3:PZ Er (Fd D) (hid H3 (J.oo x)) ((body gg row[i]).bind λg'=>(forN (row.drop (i+1)) g' body).bind f):=by rw[←XZ];exact P2
     cases eb:body gg row[i] with
     |bad=>rw[eb] at P3;exact P3
     |err x=>rw[eb] at P3;exact P3
     |ok g'=>
      rw[eb] at P3
      exact λx' H4 w4 m4 fN=>⟨x',g',rfl,w4,m2.trans m4,fN,PZ.tr (fd.tr D) m4 P3⟩
    ·left
     have e:i=row.length:=Nat.le_antisymm cU (Nat.not_lt.mp ah)
     subst e
     refine⟨⟨ys,hq,by rw[Paired.len pr];exact Nat.le_refl _⟩,hr gg x H2 D w2 c7 ?_⟩
     rw[List.drop_length] at P2
     exact P2⟩
end
section
variable {u:TS}
end
section
variable {Mqz:Model}{env:Env}{outer l:List Env}{e:Addr}{oe:Obj}{vs:Array Value}{head cls fl:Value}{od:Option Addr}{Q:Unit->Shared->Prop}
end
section
variable {h0 h:Heap}{T:Addr}{cls:Value}{od:Option Addr}{l:List Env}
end
section
variable {qual:Str}{f:Addr}{cd:Value}{outer:List Env}{s0:Shared}{H0:Hp}{E:XK}
end
section
variable {sp:Sp}{t:TA}{p:Pos}{E:XK}
end
end L2
namespace L2
open PySem PySem.Spec PyProof.Rows PySem.W PySem.Builtin PySem.Builtin.ObjectAttr
section
variable {K:Frag}{x C P:Addr}{cd:ClassData}{vs:Array Value}{sl:Array (Option Value)}{name:Str}{v:Value}
def getD (X:K.In s.heap)(hx:s.heap.get? x=some ⟨.ref C,some dx, .fields vs,sl⟩)(dH:s.heap.Ns1 dx mA)(hv:mA name=some v)(hh:handedIn v=true)
  (ga:findIn K (.ref C) "__getattribute__" =some (some (.builtin "BaseException.__getattribute__")))(gh:findIn K (.ref C) "__getattr__" =some none)(mb:mroIn K C (.type "BaseException")=some true)(hd:hasDictIn K C=true)(hn:findIn K (.ref C) name=some none)
  (h:Q v {s with toks:=s.toks+1}):wpAny (model prog w) A (getAttr (.ref x) name jx) Q E s:=by
 obtain⟨hh',g,d,t,os⟩:=s
 obtain⟨oD,es,ep,hoD,hdD,gY,cK,hfi⟩:=id dH
 have I:InstAt hh' x ⟨.ref C,some dx, .fields vs,sl⟩ C (some oD):=⟨hx,rfl,rfl,hoD⟩
 have hl:lookIn name oD=some (some v):=by
  unfold lookIn
  rw[hdD]
  have q:=hfi name
  rw[hv] at q
  unfold nsFind findBy at q
  rw[←Array.find?_toList] at q
  dsimp only
  cases z:List.find? (λx=>x.key.isStr name) es.toList with
  |none=>rw[z] at q;cases q
  |some en=>rw[z] at q;exact congrArg some q
 have L0:=I.type (M:=model prog w)
 have L1:=looks_findIn (M:=model prog w) X ga
 have L2:=looks_findIn (M:=model prog w) X gh
 have LB:=looks_mroIn (M:=model prog w) X mb
 have LF:=looks_find (M:=model prog w) X I (findObj_own hd hn rfl hl)
 have f3:=PySem.F.attr_ValueError.ga.bind (.ref x)
 have dS:(Value.builtin "BaseException.__getattribute__" ==Value.builtin "object.__getattribute__")=false:=by decide+kernel
 unfold getAttr getAttrBy
 refine wpAny_bind (wpAny_mkText (wpAny_holding (wpAny_bind (L0.at (wpAny_bind (L1.at ?_))))))
 dsimp only
 rw[dS,Bool.and_false,if_neg Bool.false_ne_true]
 unfold getAttrByItsOwn hookBefore callGetattribute boundAndCalled
 refine wpAny_bind (L2.at ?_)
 have hx0:(jx&&onTheHeap (Value.builtin "BaseException.__getattribute__"))=false:=by cases jx<;> rfl
 refine wpAny_bind (wpAny_attempt (wpAny_holding ?_))
 rw[hx0,if_neg Bool.false_ne_true,f3]
 refine wpAny_bind (wpAny_pure ?_)
 refine wpAny_call (codeAny_call_builtin PySem.F.attr_ValueError.ga.plain PySem.F.entry_bexc_ga ?_)
 have hk:builtinKind "BaseException.__getattribute__" =some .slot:=by decide+kernel
 have gZ:splitId "BaseException.__getattribute__" =some ("BaseException","__getattribute__"):=by decide+kernel
 have ha:=PySem.F.args_bexc_ga (.ref x) (Value.str name t)
 simp only[checkBuiltinCall,hk,gZ]
 unfold isInstance
 refine wpAny_bind (wpAny_bind (L0.at ?_))
 refine LB.at ?_
 rw[if_neg (by decide)]
 have fin:∀s1:Shared,s1=⟨hh',g,d,t+1,os⟩->wpAny (model prog w) A.in1 («object.__getattribute__» {pos:=[Value.ref x]++[Value.str name t]}) (λfin s'=>match fin with | .done (.ret u)=>u=v/\s'=s1 |_=>False) (λ_ _=>False) s1:=by
  intro s1 hs1
  subst hs1
  unfold «object.__getattribute__» bindTo
  repeat (any_goals lk)
  exact⟨rfl,rfl⟩
 unfold argsOk at ha
 have sg2:∀hJ,Manifest.signature? "BaseException.__getattribute__" =some hJ->Bind.checkArgs "BaseException.__getattribute__" hJ {pos:=[Value.ref x,Value.str name t]}=pure ():=λhJ e=>by
  rw[e] at ha
  exact ha
 have ZA:∀{P:Unit->Shared->Prop}{E':Value->Shared->Prop}{s1:Shared},P () s1->wpAny (model prog w) A.in1 (match Manifest.signature? "BaseException.__getattribute__" with |some hJ=>Bind.checkArgs "BaseException.__getattribute__" hJ {pos:=[Value.ref x]++[Value.str name t]} |_=>pure ()) P E' s1:=fun {P E' s1} p=>by
  split
  ·rename_i hJ e
   rw[show[Value.ref x]++[Value.str name t]=[Value.ref x,Value.str name t] from rfl,sg2 hJ e]
   exact wpAny_pure p
  ·exact wpAny_pure p
 refine ZA ?_
 refine wpAny_mono (fin _ rfl) (λfi s' z=>?_) λ_ _ z=>z.elim
 rcases fi with(_ |_ |_ |u) |_
 all_goals first |exact z.elim |skip
 obtain⟨rfl,rfl⟩:=z
 show wpAny _ _ (handedOut _) _ _ _
 rw[handedOut_of hh]
 exact wpAny_pure h
end
section
variable {h:Heap}{g:Array GenState}{d:Drawn}{t:Nat}{os:OsState}
variable {nm q:Str}{C N:Addr}{bs bm bmB:List Value}{hdct:Bool}{sn:List Str}{sub:List Value}{ab:Bool}{col:Option Bool}{dd:Option Addr}{k0 k1 k2 k3 k5:Option Value}
end
section
variable {fs ex:List Addr}{h:Heap}{e dx:Addr}{o o1 o2:HO}{φ:Heap->Prop}
end
section
variable {Mqz:Model}{env:Env}
variable {nm q:Str}{C N:Addr}{bs bm:List Value}{hdct:Bool}{sn:List Str}{sub:List Value}{ab:Bool}{col:Option Bool}{dd:Option Addr}{k0 k1 k2 k3 k5:Option Value}{newId:String}
end
section
variable {E:XK}{C P fI:Addr}{f a b:Str}{t:TA}{np ao:Pos}
end
section
variable {body gn:List Stmt}{b₀:Stmt}{cn n:Str}{Ch:Addr}{i:Nat}{tb:XK->TS}{ts:Addr->Addr->Option Addr->TS}{np hpos:Pos}
end
end L2
namespace L2
open PySem PySem.Spec PyProof.Rows PySem.W
section
end
section
variable {gn:List Stmt}{b₀:Stmt}{cn n fx:Str}{Ch:Addr}{i:Nat}{ts:Addr->Addr->Option Addr->TS}{np hpos p ao epos:Pos}{sp:Sp}{t:TA}
end
end L2
namespace L2
open PySem PySem.Spec PyProof.Rows
section
variable {E:XK}{u:TS}
variable [fd:FdOk Fd]
end
section
end
section
variable {u:TS}[fd:FdOk Fd]
end
section
variable {u:TS}[fd:FdOk Fd]
end
section
variable {E:XK}{u:TS}
end
section
end
section
variable {u:TS}[fd:FdOk Fd]
def Lz [z:MonoE r]{m:Rs M}{f:List (List M)->Rs L}{as:List (List M)}(k:Nat)(iC:∀(H:Hp) (Q:VK),W OO H->S.p (hid H OO)->Q v H->tl U H Q)(hk:OO[k]?=some C)(h:∀x,S.p x->oL (oL (oF r)) K x v as C)(he:EvS K Er S OO U ta r m)
  (hi:EvB K Er S OO U ti Xf mi)
  (hr:∀bs C',Sv Er (S.addO K (oL (oL (oF r))) v bs C') (OO.set k C') U u Fd (f bs)):
  Sv Er S OO U (Zd (JJ (tBM K "list" Qn (tOp (BC K) tl ti) (Xm ta Yo))) u) Fd (mi.bind λx=>(atR as x).bind λrow=>m.bind λa=>chk (row.length<sizeLine) ((JK as x (row++[a])).bind f)):=λH D w s P=>
 iC _ _ w s (hi.st w s P λx vx H2 s2 w2 q2 r2 P2=>by
  cases ea:atR as x with
  |bad=>rw[ea] at P2;exact P2.elim
  |err ex=>exact absurd ea V8
  |ok row=>
   rw[ea] at P2
   obtain⟨kk,eC,aU⟩:=Ea ea
   obtain⟨p,xs,Cs,e,q,c⟩:=h _ q2
   subst c e
   obtain⟨q0,ys,g1,g2,g3⟩:=Ct q aU
   have bd:∀c∈(p,HO.lst xs)::Cs.flatten,c∈OO.flatten:=λc hc=>List.mem_flatten.mpr ⟨_,List.mem_of_getElem? hk,hc⟩
   have hH:H2 p=some (.lst xs):=w2.tr (p, .lst xs) (bd _ List.mem_cons_self)
   have fv:H2 q0=some (.lst ys):=w2.tr (q0, .lst ys) (bd _ (List.mem_cons_of_mem _ (Uw g2 _ (by simp))))
   refine⟨p,xs,x, .ref q0,rfl,r2,SqL.of hH,by unfold atI;rw[q.len.1,eC];exact g1, .inl ⟨rfl,_,SqL.of fv⟩,he.st w2 q2 (f:=λa=>chk (row.length<sizeLine) ((JK as x (row++[a])).bind f)) P2 λa va H3 s3 w3 q3 r3 az=>?_⟩
   obtain⟨hsz,az⟩:=PZ.chk az
   have P4:PZ Er (Fd D) (hid H3 OO) (f (as.set kk (row++[a]))):=by
    have e5:JK as x (row++[a])= .ok (as.set kk (row++[a])):=by unfold JK;rw[eC]
    rw[e5] at az
    exact az
   have m3:=Xh (OO:=OO) s3
   obtain⟨C',w4,m4,o4⟩:=Bb (ys':=ys++[va]) (row':=row++[a]) (v:=.ref p) w3 hk (P3.imp (λ_ _ _ h=>MonoO.mono m3 h) q) aU g1 (s3 _ _ fv) g2 (Paired.app (Paired.imp2 (λ_ _ h=>z.mono m3 h) g3) (.cons r3 .nil))
   exact⟨q0,ys,va,rfl,rfl,s3 _ _ fv,by rw[Paired.len g3];exact hsz,hr _ C' _ D w4 ⟨S.mono _ _ m4 q3,o4⟩ (PZ.tr (fd.tr D) m4 P4)⟩)
end
section
variable {κ κ2 τ:Type}{u:TS}
def rIt (r:Enc M)(xs:List V)(as:List M):Enc M:=λK H v a=>r K H v a/\∃i:Nat,xs[i]?=some v/\as[i]?=some a
instance {r:Enc M}[m:MonoE r]{xs:List V}{as:List M}:MonoE (rIt r xs as):=⟨λs h=>⟨m.mono s h.1,h.2⟩⟩
def El {m:Rs M}(he:EvB K Er S OO U te (rIt r xs as) m):EvB K Er S OO U te r m:=λH Q w s P=>he H Q w s (by
 cases m with
 |bad=>exact P
 |err x=>exact P
 |ok a=>exact λv H' s' h=>P v H' s' h.1)
abbrev oI3 (oa:OE M)(r2:Enc L)(r3:Enc τ):OE (Option (M×L×τ)):=Sd (oT3 oa (oF r2) (oF r3))
abbrev rI3 (ra:Enc M)(r2:Enc L)(r3:Enc τ)(xs:List V)(as:List M):OE (Option (M×L×τ)):=oF (JI (rP3 (rIt ra xs as) r2 r3))
def Kr {a:M}{f:B->M->Rs (Ctl ρ B)}:JO (a::as) g f=(f g a).bind λc=>match c with
 | .ret r=>.ok (.ret r)
 | .nx g'=>JO as g' f:=rfl
def Df (w:W (C::OO) H)(w':W OO' H')(m:Xp (hid H OO) (hid H' OO'))(hs:c.Sublist C):W (c::OO') H'/\Xp (hid H (C::OO)) (hid H' (c::OO')):=by
 have hn:=w.nd
 rw[XB,List.nodup_append] at hn
 obtain⟨n1,n2,n3⟩:=hn
 have hc:∀x∈c,hid H' OO' x.1=some x.2:=λx hx=>m _ _ (YA (w.cell x (hs.mem hx)) λz=>n3 x.1 (List.mem_map_of_mem (hs.mem hx)) x.1 z rfl)
 refine⟨⟨λx hx=>?_,?_,λx hx=>?_⟩,λb ob hb=>?_⟩
 ·rw[List.flatten_cons] at hx
  rcases List.mem_append.mp hx with z |z
  ·exact(XM (hc x z)).1
  ·exact w'.tr x z
 ·rw[XB,List.nodup_append]
  refine⟨n1.sublist (hs.map _),w'.nd,λa ha b hb e=>?_⟩
  obtain⟨x,hx,rfl⟩:=List.mem_map.mp ha
  exact(XM (hc x hx)).2 (e▸hb)
 ·rw[List.flatten_cons] at hx
  rcases List.mem_append.mp hx with z |z
  ·exact w.mu x (by rw[List.flatten_cons];exact List.mem_append_left _ (hs.mem z))
  ·exact w'.mu x z
 ·obtain⟨h1,h2⟩:=XM hb
  rw[XB,List.mem_append,not_or] at h2
  obtain⟨h3,h4⟩:=XM (m _ _ (YA h1 h2.2))
  refine YA h3 ?_
  rw[XB,List.mem_append,not_or]
  exact⟨λz=>h2.1 ((hs.map _).mem z),h4⟩
def Al [zo:MonoO oa]{r2:Enc L}{r3:Enc τ}[z2:FlatE r2][z3:FlatE r3]{b:Option (M×L×τ)}(w:W (C::OO) H)(hC:C=(p, .lst xs)::Cs.flatten)(q:P3 (oa K (hid H (C::OO))) xs as Cs)
  (P:FTd K (oI3 oa r2 r3) D b (hid H (C::OO))):FTd K (rI3 ra r2 r3 xs as) D b (hid H OO):=λv C' OO' H' w' m' ho=>by
 obtain⟨rfl,ho⟩:=ho
 rw[YK] at ho m'
 have w':W OO' H':=w'.of (by simp)
 cases b with
 |none=>
  obtain⟨w2,m2⟩:=Df w w' m' (List.nil_sublist C)
  exact P v [] OO' H' w2 m2 ⟨ho,rfl⟩
 |some t=>
  obtain⟨hv,p',x,y,z,ev,ht,⟨_,i,hx,ha⟩,h2,h3⟩:=ho
  obtain⟨x',c,dF,hc,hoa⟩:=P3.get q ha
  rw[hx] at dF;cases dF
  have hs:c.Sublist C:=by
   rw[hC]
   exact(List.sublist_flatten_of_mem (List.mem_of_getElem? hc)).cons _
  obtain⟨w2,m2⟩:=Df w w' m' hs
  have hI:V3 (hid H' OO') (hid H' (c::OO')):=V3.trans Xn.i w2.i
  exact P v c OO' H' w2 m2 ⟨hv,p',x,y,z,c,[],[],ev,hI _ _ ht rfl,zo.mono m2 hoa,⟨rfl,z2.flat hI h2⟩,⟨rfl,z3.flat hI h3⟩,by simp⟩
def Lr [zf:FrzC oa ra][zo:MonoO oa][zr:MonoE ra]{r2:Enc L}{r3:Enc τ}[FlatE r2][FlatE r3]{tb:TS}{f:B->Rs (Ctl (Option (M×L×τ)) δ)}(J:Jn B ι)(T:∀(xs:List V) (as:List M) OO,Tgt K OO g (rIt ra xs as) κ)(x0:ι)(g0:B)(he:Ev K Er S OO OO U te (oL oa) m)(h1:OO=J.oo x0)(h2:U=J.ss x0)(h3:∀h,S.p h->(J.sc g0 x0).p h)
  (hb:∀xs as g x a v,Sv Er ((T xs as (J.oo x)).sc a v (J.sc g x)) (J.oo x) ((T xs as (J.oo x)).set v (J.ss x)) tb (FCd K (rI3 ra r2 r3 xs as) J) (body g a))
  (hr:∀g x,Sv Er (J.sc g x) (J.oo x) (J.ss x) u (FCd K (oI3 oa r2 r3) J2) (f g)):Sv Er S OO U (Zd (Hv (FE K te) g tb) u) (FCd K (oI3 oa r2 r3) J2) (m.bind λas=>(JO as g0 body).bind (ZB f)):=λH D w s P=>by
 refine he H _ w s ?_
 cases em:m with
 |bad=>rw[em] at P;exact P
 |err x=>rw[em] at P;exact λH' s'=>P H' (Xn.trans s')
 |ok as=>
  rw[em] at P
  have P:PZ Er (FCd K (oI3 oa r2 r3) J2 D) (hid H OO) ((JO as g0 body).bind (ZB f)):=P
  intro v C H' s' w' m' ⟨p,xs,Cs,ev,q,hC⟩
  have P0:PZ Er (FCd K (oI3 oa r2 r3) J2 D) (hid H' (C::OO)) ((JO as g0 body).bind (ZB f)):=PZ.tr (FdOk.tr D) m' P
  have hn:=w'.nd
  rw[XB,List.nodup_append] at hn
  have bg:∀x∈C,hid H' OO x.1=some x.2:=λx hx=>YA (w'.cell x hx) λz=>hn.2.2 x.1 (List.mem_map_of_mem hx) x.1 z rfl
  have am:Xp (hid H' (C::OO)) (hid H' OO):=Zv (Xp.refl _) λb hb=>by rw[XB];exact List.mem_append_right _ hb
  have hp:hid H' OO p=some (.lst xs):=bg (p, .lst xs) (by rw[hC];exact List.mem_cons_self)
  have pr:Paired (ra K (hid H' OO)) xs as:=q.pair λa b c hc ho=>zf.frz ho am λx hx=>bg x (by rw[hC];exact List.mem_cons_of_mem _ (List.mem_flatten.mpr ⟨c,hc,hx⟩))
  refine⟨p,ev,⟨xs,SqL.of (Xn _ _ hp)⟩,?_⟩
  refine⟨λi mm U' H2=>mm=as.length-i/\i<=as.length/\∃x gg,U'=J.ss x/\W (J.oo x) H2/\Xp (hid H' OO) (hid H2 (J.oo x))/\(J.sc gg x).p (hid H2 (J.oo x))/\PZ Er (FCd K (oI3 oa r2 r3) J2 D) (hid H' (C::OO)) ((JO (as.drop i) gg body).bind (ZB f)),⟨as.length,rfl,Nat.zero_le _,x0,g0,h2,?_,?_,?_,?_⟩,?_⟩
  ·rw[←h1];exact w'.tail
  ·rw[←h1];exact Xp.refl _
  ·rw[←h1];exact h3 _ (S.mono _ _ (m'.trans am) s)
  ·rw[List.drop_zero];exact P0
  ·rintro i mm U' H2 ⟨rfl,hi,x,gg,rfl,w2,m2,c7,P2⟩
   have hq:SqL K H2 p xs:=SqL.of (Xn _ _ (m2 _ _ hp))
   by_cases ah:i<as.length
   ·right
    have ha:as[i]?=some as[i]:=by simp[ah]
    obtain⟨y0,iI,ry⟩:=Paired.getR pr ha
    refine⟨⟨xs,y0,hq,iI⟩,λσ3 H3=>∃ x gg,σ3=J.ss x/\W (J.oo x) H3/\Xp (hid H' OO) (hid H3 (J.oo x))/\(J.sc gg x).p (hid H3 (J.oo x))/\PZ Er (FCd K (oI3 oa r2 r3) J2 D) (hid H' (C::OO)) ((JO (as.drop (i+1)) gg body).bind (ZB f)),λσ3 H3 q=>⟨as.length-(i+1),Nat.sub_lt_sub_left ah (Nat.lt_succ_self i),rfl,ah,q⟩,λy H3 hy=>?_⟩
    obtain⟨rfl,jv⟩:=hy
    have:=jv xs hq
    rw[iI] at this
    cases this
    refine(T xs as (J.oo x)).ok (a:=as[i]) ⟨zr.mono m2 ry,i,iI,ha⟩ c7 λv hv=>hb xs as gg x as[i] v H3 _ w2 hv ?_
    rw[List.drop_eq_getElem_cons ah] at P2
    cases eb:body gg as[i] with
    |bad=>rw[Kr,eb] at P2;exact P2
    |err x=>rw[Kr,eb] at P2;exact λH4 s4=>P2 H4 (am.trans (m2.trans s4))
    |ok c=>
     rw[Kr,eb] at P2
     cases c with
     |ret r=>exact FdOk.tr (Fd:=FTd K (rI3 ra r2 r3 xs as)) D r _ _ m2 (Al w' hC q P2)
     |nx g'=>exact λx' H4 w4 m4 fN=>⟨x',g',rfl,w4,m2.trans m4,fN,P2⟩
   ·left
    have e:i=as.length:=Nat.le_antisymm hi (Nat.not_lt.mp ah)
    subst e
    refine⟨⟨xs,hq,by rw[Paired.len pr];exact Nat.le_refl _⟩,hr gg x H2 D w2 c7 ?_⟩
    rw[List.drop_length] at P2
    exact PZ.tr (FdOk.tr D) (am.trans m2) P2
end
section
variable {u:TS}[fd:FdOk Fd]
abbrev T3:=QLs×Int×Int
def Ew (a:Option T3)(g:Rs L):Rs L:=match a with
 |none=>g
 |some t=>(Rs.ok ([]:List Int)).bind λb=>chk (t.1.length<sizeLine) ((Rs.ok (0:Int)).bind λx=>(atR (t.1++[b]) x).bind λrow=>(Rs.ok (0:Int)).bind λa=>chk (row.length<sizeLine) ((JK (t.1++[b]) x (row++[a])).bind λ_=>g))
def Mp {a:Option T3}(i k:Nat)(hσ:U[i]?=some (some v))(hk:OO[k]?=some C)(h:∀x,S.p x->oI3 (oL (oL (oF Xf))) Xf Xf K x v a C)(hr:∀C',Sv Er S (OO.set k C') U u Fd g):
  Sv Er S OO U (Zd (Tc (HK (tOp (λx y H Q=>y= .non/\Q (.bl (!decide (x= .non))) H) (Q0 i) (tC .non))) (Zd (JJ (tBM K "list" Qn (tOp (Uy K) (Q0 i) (tC (.int 0))) (Xm (Hd Yo) Yo))) (Zd (JJ (tBM K "list" Qn (tOp (BC K) (tOp (Uy K) (Q0 i) (tC (.int 0))) (tC (.int 0))) (Xm (tC (.int 0)) Yo))) GC)) GC) u) Fd (Ew a g):=λH D w s P=>by
 have hv:=h _ s
 have kl:k<OO.length:=(List.getElem?_eq_some_iff.mp hk).1
 refine⟨v,hσ,rfl,_,rfl,?_⟩
 cases a with
 |none=>
  obtain⟨rfl,rfl⟩:=hv
  have e:OO.set k []=OO:=List.ext_getElem? λj=>by
   by_cases z:k=j
   ·subst z;rw[List.getElem?_set_self kl,hk]
   ·rw[List.getElem?_set_ne z]
  have:=hr [] H D (by rw[e];exact w) (by rw[e];exact s) (by rw[e];exact P)
  exact this
 |some t=>
  obtain⟨hn,p',x1,y,z,C1,C2,C3,ev,ht,hl,⟨rfl,hy⟩,⟨rfl,hz⟩,hC⟩:=hv
  rw[List.append_nil,List.append_nil] at hC
  subst hC
  have hd:(!decide (v=V.non))=true:=by simp[hn]
  rw[hd]
  let S2:SC:=⟨λx=>S.p x/\x p'=some (.tup [x1,y,z]),λh h' m q=>⟨S.mono h h' m q.1,m _ _ q.2⟩⟩
  have hS:∀x,S2.p x->oL (oL (oF Xf)) K x x1 t.1 C:=λx q=>by
   obtain⟨_,p2,x2,y2,z2,D1,D2,D3,e2,iD,fr,⟨rfl,_⟩,⟨rfl,_⟩,hD⟩:=h x q.1
   rw[ev] at e2
   cases e2
   rw[q.2] at iD
   cases iD
   rw[List.append_nil,List.append_nil] at hD
   subst hD
   exact fr
  have iC:∀(OO:List (List XD)) (T:SC),(∀x,T.p x->x p'=some (.tup [x1,y,z]))->∀(H:Hp) (Q:VK),W OO H->T.p (hid H OO)->Q x1 H->tOp (Uy K) (Q0 i) (tC (.int 0)) U H Q:=λOO T hT H Q w s q=>⟨_,hσ,p',_,0,_,ev,rfl,SqT.of (Xn _ _ (hT _ s)),rfl,q⟩
  have key:Sv Er S2 OO U (Zd (JJ (tBM K "list" Qn (tOp (Uy K) (Q0 i) (tC (.int 0))) (Xm (Hd Yo) Yo))) (Zd (JJ (tBM K "list" Qn (tOp (BC K) (tOp (Uy K) (Q0 i) (tC (.int 0))) (tC (.int 0))) (Xm (tC (.int 0)) Yo))) u)) Fd (Ew (some t) g):=by
   refine P7 (S:=S2) (o:=oL (oF Xf)) (m:=Rs.ok []) (f:=λzs=>(Rs.ok (0:Int)).bind λx=>(atR zs x).bind λrow=>(Rs.ok (0:Int)).bind λa=>chk (row.length<sizeLine) ((JK zs x (row++[a])).bind λ_=>g)) k (iC OO S2 λx q=>q.2) hk hk hS ZZ λb C'=>?_
   refine Lz (S:=S2.addO K (oL (oL (oF Xf))) x1 (t.1++[b]) C') (r:=Xf) (m:=Rs.ok 0) (mi:=Rs.ok 0) (f:=λ_=>g) k (iC _ _ λx q=>q.1.2) (by rw[List.getElem?_set_self kl]) (λx q=>q.2) (EvB.sh (Gw 0)) (Gw 0) λbs C'' H2 D2 w2 s2 P2=>?_
   rw[List.set_set] at w2 s2 P2
   exact hr C'' H2 D2 w2 s2.1.1.1 P2
  exact key H D w ⟨s,ht⟩ P
def IH {q:Enc B}{m:Rs (M×B×δ)}(he:EvS K Er S OO U te (rP3 r q t) m):EvS K Er S OO U te (JI (rP3 r q t)) (m.bind λa=>.ok (some a)):=λH Q w s P=>by
 refine he H Q w s ?_
 cases m with
 |bad=>exact P
 |err x=>exact P
 |ok a=>
  intro v H' s' ⟨p,x,y,z,e,h⟩
  exact P v H' s' ⟨by rw[e];exact(λz=>nomatch z),p,x,y,z,e,h⟩
def rAn:Enc (Option Int):=λ_ _ v a=>match a with
 |none=>True
 |some i=>v= .int i
instance:MonoE rAn:=⟨λ_ h=>h⟩
def R0 {m:Rs (M×Int×Int)}(he:EvB K Er S OO U te (rP3 r Xf Xf) m):EvB K Er S OO U (tSl (T1 K) te (Nt (tC (.int 1))) Fv) (rPL Xf) (m.bind λp=>.ok [p.2.1,p.2.2]):=λH Q w s P=>by
 have h2:EvB K Er S OO U te (rPL rAn) (m.bind λp=>.ok [none,some p.2.1,some p.2.2]):=λH Q w s P=>he H Q w s (by
  cases m with
  |bad=>exact P
  |err x=>exact P
  |ok a=>exact λv H' s' r9=>by obtain⟨p,x,y,z,e,h,_,h2,h3⟩:=r9;exact P v H' s' ⟨p,_,e,h, .cons True.intro (.cons h2 (.cons h3 .nil))⟩)
 refine Ye h2 (Ef (K:=K) (Gw 1)) Eo H Q w s ?_
 cases m with
 |bad=>exact P
 |err x=>exact P
 |ok a=>
  refine(?_:PZ Er _ H (chk (¬(HT.sIx 3 0 (some 1)=0/\HT.sIx 3 3 none=3)) (.ok [some a.2.1,some a.2.2])))
  rw[Xi (by decide)]
  rintro v H' s' ⟨p,xs,e,h,pr⟩
  cases pr with
  |cons r1 t=>cases t with
   |cons r2 t=>cases t with
    |nil=>exact P _ H' s' ⟨p,_,e,h, .cons r1 (.cons r2 .nil)⟩
end
end L2
end
namespace L2
open PySem PySem.Spec PyProof.Rows
def CF {X:Cx}{M:Type}[DecidableEq M]{r:Enc M}{d:Nat}(K:W.Frag)(h:X.K=K)(E:EqOk r d)(hu:X.A.units+d<cLine):OpR X (compareOp .NotEq) (WW K r):=by subst h;exact T8 E hu
section
variable {M L B δ ρ:Type}{K:W.Frag}{Er:Exc->Hp->Prop}{S T:SC}{OO:List (List XD)}{U l:St}{i j k n:Nat}{v w:V}{x:Option V}{r:Enc M}{q:Enc L}{t:Enc B}{o:OE M}{a:M}{C D:List XD}{te ta tb tc:TE}
class Nn (i j:Nat):Prop where h:i≠j
instance:Nn 0 (j+1):=⟨by omega⟩
instance:Nn (i+1) 0:=⟨by omega⟩
instance [x:Nn i j]:Nn (i+1) (j+1):=⟨by have:=x.h;omega⟩
class Lk {L:Type}(l:List L)(k:Nat):Prop where h:k<l.length
instance {b:L}{l:List L}:Lk (b::l) 0:=⟨by simp⟩
instance {b:L}{l:List L}[x:Lk l k]:Lk (b::l) (k+1):=⟨by simpa using x.h⟩
instance {b:L}{l:List L}[x:Lk l k]:Lk (l.set j b) k:=⟨by simpa using x.h⟩
instance {b:L}:Lk (List.replicate (n+1) b) 0:=⟨by simp⟩
instance {b:L}[x:Lk (List.replicate n b) k]:Lk (List.replicate (n+1) b) (k+1):=⟨by simpa using x.h⟩
instance {l m:List L}[x:Lk l k]:Lk (l++m) k:=⟨by have:=x.h;simp;omega⟩
class Sl (U:St)(i:Nat)(v:outParam V):Prop where h:U[i]?=some (some v)
instance:Sl (some v::l) 0 v:=⟨rfl⟩
instance [y:Sl l i v]:Sl (x::l) (i+1) v:=⟨y.h⟩
instance [y:Lk U i]:Sl (U.set i (some v)) i v:=⟨by simp[y.h]⟩
instance [y:Sl U i v][z:Nn j i]:Sl (U.set j x) i v:=⟨by rw[List.getElem?_set_ne z.h];exact y.h⟩
class Cp (caps:List (Nat×Str))(j:Nat)(i:outParam Nat):Prop where h:∃s,caps[j]?=some (i,s)
instance {s:Str}{c:List (Nat×Str)}:Cp ((i,s)::c) 0 i:=⟨s,rfl⟩
instance {p:Nat×Str}{c:List (Nat×Str)}[y:Cp c j i]:Cp (p::c) (j+1) i:=⟨y.h⟩
instance {s:Str}{z:List Str}{c:List (Nat×Str)}:Lk (X5 (List.length (s::z)) c U) 0:=⟨by unfold X5;simp;omega⟩
instance {s s':Str}{z:List Str}{c:List (Nat×Str)}:Lk (X5 (List.length (s::s'::z)) c U) 1:=⟨by unfold X5;simp;omega⟩
instance {s:Str}{c:List (Nat×Str)}[y:Cp c j i][z:Sl U i v]:Sl (X5 (List.length [s]) c U) (j+1) v:=⟨by
 obtain⟨s,h⟩:=y.h
 unfold X5
 rw[List.getElem?_append_right (by simp),List.getElem?_map]
 simp[h,z.h]⟩
instance {s s':Str}{c:List (Nat×Str)}[y:Cp c j i][z:Sl U i v]:Sl (X5 (List.length [s,s']) c U) (j+2) v:=⟨by
 obtain⟨s,h⟩:=y.h
 unfold X5
 rw[List.getElem?_append_right (by simp),List.getElem?_map]
 simp[h,z.h]⟩
instance {s s' s2:Str}{z:List Str}{c:List (Nat×Str)}:Lk (X5 (List.length (s::s'::s2::z)) c U) 2:=⟨by unfold X5;simp;omega⟩
instance {s s' s2:Str}{c:List (Nat×Str)}[y:Cp c j i][z:Sl U i v]:Sl (X5 (List.length [s,s',s2]) c U) (j+3) v:=⟨by
 obtain⟨s,h⟩:=y.h
 unfold X5
 rw[List.getElem?_append_right (by simp),List.getElem?_map]
 simp[h,z.h]⟩
class Ow (OO:List (List XD))(k:outParam Nat)(C:List XD):Prop where h:OO[k]?=some C
instance:Ow (C::OO) 0 C:=⟨rfl⟩
instance [y:Ow OO k C]:Ow (D::OO) (k+1) C:=⟨y.h⟩
instance [y:Lk OO k]:Ow (OO.set k C) k C:=⟨by simp[y.h]⟩
instance [y:Ow OO k C][z:Nn j k]:Ow (OO.set j D) k C:=⟨by rw[List.getElem?_set_ne z.h];exact y.h⟩
class Fc (S:SC)(K:W.Frag)(v:V){M:outParam Type}(r:outParam (Enc M))(a:outParam M):Prop where h:∀x,S.p x->r K x v a
instance [MonoE r]:Fc (S.and (SC.one K r v a)) K v r a:=⟨λ_ s=>s.2⟩
instance (priority:=900)[y:Fc S K v r a]:Fc (S.and T) K v r a:=⟨λx s=>y.h x s.1⟩
class Fo (S:SC)(K:W.Frag)(v:V){M:outParam Type}(o:outParam (OE M))(a:outParam M)(C:outParam (List XD)):Prop where h:∀x,S.p x->o K x v a C
instance [MonoO o]:Fo (S.and (SC.oneO K o v a C)) K v o a C:=⟨λ_ s=>s.2⟩
instance (priority:=900)[y:Fo S K v o a C]:Fo (S.and T) K v o a C:=⟨λx s=>y.h x s.1⟩
class Su (S T:SC):Prop where h:∀x,S.p x->T.p x
instance:Su S S:=⟨λ_ s=>s⟩
instance (priority:=900):Su S SC.nil:=⟨λ_ _=>SC.t⟩
instance (priority:=800)[MonoE r][y:Su S T][z:Fc S K v r a]:Su S (T.and (SC.one K r v a)):=⟨λx s=>⟨y.h x s,z.h x s⟩⟩
instance (priority:=800)[MonoO o][y:Su S T][z:Fo S K v o a C]:Su S (T.and (SC.oneO K o v a C)):=⟨λx s=>⟨y.h x s,z.h x s⟩⟩
instance (priority:=700){T':SC}[y:Su S T']:Su (S.and T) T':=⟨λx s=>y.h x s.1⟩
variable (K Er S OO U te) in
class CB {M:outParam Type}(r:outParam (Enc M))(m:outParam (Rs M)):Prop where h:EvB K Er S OO U te r m
variable (K Er S OO U te) in
class CW {M:Type}(r:Enc M)(m:outParam (Rs M)):Prop where h:EvB K Er S OO U te r m
variable (K Er S OO U te) in
class CS {M:outParam Type}(r:outParam (Enc M))(m:outParam (Rs M)):Prop where h:EvS K Er S OO U te r m
variable (K Er S OO U te) in
class CV {M:Type}(r:Enc M)(m:outParam (Rs M)):Prop where h:EvS K Er S OO U te r m
variable (K Er S OO U te) in
class CN {M:outParam Type}(o:outParam (OE M))(m:outParam (Rs M)):Prop where h:Ev K Er S OO OO U te o m
variable (K Er S OO U te) in
class CM {M:outParam Type}(o:outParam (OE M))(m:outParam (Rs M)):Prop where h:Ev K Er S OO OO U te o m
variable (K Er S OO U te) in
class CO {M:Type}(o:OE M)(m:outParam (Rs M)):Prop where h:Ev K Er S OO OO U te o m
variable (K Er S OO U te) in
class CL {M:outParam Type}(r:outParam (Enc M))(m:outParam (Rs (List M))):Prop where h:EvL K Er S OO U te r m
class CT (K:W.Frag)(Er:Exc->Hp->Prop)(S:SC)(OO:List (List XD))(U:St)(tt:TT)(m:outParam (Rs Bool)):Prop where h:EvT Er S OO U tt m
class CP (K:W.Frag)(Er:Exc->Hp->Prop)(S:SC)(OO:List (List XD))(U:St)(tt:TO)(m:outParam (Rs (Option Int))):Prop where h:EvP Er S OO U tt m
variable (K Er S OO U) in
class CA {M:Type}(t:TA)(r:Enc M)(m:outParam (Rs (List M))):Prop where h:EvA K Er S OO U t r m
variable (K Er S OO U) in
class Cw (wi:TI){M:outParam Type}(r:outParam (Enc M))(m:outParam (Rs (List M))):Prop where h:Walk K Er S OO U wi r m
variable {m m':Rs M}{ml:Rs (List M)}{mi mj:Rs Int}{mb mc:Rs Bool}{ms:Rs Str}{tt tu:TT}
def qb [c:CW K Er S OO U te r m]:EvB K Er S OO U te r m:=c.h
def qB [c:CB K Er S OO U te r m]:EvB K Er S OO U te r m:=c.h
def qs [c:CV K Er S OO U te r m]:EvS K Er S OO U te r m:=c.h
def qS [c:CS K Er S OO U te r m]:EvS K Er S OO U te r m:=c.h
def qn [c:CO K Er S OO U te o m]:Ev K Er S OO OO U te o m:=c.h
def qN [c:CN K Er S OO U te o m]:Ev K Er S OO OO U te o m:=c.h
def qM [c:CM K Er S OO U te o m]:Ev K Er S OO OO U te o m:=c.h
def ql [c:CL K Er S OO U te r ml]:EvL K Er S OO U te r ml:=c.h
variable (K) in
def qt [c:CT K Er S OO U tt mb]:EvT Er S OO U tt mb:=c.h
variable (K) in
def qp {tt:TO}{m:Rs (Option Int)}[c:CP K Er S OO U tt m]:EvP Er S OO U tt m:=c.h
def qa {t:TA}[c:CA K Er S OO U t r ml]:EvA K Er S OO U t r ml:=c.h
def qw {wi:TI}[c:Cw K Er S OO U wi r ml]:Walk K Er S OO U wi r ml:=c.h
-- as wanted
instance [c:CB K Er S OO U te r m]:CW K Er S OO U te r m:=⟨c.h⟩
instance (priority:=900){m:Rs Mx}[c:CB K Er S OO U te rMx m]:CW K Er S OO U te Xf (m.bind mxI):=⟨Ka c.h⟩
instance (priority:=900){m:Rs Mx}[c:CB K Er S OO U te rMx m]:CW K Er S OO U te B8 (m.bind mxS):=⟨S4 c.h⟩
instance (priority:=900){m:Rs Mx}[c:CB K Er S OO U te rMx m]:CW K Er S OO U te XO (m.bind mxB):=⟨RY c.h⟩
instance (priority:=900){m:Rs (Option M)}[c:CB K Er S OO U te (JI r) m]:CW K Er S OO U te r (m.bind Ta):=⟨HR c.h⟩
instance [FlatE r][c:CW K Er S OO U te r m]:CV K Er S OO U te r m:=⟨EvB.sh c.h⟩
instance (priority:=900)[c:CS K Er S OO U te r m]:CV K Er S OO U te r m:=⟨c.h⟩
instance (priority:=800)[c:CV K Er S OO U te Xf mi]:CV K Er S OO U te rMx (mi.bind λa=>.ok (.i a)):=⟨Sq c.h⟩
instance (priority:=800)[c:CV K Er S OO U te B8 ms]:CV K Er S OO U te rMx (ms.bind λa=>.ok (.s a)):=⟨R4 c.h⟩
instance (priority:=800)[c:CV K Er S OO U te XO mb]:CV K Er S OO U te rMx (mb.bind λa=>.ok (.b a)):=⟨SQ c.h⟩
instance [c:CN K Er S OO U te o m]:CO K Er S OO U te o m:=⟨c.h⟩
instance (priority:=900)[c:CV K Er S OO U te r m]:CO K Er S OO U te (oF r) m:=⟨EvS.ev c.h⟩
instance [c:CN K Er S OO U te o m]:CM K Er S OO U te o m:=⟨c.h⟩
instance (priority:=900)[c:CS K Er S OO U te r m]:CM K Er S OO U te (oF r) m:=⟨EvS.ev c.h⟩
instance {o:OE M}:CO K Er S OO U (Hd Yo) (oL o) (.ok []):=⟨ZZ⟩
-- one of dB other
instance (priority:=500)[FrzC o r][c:CN K Er S OO U te o m]:CB K Er S OO U te r m:=⟨Ev.toB c.h⟩
instance (priority:=600)[FlatE r][c:CB K Er S OO U te r m]:CS K Er S OO U te r m:=⟨EvB.sh c.h⟩
instance (priority:=500)[FrzC o r][c:CN K Er S OO U te o m]:CS K Er S OO U te r m:=⟨Ev.sh c.h⟩
instance (priority:=700)[c:CS K Er S OO U te (rV r) ml]:CL K Er S OO U te r ml:=⟨EvS.ls c.h⟩
instance (priority:=600)[FlatE r][c:CB K Er S OO U te (rV r) ml]:CL K Er S OO U te r ml:=⟨EvB.ls c.h⟩
instance (priority:=800)[MonoE r][c:CN K Er S OO U te (oL (oF r)) ml]:CL K Er S OO U te r ml:=⟨Ev.ls c.h⟩
-- names
instance [y:Sl U i v][z:Fc S K v r a][MonoE r]:CB K Er S OO U (Q0 i) r (.ok a):=⟨R9 i y.h z.h⟩
instance (priority:=900)[y:Sl U i v][z:Fo S K v o a C][u:Ow OO k C][FrzC o r]:CB K Er S OO U (Q0 i) r (.ok a):=⟨PR i k y.h u.h z.h⟩
instance [y:Sl U i v][z:Fc S K v r a]:CS K Er S OO U (Q0 i) r (.ok a):=⟨SW i y.h z.h⟩
-- constants
instance {n:Int}:CB K Er S OO U (tC (.int n)) Xf (.ok n):=⟨Gw n⟩
instance {b:Bool}:CB K Er S OO U (tC (.bl b)) XO (.ok b):=⟨WN b⟩
instance {x:Str}:CB K Er S OO U (tC (.str x)) B8 (.ok x):=⟨Ry x⟩
-- numbers
section
variable [x':CW K Er S OO U ta Xf mi][y':CW K Er S OO U tb Xf mj]
instance:CB K Er S OO U (tOp (rI0 λi j=>V.int (i+j)) ta tb) Xf (mi.bind λa=>mj.bind λb=>.ok (a+b)):=⟨CG x'.h y'.h⟩
instance:CB K Er S OO U (tOp (rI0 λi j=>V.int (i-j)) ta tb) Xf (mi.bind λa=>mj.bind λb=>.ok (a-b)):=⟨UW x'.h y'.h⟩
instance:CB K Er S OO U (tOp (rI Tb λi j=>V.int (i*j)) ta tb) Xf (mi.bind λa=>mj.bind λb=>MZ a b):=⟨Jp x'.h y'.h⟩
instance:CB K Er S OO U (tOp (rI (λx j=>(0:Int)<j) λi j=>V.int (i % j)) ta tb) Xf (mi.bind λa=>mj.bind λb=>Wt a b):=⟨Se x'.h y'.h⟩
instance:CB K Er S OO U (tOp (rI (λx j=>(0:Int)<j/\j.natAbs.log2<9000) λi j=>V.int (i/j)) ta tb) Xf (mi.bind λa=>mj.bind λb=>AF a b):=⟨Sa x'.h y'.h⟩
instance:CB K Er S OO U (tOp (rI AC λi j=>V.int (i^j.toNat)) ta tb) Xf (mi.bind λa=>mj.bind λb=>W5 a b):=⟨PK x'.h y'.h⟩
instance:CB K Er S OO U (tOp (rI0 λi j=>V.bl (decide (i<j))) ta tb) XO (mi.bind λa=>mj.bind λb=>.ok (decide (a<b))):=⟨Lb x'.h y'.h⟩
instance:CB K Er S OO U (tOp (rI0 λi j=>V.bl (decide (i<=j))) ta tb) XO (mi.bind λa=>mj.bind λb=>.ok (decide (a<=b))):=⟨Wi x'.h y'.h⟩
instance:CB K Er S OO U (tOp (rI0 λi j=>V.bl (decide (j<i))) ta tb) XO (mi.bind λa=>mj.bind λb=>.ok (decide (b<a))):=⟨OJ x'.h y'.h⟩
instance:CB K Er S OO U (tCB (λxs H Q=>∃ (i:Int),∃(j:Int),xs=[V.int i,V.int j]/\Q (V.int (if j > i then j else i)) H) (Xm ta (Xm tb Yo))) Xf (mi.bind λa=>mj.bind λb=>.ok (max a b)):=⟨I0 x'.h y'.h⟩
instance:CB K Er S OO U (tCB (λxs H Q=>∃ (i:Int),∃(j:Int),xs=[V.int i,V.int j]/\Q (V.int (if j<i then j else i)) H) (Xm ta (Xm tb Yo))) Xf (mi.bind λa=>mj.bind λb=>.ok (min a b)):=⟨Be x'.h y'.h⟩
instance:Cw K Er S OO U (Ps (Xm ta (Xm tb Yo))) Xf (mi.bind λlo=>mj.bind λn=>MY lo n):=⟨BA x'.h y'.h⟩
instance:Cw K Er S OO U (Sk (Xm ta Yo)) Xf (mi.bind λn=>MY (0:Int) n):=⟨Kb x'.h⟩
instance:CB K Er S OO U (tUn (rU λi=>V.int (-i)) ta) Xf (mi.bind λa=>.ok (-a)):=⟨GV x'.h⟩
instance:CB K Er S OO U (tCB (λxs H Q=>∃ (i:Int),xs=[V.int i]/\Q (V.int (if i<(0:Int) then-i else i)) H) (Xm ta Yo)) Xf (mi.bind λa=>.ok (a.natAbs:Int)):=⟨Pr x'.h⟩
instance:CP K Er S OO U (Nt ta) (mi.bind λi=>.ok (some i)):=⟨Ef x'.h⟩
instance:CP K Er S OO U Fv (.ok none):=⟨Eo⟩
end
section
variable [DecidableEq M][Scal r][MonoE r][y':CB K Er S OO U tb r m'][x':CW K Er S OO U ta r m]
instance:CB K Er S OO U (tOp rEq ta tb) XO (m.bind λa=>m'.bind λb=>.ok (decide (a=b))):=⟨JN x'.h y'.h⟩
instance:CB K Er S OO U (tOp rNe ta tb) XO (m.bind λa=>m'.bind λb=>.ok !decide (a=b)):=⟨De x'.h y'.h⟩
end
section
variable [DecidableEq M][Scal r][MonoE r][x':CB K Er S OO U ta r m][y':CW K Er S OO U tb r m']
instance (priority:=900):CB K Er S OO U (tOp rEq ta tb) XO (m.bind λa=>m'.bind λb=>.ok (decide (a=b))):=⟨JN x'.h y'.h⟩
instance (priority:=900):CB K Er S OO U (tOp rNe ta tb) XO (m.bind λa=>m'.bind λb=>.ok !decide (a=b)):=⟨De x'.h y'.h⟩
end
section
variable {m m':Rs Mx}[x':CB K Er S OO U ta rMx m][y':CB K Er S OO U tb rMx m']
instance:CB K Er S OO U (tOp rEq ta tb) XO ((m.bind mxI).bind λa=>(m'.bind mxI).bind λb=>.ok (decide (a=b))):=⟨JN (Ka x'.h) (Ka y'.h)⟩
instance:CB K Er S OO U (tOp rNe ta tb) XO ((m.bind mxI).bind λa=>(m'.bind mxI).bind λb=>.ok !decide (a=b)):=⟨De (Ka x'.h) (Ka y'.h)⟩
end
section
variable [DecidableEq M][MonoE r][x':CB K Er S OO U ta r m][y':CW K Er S OO U tb r m']
instance:CB K Er S OO U (tOp (WW K r) ta tb) XO (m.bind λa=>m'.bind λb=>.ok !decide (a=b)):=⟨Cv x'.h y'.h⟩
end
-- truths
section
variable [x':CW K Er S OO U ta XO mb][y':CW K Er S OO U tb XO mc][u':CT K Er S OO U tt mb][w':CT K Er S OO U tu mc]
instance:CT K Er S OO U (tB ta) mb:=⟨E4 x'.h⟩
instance:CT K Er S OO U (HK ta) mb:=⟨XT x'.h⟩
instance:CT K Er S OO U (AB tt) (mb.bind λb=>.ok !b):=⟨CC u'.h⟩
instance:CT K Er S OO U (Am tt tu) (Pe mb mc):=⟨Rz u'.h w'.h⟩
instance:CT K Er S OO U (tOr tt tu) (orR mb mc):=⟨Ku u'.h w'.h⟩
instance:CB K Er S OO U (RE ta tb) XO (Pe mb mc):=⟨Gz x'.h y'.h⟩
instance:CB K Er S OO U (tCB (λxs H Q=>(∃(i:Int),xs=[V.int i]/\Q (V.int i) H)∨∃(k:Bool),xs=[V.bl k]/\Q (V.int (if k=true then(1:Int) else(0:Int))) H) (Xm ta Yo)) Xf (mb.bind λb=>.ok (if b=true then(1:Int) else(0:Int))):=⟨Uz x'.h⟩
end
section
variable [u':CT K Er S OO U tt mb][x':CB K Er S OO U ta r m][y':CW K Er S OO U tb r m']
end
-- items
section
variable [MonoE r][j':CW K Er S OO U tb Xf mi]
section
variable [x':CB K Er S OO U ta (rV r) ml]
instance:CB K Er S OO U (tOp (BC K) ta tb) r (ml.bind λas=>mi.bind λi=>atR as i):=⟨OM x'.h j'.h⟩
end
section
variable [x':CB K Er S OO U ta (rPL r) ml]
instance:CB K Er S OO U (tOp (Uy K) ta tb) r (ml.bind λas=>mi.bind λi=>atR as i):=⟨Ra x'.h j'.h⟩
end
section
variable [x':CL K Er S OO U ta r ml]
instance:CS K Er S OO U (tOp (BC K) ta tb) r (ml.bind λas=>mi.bind λi=>atR as i):=⟨Ww x'.h j'.h⟩
instance:CN K Er S OO U (tOp AL ta tb) (oL (oF r)) (ml.bind λas=>mi.bind λn=>Iv as n):=⟨Wd x'.h j'.h⟩
end
end
section
variable [x':CB K Er S OO U ta (rV r) ml]
instance:CB K Er S OO U (tCB (Gj K) (Xm ta Yo)) Xf (ml.bind λas=>.ok (as.length:Int)):=⟨Bd x'.h⟩
end
section
variable [x':CB K Er S OO U ta (rPL r) ml]
end
section
variable {m:Rs (Int×Int)}[x':CB K Er S OO U ta (rP2 Xf Xf) m]
end
section
variable {m:Rs (M×L)}[x':CB K Er S OO U ta (rP2 r q) m]
instance:CB K Er S OO U (tOp (Uy K) ta (tC (V.int (0:Int)))) r (m.bind λp=>.ok p.fst):=⟨L3 x'.h⟩
instance:CB K Er S OO U (tOp (Uy K) ta (tC (V.int (1:Int)))) q (m.bind λp=>.ok p.snd):=⟨IN x'.h⟩
end
section
variable {m:Rs (M×L)}[y':CS K Er S OO U ta (rP2 r q) m]
instance:CS K Er S OO U (tOp (Uy K) ta (tC (V.int (0:Int)))) r (m.bind λp=>.ok p.fst):=⟨S9 y'.h⟩
instance:CS K Er S OO U (tOp (Uy K) ta (tC (V.int (1:Int)))) q (m.bind λp=>.ok p.snd):=⟨Sw y'.h⟩
end
-- lists, tuples
section
variable [MonoE r]{t:TA}{ml':Rs (List M)}[x':CL K Er S OO U ta r ml][y':CL K Er S OO U tb r ml']{tl th:TO}{pl ph:Rs (Option Int)}[u':CP K Er S OO U tl pl][w':CP K Er S OO U th ph]
instance:CN K Er S OO U (tOp Af ta tb) (oL (oF r)) (ml.bind λas=>ml'.bind λbs=>NC as bs):=⟨OT x'.h y'.h⟩
instance:CN K Er S OO U (tSl (TZ K) ta tl th) (oL (oF r)) (ml.bind λas=>pl.bind λlo=>ph.bind λhi=>.ok (KR as lo hi)):=⟨NB x'.h u'.h w'.h⟩
instance:CN K Er S OO U (tCB (Ca K) (Xm ta Yo)) (oL (oF r)) (ml.bind λas=>.ok as):=⟨Rg x'.h⟩
end
section
variable [MonoE r]{tl th:TO}{pl ph:Rs (Option Int)}[z':CB K Er S OO U ta (rPL r) ml][u':CP K Er S OO U tl pl][w':CP K Er S OO U th ph]
instance:CB K Er S OO U (tSl (T1 K) ta tl th) (rPL r) (ml.bind λas=>pl.bind λlo=>ph.bind λhi=>chk (¬(HT.sIx as.length 0 lo=0/\HT.sIx as.length as.length hi=as.length)) (.ok (KR as lo hi))):=⟨Ye z'.h u'.h w'.h⟩
end
instance [MonoE r]:CA K Er S OO U Yo r (.ok []):=⟨Po⟩
instance [MonoE r]{t:TA}[x':CV K Er S OO U ta r m][y':CA K Er S OO U t r ml]:CA K Er S OO U (Xm ta t) r (m.bind λa=>ml.bind λas=>.ok (a::as)):=⟨YF x'.h y'.h⟩
instance (priority:=1100)[MonoE r]{t:TA}[x':CA K Er S OO U t r ml]:CO K Er S OO U (Hd t) (oL (oF r)) (ml.bind λas=>chk (as.length<=sizeLine) (.ok as)):=⟨Vj x'.h⟩
instance (priority:=1100)[MonoE r]{t:TA}[x':CA K Er S OO U t r ml]:CW K Er S OO U (Hd t) (rV r) (ml.bind λas=>chk (as.length<=sizeLine) (.ok as)):=⟨Ev.toB (Vj x'.h)⟩
section
variable {t:TA}[MonoE r][x':CS K Er S OO U ta r m][y':CA K Er S OO U t r ml]
instance:CN K Er S OO U (Hd (Xm ta t)) (oL (oF r)) ((m.bind λa=>ml.bind λas=>.ok (a::as)).bind λas=>chk (as.length<=sizeLine) (.ok as)):=⟨Vj (YF x'.h y'.h)⟩
end
section
variable {m1:Rs L}[MonoE r][MonoE q][x':CS K Er S OO U ta r m][y':CS K Er S OO U tb q m1]
instance:CS K Er S OO U (Pa (Xm ta (Xm tb Yo))) (rP2 r q) (m.bind λa=>m1.bind λb=>.ok (a,b)):=⟨Uu x'.h y'.h⟩
end
instance [MonoE r][x':CS K Er S OO U ta (rV r) ml]:Cw K Er S OO U (FE K ta) r ml:=⟨Zu x'.h⟩
instance [MonoE r][x':CS K Er S OO U ta (rPL r) ml]:Cw K Er S OO U (WZ K ta) r ml:=⟨EM x'.h⟩
-- calls
section
variable {α1 α2 α3 α4:Type}{r1:Enc α1}{r2:Enc α2}{r3:Enc α3}{r4:Enc α4}{m1:Rs α1}{m2:Rs α2}{m3:Rs α3}{m4:Rs α4}{td:TE}{o:OE ρ}[FlatO o][MonoE r1][MonoE r2][MonoE r3]{f1:α1->Rs ρ}{f2:α1->α2->Rs ρ}{f3:α1->α2->α3->Rs ρ}{f4:α1->α2->α3->α4->Rs ρ}[x1:CW K Er S OO U ta r1 m1][x2:CW K Er S OO U tb r2 m2][x3:CW K Er S OO U tc r3 m3][x4:CW K Er S OO U td r4 m4]
instance:CN K Er S OO U (Q6 (sp1 r1 o f1 K) [] E0 (Xm ta Yo)) o (m1.bind λa=>noE (f1 a)):=⟨EU (o:=o) (f:=f1) x1.h⟩
instance:CN K Er S OO U (Q6 (sp2 r1 r2 o f2 K) [] E0 (Xm ta (Xm tb Yo))) o (m1.bind λa=>m2.bind λb=>noE (f2 a b)):=⟨Qa (o:=o) (f:=f2) x1.h x2.h⟩
instance:CN K Er S OO U (Q6 (sp3 r1 r2 r3 o f3 K) [] E0 (Xm ta (Xm tb (Xm tc Yo)))) o (m1.bind λa=>m2.bind λb=>m3.bind λc=>noE (f3 a b c)):=⟨EL (o:=o) (f:=f3) x1.h x2.h x3.h⟩
instance:CN K Er S OO U (Q6 (sp4 r1 r2 r3 r4 o f4 K) [] E0 (Xm ta (Xm tb (Xm tc (Xm td Yo))))) o (m1.bind λa=>m2.bind λb=>m3.bind λc=>m4.bind λd=>noE (f4 a b c d)):=⟨M3 (o:=o) (f:=f4) x1.h x2.h x3.h x4.h⟩
end
end
section
variable {M L B δ ρ ι κ κ2:Type}{K:W.Frag}{Er:Exc->Hp->Prop}{S:SC}{OO:List (List XD)}{U:St}{u t tb:TS}{Fd:Ends->L->Hp->Prop}[fd:FdOk Fd]{o:OE ρ}{wi:TI}{g:TG}{r:Enc M}
abbrev jn (OO:List (List XD))(U:St)(S:SC)(oo:List (List XD)->ι->List (List XD))(ss:St->ι->St)(nf:SC->B->ι->SC):Jn B ι:=⟨oo OO,ss U,nf S⟩
variable (oo:List (List XD)->ι->List (List XD))(ss:St->ι->St)(nf:SC->B->ι->SC)
def Y4 {m:Rs B}{f:B->Rs L}(hb:Sv Er S OO U t (FNd (jn OO U S oo ss nf)) m)(hr:∀g x,Sv Er (nf S g x) (oo OO x) (ss U x) u Fd (f g)):Sv Er S OO U (Zd t u) Fd (m.bind f):=SE hb hr
def Ac {m:Rs (Ctl ρ B)}{f:B->Rs ρ}(hb:Sv Er S OO U t (FCd K o (jn OO U S oo ss nf)) m)(hr:∀g x,Sv Er (nf S g x) (oo OO x) (ss U x) u (FTd K o) (f g)):Sv Er S OO U (Zd t u) (FTd K o) (m.bind (Kg f)):=So hb hr
def O8 {c:TT}{mc:B->Rs Bool}{body:B->Rs B}{f:B->Rs L}(n:Nat)(x0:ι)(g0:B)(h1:OO=oo OO x0)(h2:U=ss U x0)(h3:∀h,S.p h->(nf S g0 x0).p h)(hc:∀g x,EvT Er (nf S g x) (oo OO x) (ss U x) c (mc g))(hb:∀g x,Sv Er (nf S g x) (oo OO x) (ss U x) tb (FNd (jn OO U S oo ss nf)) (body g))(hr:∀g x,Sv Er (nf S g x) (oo OO x) (ss U x) u Fd (f g)):Sv Er S OO U (Zd (HV c tb) u) Fd ((Kf n g0 mc body).bind f):=NP (jn OO U S oo ss nf) n x0 g0 h1 h2 h3 hc hb hr
variable (K)
def Qr {m:Rs (List M)}{body:B->M->Rs B}{f:B->Rs L}(T:∀OO,Tgt K OO g r κ)(x0:ι)(g0:B)(he:Walk K Er S OO U wi r m)(h1:OO=oo OO x0)(h2:U=ss U x0)(h3:∀h,S.p h->(nf S g0 x0).p h)(hb:∀g x a v,Sv Er ((T (oo OO x)).sc a v (nf S g x)) (oo OO x) ((T (oo OO x)).set v (ss U x)) tb (FNd (jn OO U S oo ss nf)) (body g a))(hr:∀g x,Sv Er (nf S g x) (oo OO x) (ss U x) u Fd (f g)):Sv Er S OO U (Zd (Hv wi g tb) u) Fd (m.bind λas=>(forN as g0 body).bind f):=WQ (jn OO U S oo ss nf) T x0 g0 he h1 h2 h3 hb hr
def Fm {m:Rs (List M)}{body:B->M->Rs (Ctl ρ B)}{f:B->Rs ρ}(T:∀OO,Tgt K OO g r κ)(x0:ι)(g0:B)(he:Walk K Er S OO U wi r m)(h1:OO=oo OO x0)(h2:U=ss U x0)(h3:∀h,S.p h->(nf S g0 x0).p h)(hb:∀g x a v,Sv Er ((T (oo OO x)).sc a v (nf S g x)) (oo OO x) ((T (oo OO x)).set v (ss U x)) tb (FCd K o (jn OO U S oo ss nf)) (body g a))(hr:∀g x,Sv Er (nf S g x) (oo OO x) (ss U x) u (FTd K o) (f g)):Sv Er S OO U (Zd (Hv wi g tb) u) (FTd K o) (m.bind λas=>(JO as g0 body).bind (Kg f)):=RD (jn OO U S oo ss nf) T x0 g0 he h1 h2 h3 hb hr
def O7 {J2:Jn δ κ2}{m:Rs (List M)}{body:B->M->Rs (Ctl ρ B)}{f:B->Rs (Ctl ρ δ)}(T:∀OO,Tgt K OO g r κ)(x0:ι)(g0:B)(he:Walk K Er S OO U wi r m)(h1:OO=oo OO x0)(h2:U=ss U x0)(h3:∀h,S.p h->(nf S g0 x0).p h)(hb:∀g x a v,Sv Er ((T (oo OO x)).sc a v (nf S g x)) (oo OO x) ((T (oo OO x)).set v (ss U x)) tb (FCd K o (jn OO U S oo ss nf)) (body g a))(hr:∀g x,Sv Er (nf S g x) (oo OO x) (ss U x) u (FCd K o J2) (f g)):Sv Er S OO U (Zd (Hv wi g tb) u) (FCd K o J2) (m.bind λas=>(JO as g0 body).bind (ZB f)):=Oe (jn OO U S oo ss nf) T x0 g0 he h1 h2 h3 hb hr
def To {ti:TE}[MonoE r]{mi:Rs Int}{body:B->M->Rs B}{f:B->Rs L}{v:V}{as:List (List M)}{C:List XD}{n k:Nat}[y:Sl U n v][z:Fo S K v (oL (oL (oF r))) as C][q:Ow OO k C](hi:EvB K Er S OO U ti Xf mi)(T:∀OO,Tgt K OO g r κ)(x0:ι)(g0:B)(hC:∀x,(oo OO x)[k]?=some C)(h1:OO=oo OO x0)(h2:U=ss U x0)(h3:∀h,S.p h->(nf S g0 x0).p h)
  (hb:∀g x a v,Sv Er ((T (oo OO x)).sc a v (nf S g x)) (oo OO x) ((T (oo OO x)).set v (ss U x)) tb (FNd (jn OO U S oo ss nf)) (body g a))(hr:∀g x,Sv Er (nf S g x) (oo OO x) (ss U x) u Fd (f g)):Sv Er S OO U (Zd (Hv (FE K (tOp (BC K) (Q0 n) ti)) g tb) u) Fd (mi.bind λi=>(atR as i).bind λrow=>(forN row g0 body).bind f):=M9 n k y.h q.h z.h hi (jn OO U S oo ss nf) T x0 g0 hC h1 h2 h3 hb hr
end
section
variable {M L B δ ρ:Type}(K:W.Frag){Er:Exc->Hp->Prop}{S:SC}{OO OO':List (List XD)}{U:St}{u:TS}{Fd:Ends->L->Hp->Prop}[fd:FdOk Fd]{o:OE M}{r:Enc M}{te ta:TE}{i k:Nat}{m:Rs M}{f:M->Rs L}{v:V}{as:List M}{C:List XD}
def X6 [MonoE r](he:EvS K Er S OO U te r m)(hr:∀a v,Sv Er (S.add K r v a) OO (U.set i (some v)) u Fd (f a)):Sv Er S OO U (Zd (BG te (YI i)) u) Fd (m.bind f):=Tl i he hr
def YE [MonoO o](k:Nat)[y:Lk OO k](he:Ev K Er S OO OO U te o m)(hr:∀a v C,Sv Er (S.addO K o v a C) (OO.set k C) (U.set i (some v)) u Fd (f a)):Sv Er S OO U (Zd (BG te (YI i)) u) Fd (m.bind f):=Md i k he y.h hr
variable {K} in
def ZO {a:M}[y:Sl U i v][z:Fo S K v o a C][q:Ow OO k C]:Ev K Er S OO (OO.set k []) U (Q0 i) o (.ok a):=Rq i k y.h q.h z.h
def K7 {f:List M->Rs L}[MonoO o][y:Sl U i v][z:Fo S K v (oL o) as C](he:Ev K Er S OO OO' U ta o m)[q:Ow OO k C][q':Ow OO' k C](hr:∀zs C',Sv Er (S.addO K (oL o) v zs C') (OO'.set k C') U u Fd (f zs)):Sv Er S OO U (Zd (JJ (tBM K "list" Qn (Q0 i) (Xm ta Yo))) u) Fd (m.bind λa=>chk (as.length<sizeLine) (f (as++[a]))):=Wy i k y.h q.h q'.h z.h he λa C'=>hr _ C'
def qh {m:Rs (List M)}{f:List M->Rs L}[MonoO o][y:Sl U i v][z:Fo S K v (oL o) as C](he:Ev K Er S OO OO' U ta (oL o) m)[q:Ow OO k C][q':Ow OO' k C](hr:∀zs C',Sv Er (S.addO K (oL o) v zs C') (OO'.set k C') U u Fd (f zs)):Sv Er S OO U (Zd (JJ (tBM K "list" Cz (Q0 i) (Xm ta Yo))) u) Fd (m.bind λbs=>chk (as.length+bs.length<=sizeLine) (f (as++bs))):=WD i k y.h q.h q'.h z.h he λa C'=>hr _ C'
def qQ {ti:TE}{mi:Rs Int}{x:Nat}[MonoE r]{f:M->List M->Rs L}[y:Sl U i v][z:Fo S K v (oL (oF r)) as C][q:Ow OO k C](hi:EvB K Er S OO U ti Xf mi)(hr:∀a bs y C',Sv Er ((S.add K r y a).addO K (oL (oF r)) v bs C') (OO.set k C') (U.set x (some y)) u Fd (f a bs)):Sv Er S OO U (Zd (BG (tBM K "list" Ej (Q0 i) (Xm ti Yo)) (YI x)) u) Fd (mi.bind λj=>(NG as j).bind λp=>f p.1 p.2):=WE x i k y.h q.h z.h hi λa bs y C'=>hr a bs y C'
def Gf {ti:TE}{mi:Rs Int}{f:List M->Rs L}[MonoO o][y:Sl U i v][z:Fo S K v (oL o) as C][q:Ow OO k C](he:Ev K Er S OO OO U ta o m)(hi:∀D,EvB K Er S (D::OO) U ti Xf mi)(hr:∀bs C',Sv Er (S.addO K (oL o) v bs C') (OO.set k C') U u Fd (f bs)):Sv Er S OO U (Zd (BG ta (W8 (Q0 i) ti Nk)) u) Fd (m.bind λa=>mi.bind λj=>(JK as j a).bind f):=Np i k y.h q.h z.h he hi hr
def qi {g:Int->Int->Int}{m:Rs Int}{f:Int->Rs L}{a:Int}[y:Sl U i v][z:Fc S K v Xf a](he:EvB K Er S OO U te Xf m)(hr:∀b v,Sv Er (S.add K Xf v b) OO (U.set i (some v)) u Fd (f b)):Sv Er S OO U (Zd (W3 i te (ipI g)) u) Fd (m.bind λb=>f (g a b)):=TL i y.h z.h he hr
def Cj {tv ty:TE}[MonoE r]{mk:Rs Int}{f:List (Int×M)->Rs L}{d:List (Int×M)}[y:Sl U i v][z:Fo S K v (oD r) d C][q:Ow OO k C](hv:EvS K Er S OO U tv r m)(hy:EvB K Er S OO U ty Xf mk)(hr:∀d' C',Sv Er (S.addO K (oD r) v d' C') (OO.set k C') U u Fd (f d')):Sv Er S OO U (Zd (PD (Q0 i) ty tv) u) Fd (m.bind λa=>mk.bind λn=>chk (d.length<sizeLine) (f (UM d n a))):=RH i k y.h q.h z.h hv hy hr
variable {B' ι:Type}{J:Jn B ι}
def XS {J:Jn B ι}(x:ι)(g:B)(h1:OO=J.oo x)(h2:U=J.ss x)[h3:Su S (J.sc g x)]:Sv Er S OO U GC (FNd J) (.ok g):=WF x g h1 h2 h3.h
end
def Vr {N:List Str}{vs:List V}{j:Nat}(h:N.length=j+vs.length):Kp N vs=vs.map some++List.replicate j none:=by
 unfold Kp
 rw[show N.length-vs.length=j by omega]
section
variable {ρ:Type}{P:Program}{w:World}{K:W.Frag}{mg:Str->Option Value}{base:Heap}{x:Str}{st:Stmt}{N ps:List Str}{k:Nat}{o:OE ρ}[MonoO o]
abbrev Rm (k:Nat)(x:Str)(st:Stmt)(s:Shared)(f:Addr)(aj:Value)(A:Around):Prop:=Room k (A.deeper (envOfC x (Xg st) s.heap.objs.size f aj))
abbrev Au (x:Str)(st:Stmt)(s:Shared)(f:Addr)(aj:Value)(A:Around):Nat:=(A.deeper (envOfC x (Xg st) s.heap.objs.size f aj)).units
def go1 {α0:Type}{r0:Enc α0}[MonoE r0]{m:α0->Rs ρ}(D:Def K mg x st ps)(S:FnScope N ps (Xg st))(j n:Nat)(hN:N.length=j+1)(hp:ps.length=1)
  (hb:∀{f:Addr}{aj:Value}{A:Around}{outer:List Env}{s:Shared}{H:Hp}{E:XK},Rm k x st s f aj A->Au x st s f aj A+8<cLine->Au x st s f aj A+1<cLine->∃t,PSs (Hw CX0 P w K mg base N x (Xg st) f aj A outer s H E).nox (X7 st) t/\∀v0 a0,Sv (λ_ _=>False) (SC.add SC.nil K r0 v0 a0) (List.replicate n []) (some v0::List.replicate j none) t (FTd K o) (m a0)):Fn P w K mg base (k+1) x ps (sp1 r0 o m K):=by
 refine Vh D S (λvs H Q E h=>?_) (λf aj A outer s H vs Q E hr h=>?_)
 ·obtain⟨v0,a0,b,rfl,_⟩:=h;exact hp.symm
 obtain⟨v0,a0,b,rfl,h0,hm,q⟩:=h
 obtain⟨t,hx,hy⟩:=hb hr (hu8 hr) (JS hr)
 refine⟨t,hx,?_⟩
 rw[Vr hN]
 exact Hn (S:=(SC.add SC.nil K r0 v0 a0)) (U:=some v0::List.replicate j none) n (hy v0 a0) (SC.i SC.t h0) hm q rfl
def go2 {α0 α1:Type}{r0:Enc α0}[MonoE r0]{r1:Enc α1}[MonoE r1]{m:α0->α1->Rs ρ}(D:Def K mg x st ps)(S:FnScope N ps (Xg st))(j n:Nat)(hN:N.length=j+2)(hp:ps.length=2)
  (hb:∀{f:Addr}{aj:Value}{A:Around}{outer:List Env}{s:Shared}{H:Hp}{E:XK},Rm k x st s f aj A->Au x st s f aj A+8<cLine->Au x st s f aj A+1<cLine->∃t,PSs (Hw CX0 P w K mg base N x (Xg st) f aj A outer s H E).nox (X7 st) t/\∀v0 v1 a0 a1,Sv (λ_ _=>False) (SC.add (SC.add SC.nil K r0 v0 a0) K r1 v1 a1) (List.replicate n []) (some v0::some v1::List.replicate j none) t (FTd K o) (m a0 a1)):Fn P w K mg base (k+1) x ps (sp2 r0 r1 o m K):=by
 refine Vh D S (λvs H Q E h=>?_) (λf aj A outer s H vs Q E hr h=>?_)
 ·obtain⟨v0,v1,a0,a1,b,rfl,_⟩:=h;exact hp.symm
 obtain⟨v0,v1,a0,a1,b,rfl,h0,h1,hm,q⟩:=h
 obtain⟨t,hx,hy⟩:=hb hr (hu8 hr) (JS hr)
 refine⟨t,hx,?_⟩
 rw[Vr hN]
 exact Hn (S:=(SC.add (SC.add SC.nil K r0 v0 a0) K r1 v1 a1)) (U:=some v0::some v1::List.replicate j none) n (hy v0 v1 a0 a1) (SC.i (SC.i SC.t h0) h1) hm q rfl
def go3 {α0 α1 α2:Type}{r0:Enc α0}[MonoE r0]{r1:Enc α1}[MonoE r1]{r2:Enc α2}[MonoE r2]{m:α0->α1->α2->Rs ρ}(D:Def K mg x st ps)(S:FnScope N ps (Xg st))(j n:Nat)(hN:N.length=j+3)(hp:ps.length=3)
  (hb:∀{f:Addr}{aj:Value}{A:Around}{outer:List Env}{s:Shared}{H:Hp}{E:XK},Rm k x st s f aj A->Au x st s f aj A+8<cLine->Au x st s f aj A+1<cLine->∃t,PSs (Hw CX0 P w K mg base N x (Xg st) f aj A outer s H E).nox (X7 st) t/\∀v0 v1 v2 a0 a1 a2,Sv (λ_ _=>False) (SC.add (SC.add (SC.add SC.nil K r0 v0 a0) K r1 v1 a1) K r2 v2 a2) (List.replicate n []) (some v0::some v1::some v2::List.replicate j none) t (FTd K o) (m a0 a1 a2)):Fn P w K mg base (k+1) x ps (sp3 r0 r1 r2 o m K):=by
 refine Vh D S (λvs H Q E h=>?_) (λf aj A outer s H vs Q E hr h=>?_)
 ·obtain⟨v0,v1,v2,a0,a1,a2,b,rfl,_⟩:=h;exact hp.symm
 obtain⟨v0,v1,v2,a0,a1,a2,b,rfl,h0,h1,h2,hm,q⟩:=h
 obtain⟨t,hx,hy⟩:=hb hr (hu8 hr) (JS hr)
 refine⟨t,hx,?_⟩
 rw[Vr hN]
 exact Hn (S:=(SC.add (SC.add (SC.add SC.nil K r0 v0 a0) K r1 v1 a1) K r2 v2 a2)) (U:=some v0::some v1::some v2::List.replicate j none) n (hy v0 v1 v2 a0 a1 a2) (SC.i (SC.i (SC.i SC.t h0) h1) h2) hm q rfl
def go4 {α0 α1 α2 α3:Type}{r0:Enc α0}[MonoE r0]{r1:Enc α1}[MonoE r1]{r2:Enc α2}[MonoE r2]{r3:Enc α3}[MonoE r3]{m:α0->α1->α2->α3->Rs ρ}(D:Def K mg x st ps)(S:FnScope N ps (Xg st))(j n:Nat)(hN:N.length=j+4)(hp:ps.length=4)
  (hb:∀{f:Addr}{aj:Value}{A:Around}{outer:List Env}{s:Shared}{H:Hp}{E:XK},Rm k x st s f aj A->Au x st s f aj A+8<cLine->Au x st s f aj A+1<cLine->∃t,PSs (Hw CX0 P w K mg base N x (Xg st) f aj A outer s H E).nox (X7 st) t/\∀v0 v1 v2 v3 a0 a1 a2 a3,Sv (λ_ _=>False) (SC.add (SC.add (SC.add (SC.add SC.nil K r0 v0 a0) K r1 v1 a1) K r2 v2 a2) K r3 v3 a3) (List.replicate n []) (some v0::some v1::some v2::some v3::List.replicate j none) t (FTd K o) (m a0 a1 a2 a3)):Fn P w K mg base (k+1) x ps (sp4 r0 r1 r2 r3 o m K):=by
 refine Vh D S (λvs H Q E h=>?_) (λf aj A outer s H vs Q E hr h=>?_)
 ·obtain⟨v0,v1,v2,v3,a0,a1,a2,a3,b,rfl,_⟩:=h;exact hp.symm
 obtain⟨v0,v1,v2,v3,a0,a1,a2,a3,b,rfl,h0,h1,h2,h3,hm,q⟩:=h
 obtain⟨t,hx,hy⟩:=hb hr (hu8 hr) (JS hr)
 refine⟨t,hx,?_⟩
 rw[Vr hN]
 exact Hn (S:=(SC.add (SC.add (SC.add (SC.add SC.nil K r0 v0 a0) K r1 v1 a1) K r2 v2 a2) K r3 v3 a3)) (U:=some v0::some v1::some v2::some v3::List.replicate j none) n (hy v0 v1 v2 v3 a0 a1 a2 a3) (SC.i (SC.i (SC.i (SC.i SC.t h0) h1) h2) h3) hm q rfl
def goL {f:Addr}{fd:FuncData}{α0:Type}{r0:Enc α0}[MonoE r0]{m:α0->Rs ρ}(F:Fun K x x st f fd)(S:FnScope N ps (Xg st))(j n:Nat)(hN:N.length=j+1)(hp:ps.length=1)
  (hb:∀{aj:Value}{A:Around}{outer:List Env}{s:Shared}{H:Hp}{E:XK},Rm k x st s f aj A->Au x st s f aj A+8<cLine->Au x st s f aj A+1<cLine->∃t,PSs (Hw CX0 P w K mg base N x (Xg st) f aj A outer s H E).nox (X7 st) t/\∀v0 a0,Sv (λ_ _=>False) (SC.add SC.nil K r0 v0 a0) (List.replicate n []) (some v0::List.replicate j none) t (FTd K o) (m a0)):FnOk P w K mg base CX0 (k+1) f fd ps (sp1 r0 o m K):=by
 refine F.ok S (λvs H Q E h=>?_) (λaj A outer s H vs Q E hr h=>?_)
 ·obtain⟨v0,a0,b,rfl,_⟩:=h;exact hp.symm
 obtain⟨v0,a0,b,rfl,h0,hm,q⟩:=h
 obtain⟨t,hx,hy⟩:=hb hr (hu8 hr) (JS hr)
 refine⟨t,hx,?_⟩
 rw[Vr hN]
 exact Hn (S:=SC.add SC.nil K r0 v0 a0) (U:=some v0::List.replicate j none) n (hy v0 a0) (SC.i SC.t h0) hm q rfl
end
section
variable {X:Cx}{a b:Expr}{pos:Pos}{ta tb:TE}(K:W.Frag)(ha:PE X a ta)(hb:PE X b tb)(h:X.K=K:=by rfl)(hs:Mh b:=by exact λ_ _=>rfl)
include ha hb h hs
def Xx:PE X (.Subscript a b pos) (tOp (Uy K) ta tb):=R8 (RI K h) ha hb hs
def Xl:PE X (.Subscript a b pos) (tOp (BC K) ta tb):=R8 (BS K h) ha hb hs
end
section
variable {X:Cx}{N P:List Str}{s:Scope}{x:Str}{pos cy:Pos}{e:Expr}{te:TE}
def pgn (h:FnScope N P s)(i:Nat)(hN:X.N=N:=by rfl)(hi:X.N[i]?=some x:=by rfl)(hx:Loc X.env.scope x:=by exact Or.inl rfl)(hf:X.fn x=true∨X.env.scope.names.lookup x=some .local:=by first |exact .inl rfl |exact .inr rfl |assumption):PG X (.Name x pos) (YI i):=XC (by rw[hN];exact h.nd) hi hx hf
def psn (h:FnScope N P s)(i:Nat)(he:PE X e te)(hN:X.N=N:=by rfl)(hi:X.N[i]?=some x:=by rfl)(hx:Loc X.env.scope x:=by exact Or.inl rfl)(hs:swapsWith e (some (.Name x cy)) pos.line X.env=pure false:=by rfl)(hf:X.fn x=true∨X.env.scope.names.lookup x=some .local:=by first |exact .inl rfl |exact .inr rfl |assumption):PS X (.Assign [.Name x cy] e pos) (BG te (YI i)):=Ud (by rw[hN];exact h.nd) hi hx he hs hf
end
section
variable {X:Cx}{e o tg iter:Expr}{es:List Expr}{t:TA}{to:TE}{p pos ao aI:Pos}{x:Str}{ps:List Str}{sp:Sp}{k j:Nat}
def Ys (K:W.Frag)(hm:X.mg "len" =none)(ha:PA X (e::es) t)(hg:Gl X "len":=by rfl)(h:X.K=K:=by rfl)(he:starEach (e::es) X.env=(false,eval e X.env)::starEach es X.env:=by rfl)(hpl:(backTo pos (starEach es X.env)).any (·.1)=false:=by rfl):PE X (.Call (.Name "len" p) (e::es) [] pos) (tCB (Gj K) t):=XG (GZ K h) hg hm boot_len ha (he:=he) (hpl:=hpl)
def pef (G:Fn X.prog X.w X.K X.mg X.base k x ps sp)(hr:Room j X.A)(ha:PA X (e::es) t)(hj:k<=j:=by decide)(hg:Gl X x:=by rfl)(fG:(x==("__debug__":Str))=false:=by decide)(he:starEach (e::es) X.env=(false,eval e X.env)::starEach es X.env:=by rfl)(hpl:(backTo pos (starEach es X.env)).any (·.1)=false:=by rfl):PE X (.Call (.Name x p) (e::es) [] pos) (Q6 sp [] E0 t):=TX G hr hj ha hg fG he hpl
def psf {body:List Stmt}{wi:TI}{g:TG}{tb:TS}(hi:PI X tg iter wi)(hg:PG X tg g)(hb:PSs X body tb)(hp:PassesOwn (model X.prog X.w) X.A X.env X.xe:=by exact PassesOwn.never)(hc:X.calm=true:=by rfl)(hs:∀x,foldedSetIterable iter X.env x=pure x:=by intro _;rfl):PS X (.For tg iter body [] pos) (Hv wi g tb):=Tg hp hc hi hg hb hs
end
section
variable {M B δ L ρ ι κ κ2 τ:Type}{K:W.Frag}{Er:Exc->Hp->Prop}{S:SC}{OO:List (List XD)}{U:St}{u tb:TS}{g:TG}
variable (oo:List (List XD)->ι->List (List XD))(ss:St->ι->St)(nf:SC->B->ι->SC)
variable (K)
def IT {oa:OE M}{ra:Enc M}[FrzC oa ra][MonoO oa][MonoE ra]{r2:Enc L}{r3:Enc τ}[FlatE r2][FlatE r3]{J2:Jn δ κ2}{te:TE}{m:Rs (List M)}{body:B->M->Rs (Ctl (Option (M×L×τ)) B)}{f:B->Rs (Ctl (Option (M×L×τ)) δ)}(T:∀(xs:List V) (as:List M) OO,Tgt K OO g (rIt ra xs as) κ)(x0:ι)(g0:B)(he:Ev K Er S OO OO U te (oL oa) m)(h1:OO=oo OO x0)(h2:U=ss U x0)(h3:∀h,S.p h->(nf S g0 x0).p h)
  (hb:∀xs as g x a v,Sv Er ((T xs as (oo OO x)).sc a v (nf S g x)) (oo OO x) ((T xs as (oo OO x)).set v (ss U x)) tb (FCd K (rI3 ra r2 r3 xs as) (jn OO U S oo ss nf)) (body g a))
  (hr:∀g x,Sv Er (nf S g x) (oo OO x) (ss U x) u (FCd K (oI3 oa r2 r3) J2) (f g)):Sv Er S OO U (Zd (Hv (FE K te) g tb) u) (FCd K (oI3 oa r2 r3) J2) (m.bind λas=>(JO as g0 body).bind (ZB f)):=Lr (jn OO U S oo ss nf) T x0 g0 he h1 h2 h3 hb hr
end
end L2
set_option synthInstance.maxSize 2000
set_option synthInstance.maxHeartbeats 400000
namespace My
open PySem L2
abbrev rDr:=rP2 (rV (rV Xf)) (rV (rP2 Xf Xf))
abbrev oLL:=oL (oL (oF Xf))
abbrev rVV:=rV (rV Xf)
abbrev oLi:=oL (oF Xf)
def top (i:Nat):Stmt:=PySem.Challenge.pw_plait_k76_parted.main.body.getD i (.Pass ⟨0,0,0,0⟩)
abbrev Qj:Stmt:=top 6
abbrev JU:Stmt:=top 7
abbrev ZL:Stmt:=top 8
abbrev GW:Stmt:=top 10
abbrev ZT:Stmt:=top 11
abbrev Y9:Stmt:=top 12
abbrev Jh:Stmt:=top 13
abbrev Zk:Stmt:=top 14
abbrev Vo:Stmt:=top 17
abbrev ZC:Stmt:=top 18
abbrev Yu:Stmt:=top 19
abbrev Yg:Stmt:=top 20
abbrev IR:Stmt:=top 22
abbrev L7:Stmt:=top 24
abbrev QK:Stmt:=top 25
abbrev Zo:Stmt:=top 26
abbrev Qh:Stmt:=top 27
abbrev Ci:Stmt:=top 28
abbrev Lc:Stmt:=top 31
abbrev Jw:Stmt:=top 32
abbrev Qc:Stmt:=top 33
abbrev Zj:Stmt:=top 34
abbrev ZU:Stmt:=top 35
abbrev HC:Stmt:=top 36
abbrev QF:Stmt:=top 38
abbrev Fz:Stmt:=top 39
abbrev IC:Stmt:=top 41
abbrev PM:Stmt:=top 42
abbrev RP:Stmt:=top 43
abbrev Gu:Stmt:=top 44
abbrev Zi:Stmt:=top 45
abbrev GQ:Stmt:=top 46
abbrev C4:Stmt:=top 47
abbrev VP:Stmt:=top 48
abbrev JB:Stmt:=top 49
abbrev GR:Stmt:=top 50
abbrev KD:Stmt:=top 51
abbrev W1:Stmt:=top 52
abbrev PP:Stmt:=top 53
abbrev IK:Stmt:=top 54
abbrev N8:Stmt:=top 55
abbrev LS:Stmt:=top 56
abbrev Bh:Stmt:=top 57
abbrev Ey:Stmt:=top 58
abbrev Fe:Stmt:=top 59
abbrev G3:Stmt:=top 60
abbrev Vv:Stmt:=top 61
abbrev Bq:Stmt:=top 62
abbrev NZ:Stmt:=top 63
abbrev JE:Stmt:=top 64
abbrev RB:Stmt:=top 65
abbrev LU:Stmt:=top 66
abbrev KW:Stmt:=top 67
def Nx:Scope:={kind:=PySem.ScopeKind.function,names:=[(PySem.Str.ofString ".0",PySem.NameKind.local),(PySem.Str.ofString "a",PySem.NameKind.cell),(PySem.Str.ofString "columns",PySem.NameKind.free)],isGenerator:=false,isCoroutine:=false,more:=[]:PySem.Scope}
def Lv:Scope:={kind:=PySem.ScopeKind.function,names:=[(PySem.Str.ofString ".0",PySem.NameKind.local),(PySem.Str.ofString "_law_walk",PySem.NameKind.local),(PySem.Str.ofString "_law_far",PySem.NameKind.free)],isGenerator:=false,isCoroutine:=false,more:=[]:PySem.Scope}
structure Blt (mg:Str->Option Value):Prop where
 b_abs:mg "abs" =none
 b_all:mg "all" =none
 b_bool:mg "bool" =none
 b_dict:mg "dict" =none
 b_enumerate:mg "enumerate" =none
 b_int:mg "int" =none
 b_isinstance:mg "isinstance" =none
 b_len:mg "len" =none
 b_list:mg "list" =none
 b_max:mg "max" =none
 b_min:mg "min" =none
 b_range:mg "range" =none
 b_sorted:mg "sorted" =none
 b_sum:mg "sum" =none
 b_tuple:mg "tuple" =none
 b_zip:mg "zip" =none
 c_MOST_LISTS:∃u,mg "MOST_LISTS" =some u/\XW (.int 65536) u
 c_MOST_OF_ALL:∃u,mg "MOST_OF_ALL" =some u/\XW (.int 4) u
abbrev Pq (p:Program->World->W.Frag->(Str->Option Value)->Heap->Prop):Prop:=∀ {P w K mg base},Blt mg->p P w K mg base
theorem U7:FnScope ["most","size"] ["most","size"] (Xg Qj):={}
section
variable (P:Program)(w:World)(K:W.Frag)(mg:Str->Option Value)(base:Heap)
abbrev Zm (m:Int->Int->Rs Unit):Prop:=Fn P w K mg base 1 "refuse_above" ["most","size"] (sp2 Xf Xf oU m K)
def Qp:{m // Pq λP w K mg base=>Def K mg "refuse_above" Qj ["most","size"]->Zm P w K mg base m}:=⟨_, @λP w K mg base Z D=>by
 refine Vh D U7 (λvs H Q E h=>?_) (λf aj A outer s H vs Q E hr h=>?_)
 ·obtain⟨ac,ae,aq,aB,b,rfl,_⟩:=h;rfl
 obtain⟨ac,ae,aq,aB,b,rfl,cB,cW,hm,q⟩:=h
 have hu:=hu8 hr
 have ar:=JS hr
 refine⟨_,(Xb (XU (Xk FX (pv 1) (pv 0) (Xr _))
   (Xb Ff
   Xe)
   Xe)
  Xe),?_⟩
 refine R6 (J:=({oo:=λx3=>[],ss:=λx3=>[some ac,some ae],sc:=λg4 x3=>(SC.add (SC.add SC.nil K Xf ac aq) K Xf ae aB)}:Jn (Unit) (Unit))) (K:=K) (S:=(SC.add (SC.add SC.nil K Xf ac aq) K Xf ae aB)) (U:=[some ac,some ae]) 0 ?_ (SC.i (SC.i SC.t cB) cW) hm q (λ_ _=>rfl)
 exact(O4 (qt K) (XS () () rfl rfl))⟩
def YW:=Qp.1
theorem Y0:FnScope ["lists","count","longer","ahead","number"] ["lists","count"] (Xg ZL):={}
abbrev ZH (m:QLs->Int->Rs QLs):Prop:=Fn P w K mg base 1 "longer_by_one" ["lists","count"] (sp2 rVV Xf oLL m K)
def Jc:{m // Pq λP w K mg base=>Def K mg "longer_by_one" ZL ["lists","count"]->ZH P w K mg base m}:=⟨_, @λP w K mg base Z D=>go2 D Y0 3 1 rfl rfl λhr hu ar=>⟨_,(Xb (psn Y0 2 (Xt Xd))
  (Xb (psf (Xq (K:=K) rfl (pv 0)) (pgn Y0 3)
   (Xb (psf (Xy rfl Z.b_range (Xa (pv 1) Xd)) (pgn Y0 4)
    (Xb (XU (Xk Ue (pv 4) (pv 3) rfl)
     (Xb (XA (Ze PySem.F.plainAttrs_list PySem.F.slot_list_append PySem.F.type_list_append XE (pv 2) (Xa (Xj Qg (pv 3) (Xt (Xa (pv 4) Xd))) Xd)))
     Xe)
     Xe)
    Xe))
   Xe))
  (Xb (Xu (pv 2))
  Xe))),λac ae aq aB=>(YE K (o:=oLL) 0 (ZZ (o:=oLi)) λa1 v2 C3=>(Qr K (λO (x4:Option V×Option V×V×List XD)=>[x4.2.2.2]) (λs x4=>[some ac,some ae,some x4.2.2.1,x4.1,x4.2.1]) (λS (g5:QLs) x4=>(SC.addO S K oLL x4.2.2.1 g5 x4.2.2.2)) (λ_=>tg1 3) ((none),(none),v2,C3) (a1) qw rfl rfl (λ_ s=>(SC.i s s.r)) (λg6 x7 a8 v9=>(Qr K (λO (fS:Option V×V×List XD)=>[fS.2.2]) (λs fS=>[some ac,some ae,some fS.2.1,some v9,fS.1]) (λS (g12:QLs) fS=>(SC.addO S K oLL fS.2.1 g12 fS.2.2)) (λ_=>tg1 4) ((x7.2.1),x7.2.2.1,x7.2.2.2) (g6) qw rfl rfl (λ_ s=>(SC.i s s.l.r)) (λjy ca a15 v16=>(Y4 (λO (dW:V×List XD)=>[dW.2]) (λs dW=>[some ac,some ae,some dW.1,some v9,some v16]) (λS (g21:QLs) dW=>(SC.addO S K oLL dW.1 g21 dW.2)) (X2 (XT (K:=K) (Sz qB qB)) (K7 K qN λjz C28=>(XS (ca.2.1,C28) (jz) rfl rfl)) (XS (ca.2.1,ca.2.2) (jy) rfl rfl)) λgr bP=>(XS ((some v16),bP.1,bP.2) (gr) rfl rfl))) λfT c8=>(XS ((some v9),(c8.1),c8.2.1,c8.2.2) (fT) rfl rfl))) λg35 c9=>(Xw ZO)))⟩⟩
def Js:=Jc.1
theorem Z2:FnScope ["count","told","place"] ["count"] (Xg JU):={}
abbrev J1 (m:Int->Rs QLs):Prop:=Fn P w K mg base 2 "each_once" ["count"] (sp1 Xf oLL m K)
def KN:{m // Pq λP w K mg base=>Def K mg "each_once" JU ["count"]->ZH P w K mg base Js->J1 P w K mg base m}:=⟨_, @λP w K mg base Z D aE=>go1 D Z2 2 1 rfl rfl λhr hu ar=>⟨_,(Xb (psn Z2 1 (Xt (Xa (Xt Xd) Xd XX)))
  (Xb (psf (Xy rfl Z.b_range (Xa (pv 0) Xd)) (pgn Z2 2)
   (Xb (psn Z2 1 (pef aE hr (Xa (pv 1) (Xa (pv 0) Xd))))
   Xe))
  (Xb (Xu (pv 1))
  Xe))),λac aq=>(YE K (o:=oLL) 0 (Ji (Yw (ZZ (o:=(oF Xf))) λ_=>Qf)) λa1 v2 C3=>(Qr K (λO (x8:Option V×V×List XD)=>[x8.2.2]) (λs x8=>[some ac,some x8.2.1,x8.1]) (λS (g9:QLs) x8=>(SC.addO S K oLL x8.2.1 g9 x8.2.2)) (λ_=>tg1 2) ((none),v2,C3) (a1) qw rfl rfl (λ_ s=>(SC.i s s.r)) (λhU fS a12 fg=>(YE K 0 qN λcM eG C16=>(XS ((some fg),eG,C16) (cM) rfl rfl))) λgt bt=>(Xw ZO)))⟩⟩
def UQ:=KN.1
theorem Zx:FnScope ["table","a","row"] ["table"] (Xg ZT):={}
abbrev ZX (m:QLs->Rs (Option (Int×Int))):Prop:=Fn P w K mg base 1 "breach_of_one" ["table"] (sp1 rVV (oF (JI (rP2 Xf Xf))) m K)
def Jj:{m // Pq λP w K mg base=>Def K mg "breach_of_one" ZT ["table"]->ZX P w K mg base m}:=⟨_, @λP w K mg base Z D=>go1 D Zx 2 0 rfl rfl λhr hu ar=>⟨_,(Xb (psf (Ks rfl Z.b_enumerate (pv 0)) (ZJ rfl (Xs (pgn Zx 1) (Xs (pgn Zx 2) YD)))
   (Xb (XU (Xk Do (Xl K (pv 2) (pv 1)) (pv 1) (Xr _))
    (Xb (Xu (Yn (Xa Xc (Xa (pv 1) Xd))))
    Xe)
    Xe)
   Xe))
  (Xb (Xu Zr)
  Xe)),λac aq=>(Fm K (λO (x2:Option V×Option V)=>[]) (λs x2=>[some ac,x2.1,x2.2]) (λS (g3:Unit) x2=>S) (λ_=>tg2 1 2) ((none),(none)) () (Jl qS) rfl rfl (λ_ s=>s) (λg4 x5 a6 v7=>(Qi (qt K) (Xw (Jx Tw qM)) (ZY (XS ((some v7.1),(some v7.2)) () rfl rfl)))) λg18 cN=>(Xw FI))⟩⟩
def Jk:=Jj.1
theorem QI:FnScope ["column","x","colour"] ["column"] (Xg Jh):={}
abbrev Jm (m:(List Int)->Rs (Option (Int×Int))):Prop:=Fn P w K mg base 1 "first_same" ["column"] (sp1 (rV Xf) (oF (JI (rP2 Xf Xf))) m K)
def Ug:{m // Pq λP w K mg base=>Def K mg "first_same" Jh ["column"]->Jm P w K mg base m}:=⟨_, @λP w K mg base Z D=>go1 D QI 2 0 rfl rfl λhr hu ar=>⟨_,(Xb (psf (Ks rfl Z.b_enumerate (pv 0)) (ZJ rfl (Xs (pgn QI 1) (Xs (pgn QI 2) YD)))
   (Xb (XU (Xk Kc (pv 2) (XI (Zq K rfl) (pv 0) (XJ (Xj Xz (pv 1) Xc)) Yd) rfl)
    (Xb (Xu (Yn (Xa (pv 1) (Xa (Ze PySem.F.plainAttrs_list PySem.F.slot_list_index PySem.F.type_list_index IM (pv 0) (Xa (pv 2) (Xa (Xj Xz (pv 1) Xc) Xd))) Xd))))
    Xe)
    Xe)
   Xe))
  (Xb (Xu Zr)
  Xe)),λac aq=>(Fm K (λO (x2:Option V×Option V)=>[]) (λs x2=>[some ac,x2.1,x2.2]) (λS (g3:Unit) x2=>S) (λ_=>tg2 1 2) ((none),(none)) () (Jl qS) rfl rfl (λ_ s=>s) (λg4 x5 a6 v7=>(Qi (XT (K:=K) (OI qB qB)) (Xw (Jx Tw (EvS.ev (Uu qS (EvB.sh (E9 qB qB qB)))))) (ZY (XS ((some v7.1),(some v7.2)) () rfl rfl)))) λg27 x28=>(Xw FI))⟩⟩
def Uj:=Ug.1
theorem Zw:FnScope ["table","b","pair"] ["table"] (Xg Y9):={}
abbrev ZS (m:QLs->Rs (Option (Int×Int×Int×Int))):Prop:=Fn P w K mg base 2 "breach_of_two" ["table"] (sp1 rVV (oF (JI (rP4 Xf Xf Xf Xf))) m K)
def Jr:{m // Pq λP w K mg base=>Def K mg "breach_of_two" Y9 ["table"]->Jm P w K mg base Uj->ZS P w K mg base m}:=⟨_, @λP w K mg base Z D aV=>go1 D Zw 2 0 rfl rfl λhr hu ar=>⟨_,(Xb (psf (Xy rfl Z.b_range (Xa (Ys K Z.b_len (Xa (pv 0) Xd)) Xd)) (XC (i:=1) Zw.nd rfl (Or.inr rfl))
   (Xb (psn Zw 2 (pef aV hr (Xa (Yk (sc:=(Xg Y9)) (N0:=["table","b","pair"]) (tns:=["row"]) (caps:=[(1,"b")]) rfl (Xq (K:=K) rfl (pv 0)) (Yc (by decide)) (λcl C s H ex E=>⟨XC (i:=0) (show List.Nodup (["row","b"]:List Str) by decide+kernel) rfl (Or.inl rfl),YJ,(Xl K (pv 0) (pv 1))⟩)) Xd)))
   (Xb (XU (Xk Bj (pv 2) Zr (Xr _))
    (Xb (Xu (Yn (Xa Xc (Xa (pv 1) (Xa (Xx K (pv 2) Xc) (Xa (Xx K (pv 2) Xc) Xd))))))
    Xe)
    Xe)
   Xe)))
  (Xb (Xu Zr)
  Xe)),λac aq=>(Fm K (λO (x3:Option V×Option V)=>[]) (λs x3=>[some ac,x3.1,x3.2]) (λS (g4:Unit) x3=>S) (λ_=>tg1 1) ((none),(none)) () qw rfl rfl (λ_ s=>s) (λg5 x6 a7 v8=>(X6 K (r:=(JI (rP2 Xf Xf))) (EvB.sh (Ev.toB (EU (Ev.toB (YL (λ_=>tg1 0) qw (λjA a13 eI=>qM)))))) λa9 fA=>(Qi (XT (K:=K) (Ex (tb:=tC .non) qB)) (Xw (Jx TM (EvS.ev (Fg qS qS (EvB.sh (L3 (HR qB))) (EvB.sh (IN (HR qB))))))) (ZY (XS ((some v8),(some fA)) () rfl rfl))))) λg30 gu=>(Xw FI))⟩⟩
def Je:=Jr.1
theorem XY:FnScope ["table","a","row","b","colour","c"] ["table"] (Xg Zk):={}
abbrev Zl (m:QLs->Rs (Option (Int×Int×Int×Int))):Prop:=Fn P w K mg base 1 "breach_of_three" ["table"] (sp1 rVV (oF (JI (rP4 Xf Xf Xf Xf))) m K)
def Qv:{m // Pq λP w K mg base=>Def K mg "breach_of_three" Zk ["table"]->Zl P w K mg base m}:=⟨_, @λP w K mg base Z D=>go1 D XY 5 0 rfl rfl λhr hu ar=>⟨_,(Xb (psf (Ks rfl Z.b_enumerate (pv 0)) (ZJ rfl (Xs (pgn XY 1) (Xs (pgn XY 2) YD)))
   (Xb (psf (Ks rfl Z.b_enumerate (pv 2)) (ZJ rfl (Xs (pgn XY 3) (Xs (pgn XY 4) YD)))
    (Xb (psf (Xy rfl Z.b_range (Xa (Ys K Z.b_len (Xa (pv 0) Xd)) Xd)) (pgn XY 5)
     (Xb (XU (Xk Do (Xl K (Xl K (pv 0) (pv 4)) (pv 5)) (Xl K (Xl K (pv 0) (Xl K (pv 2) (pv 5))) (Xl K (Xl K (pv 0) (pv 3)) (pv 5))) (Xr _))
      (Xb (Xu (Yn (Xa Xc (Xa (pv 1) (Xa (pv 3) (Xa (pv 5) Xd))))))
      Xe)
      Xe)
     Xe))
    Xe))
   Xe))
  (Xb (Xu Zr)
  Xe)),λac aq=>(Fm K (λO (x2:Option V×Option V×Option V×Option V×Option V)=>[]) (λs x2=>[some ac,x2.1,x2.2.1,x2.2.2.1,x2.2.2.2.1,x2.2.2.2.2]) (λS (g3:Unit) x2=>S) (λ_=>tg2 1 2) ((none),(none),(none),(none),(none)) () (Jl qS) rfl rfl (λ_ s=>s) (λg4 x5 a6 v7=>(O7 K (λO (x9:Option V×Option V×Option V)=>[]) (λs x9=>[some ac,some v7.1,some v7.2,x9.1,x9.2.1,x9.2.2]) (λS (hU:Unit) x9=>S) (λ_=>tg2 3 4) ((x5.2.2.1),(x5.2.2.2.1),(x5.2.2.2.2)) () (Jl qS) rfl rfl (λ_ s=>s) (λg11 bQ a13 eI=>(O7 K (λO (dm:Option V)=>[]) (λs dm=>[some ac,some v7.1,some v7.2,some eI.1,some eI.2,dm]) (λS (g18:Unit) dm=>S) (λ_=>tg1 5) ((bQ.2.2)) () qw rfl rfl (λ_ s=>s) (λgv dW dX fU=>(Qi (qt K) (Xw (Jx TM (EvS.ev (Fg qS qS qS qS)))) (ZY (XS ((some fU)) () rfl rfl)))) λg47 x48=>(ZY (XS ((some eI.1),(some eI.2),(x48)) () rfl rfl)))) λiJ iK=>(ZY (XS ((some v7.1),(some v7.2),(iK.1),(iK.2.1),(iK.2.2)) () rfl rfl)))) λgx x56=>(Xw FI))⟩⟩
def Qq:=Qv.1
theorem Vy:FnScope ["table","wrong"] ["table"] (Xg GW):={}
abbrev Fi (m:QLs->Rs (Option (List Int))):Prop:=Fn P w K mg base 3 "broken" ["table"] (sp1 rVV (oF (JI (rPL Xf))) m K)
def EI:{m // Pq λP w K mg base=>Def K mg "broken" GW ["table"]->ZX P w K mg base Jk->ZS P w K mg base Je->Zl P w K mg base Qq->Fi P w K mg base m}:=⟨_, @λP w K mg base Z D aF aG ax=>go1 D Vy 1 0 rfl rfl λhr hu ar=>⟨_,(Xb (psn Vy 1 (pef aF hr (Xa (pv 0) Xd)))
  (Xb (XU (Xk Ky (pv 1) Zr (Xr _))
   (Xb (psn Vy 1 (pef aG hr (Xa (pv 0) Xd)))
   Xe)
   Xe)
  (Xb (XU (Xk Ky (pv 1) Zr (Xr _))
   (Xb (psn Vy 1 (pef ax hr (Xa (pv 0) Xd)))
   Xe)
   Xe)
  (Xb (Xu (pv 1))
  Xe)))),λac aq=>(X6 K (r:=(JI (rPL Xf))) (Ev.sh (NE qN)) λa1 v2=>(Y4 (λO (x8:V)=>[]) (λs x8=>[some ac,some x8]) (λS (g9:(Option (List Int))) x8=>(SC.add S K (JI (rPL Xf)) x8 g9)) (X2 (XT (K:=K) (JW (tb:=tC .non) qB)) (X6 K (r:=(JI (rPL Xf))) (Ev.sh (EC qN)) λfB bB=>(XS (bB) (fB) rfl rfl)) (XS (v2) (a1) rfl rfl)) λg16 iL=>(Y4 (λO (cN:V)=>[]) (λs cN=>[some ac,some cN]) (λS (gt:(Option (List Int))) cN=>(SC.add S K (JI (rPL Xf)) cN gt)) (X2 (XT (K:=K) (JW (tb:=tC .non) qB)) (X6 K (r:=(JI (rPL Xf))) (Ev.sh (EC qN)) λdX fU=>(XS (fU) (dX) rfl rfl)) (XS (iL) (g16) rfl rfl)) λg27 eJ=>(Xw qM))))⟩⟩
def EF:=EI.1
theorem J4:FnScope ["columns"] ["columns"] (Xg Yg):={}
abbrev Y8 (m:QLs->Rs QLs):Prop:=Fn P w K mg base 1 "table_of_columns" ["columns"] (sp1 rVV oLL m K)
def Qe:{m // Pq λP w K mg base=>Def K mg "table_of_columns" Yg ["columns"]->Y8 P w K mg base m}:=⟨_, @λP w K mg base Z D=>go1 D J4 0 0 rfl rfl λhr hu ar=>⟨_,(Xb (Xu (G5 (sc:=(Xg Yg)) (N0:=["columns"]) (tns:=["a"]) (caps:=[(0,"columns")]) rfl (Xy rfl Z.b_range (Xa (Ys K Z.b_len (Xa (pv 0) Xd)) Xd)) (Yc (by decide)) (λcl C s H ex E=>⟨XC (i:=0) (show List.Nodup (["a","columns"]:List Str) by decide+kernel) rfl (Or.inr rfl) (hf:=Or.inl rfl),YJ,(G5 (sc:=(Tk Nx (Xg Yg))) (N0:=["a","columns"]) (tns:=["column"]) (caps:=[(0,"a")]) rfl (Xq (K:=K) rfl (pv 1)) (Yc (by decide)) (λcl C s H ex E=>⟨XC (i:=0) (show List.Nodup (["column","a"]:List Str) by decide+kernel) rfl (Or.inl rfl),YJ,(Xl K (pv 0) (pv 1))⟩))⟩)))
  Xe),λac aq=>(Xw (YL (λ_=>tg1 0) qw (λC3 a4 v5=>(YL (λ_=>tg1 0) qw (λC7 a8 v9=>qM)))))⟩⟩
def Qd:=Qe.1
theorem YU:FnScope ["choices","columns","longer","ahead"] ["choices","columns"] (Xg Yu):={}
abbrev Y3 (m:(List QLs)->QLs->Rs (List QLs)):Prop:=Fn P w K mg base 1 "longer_by_columns" ["choices","columns"] (AU (rV rVV) rVV (oL (oL (oF (rV Xf)))) m K)
def ZP:{m // Pq λP w K mg base=>Def K mg "longer_by_columns" Yu ["choices","columns"]->Y3 P w K mg base m}:=⟨_, @λP w K mg base Z D=>by
 refine Vh D YU (λvs H Q E h=>?_) (λf aj A outer s H vs Q E hr h=>?_)
 ·obtain⟨ac,ae,aq,aB,b,rfl,_⟩:=h;rfl
 obtain⟨ac,ae,aq,aB,b,rfl,Cf,hw,cB,cW,hm,q⟩:=h
 have hu:=hu8 hr
 have ar:=JS hr
 refine⟨_,(Xb (psn YU 2 (Xt Xd))
  (Xb (psf (Xq (K:=K) rfl (pv 0)) (XC (i:=3) YU.nd rfl (Or.inr rfl))
   (Xb (XA (Ze PySem.F.plainAttrs_list PySem.F.slot_list_extend PySem.F.type_list_extend DT (pv 2) (Xa (Yk (sc:=(Xg Yu)) (N0:=["choices","columns","longer","ahead"]) (tns:=["column"]) (caps:=[(3,"ahead")]) rfl (Xq (K:=K) rfl (pv 1)) (Yc (by decide)) (λcl C s H ex E=>⟨XC (i:=0) (show List.Nodup (["column","ahead"]:List Str) by decide+kernel) rfl (Or.inl rfl),YJ,(Xj Qg (pv 1) (Xt (Xa (pv 0) Xd)))⟩)) Xd)))
   Xe))
  (Xb (Xu (pv 2))
  Xe))),?_⟩
 refine Ia (S:=(SC.add (SC.add SC.nil K (rV rVV) ac aq) K rVV ae aB)) (U:=[some ac,some ae,none,none]) 1 ?_ hw (SC.i (SC.i SC.t cB) cW) hm q rfl
 exact(YE K (o:=(oL (oL (oF (rV Xf))))) 0 (ZZ (o:=(oL (oF (rV Xf))))) λa1 v2 C3=>(Qr K (λO (x4:Option V×V×List XD)=>[x4.2.2,Cf]) (λs x4=>[some ac,some ae,some x4.2.1,x4.1]) (λS (g5:(List QLs)) x4=>(SC.addO S K (oL (oL (oF (rV Xf)))) x4.2.1 g5 x4.2.2)) (λ_=>tg1 3) ((none),v2,C3) (a1) qw rfl rfl (λ_ s=>(SC.i s s.r)) (λg6 x7 a8 v9=>(qh K (YL (λ_=>tg1 0) qw (λC10 gy hV=>qN)) λdX jB=>(XS ((some v9),x7.2.1,jB) (dX) rfl rfl))) λgz bu=>(Fy (K:=K) 1 (by rfl) ZO)))⟩
def ZI:=ZP.1
theorem YV:FnScope ["size","lists","told","b"] ["size"] (Xg ZC):={}
abbrev QW (m:Int->Rs (List QLs)):Prop:=Fn P w K mg base 3 "all_columns" ["size"] (qe Xf (oL (oL (oF (rV Xf)))) m K)
def Vf:{m // Pq λP w K mg base=>Def K mg "all_columns" ZC ["size"]->J1 P w K mg base UQ->Y3 P w K mg base ZI->QW P w K mg base m}:=⟨_, @λP w K mg base Z D bh au=>by
 refine Vh D YV (λvs H Q E h=>?_) (λf aj A outer s H vs Q E hr h=>?_)
 ·obtain⟨ac,aq,b,rfl,_⟩:=h;rfl
 obtain⟨ac,aq,b,rfl,Cf,hw,cB,hm,q⟩:=h
 have hu:=hu8 hr
 have ar:=JS hr
 refine⟨_,(Xb (psn YV 1 (pef bh hr (Xa (pv 0) Xd)))
  (Xb (psn YV 2 (Xt (Xa (Xt Xd) Xd XX)))
  (Xb (psf (Xy rfl Z.b_range (Xa (pv 0) Xd)) (XC (i:=3) YV.nd rfl (Or.inr rfl))
   (Xb (psn YV 2 (pef au hr (Xa (pv 2) (Xa (Yk (sc:=(Xg ZC)) (N0:=["size","lists","told","b"]) (tns:=["order"]) (caps:=[(3,"b")]) rfl (Xq (K:=K) rfl (pv 1)) (Yc (by decide)) (λcl C s H ex E=>⟨XC (i:=0) (show List.Nodup (["order","b"]:List Str) by decide+kernel) rfl (Or.inl rfl),(QD (Xk YT (Xl K (pv 0) (pv 1)) (pv 1) (Xr _))),(pv 0)⟩)) Xd))))
   Xe))
  (Xb (Xu (pv 2))
  Xe)))),?_⟩
 refine Ia (S:=(SC.add SC.nil K Xf ac aq)) (U:=[some ac,none,none,none]) 1 ?_ hw (SC.i SC.t cB) hm q rfl
 exact(X6 K qS λa1 v2=>(YE K (o:=(oL (oL (oF (rV Xf))))) 0 (Ji (Yw (ZZ (o:=(oF (rV Xf)))) λ_=>Qf)) λa5 v6 C7=>(Qr K (λO (bQ:Option V×V×List XD)=>[bQ.2.2,Cf]) (λs bQ=>[some ac,some v2,some bQ.2.1,bQ.1]) (λS (jy:(List QLs)) bQ=>(SC.addO S K (oL (oL (oF (rV Xf)))) bQ.2.1 jy bQ.2.2)) (λ_=>tg1 3) ((none),v6,C7) (a5) qw rfl rfl (λ_ s=>(SC.i s s.r)) (λdM iL hW iM=>(MT (K:=K) (o:=(oL (oL (oF (rV Xf))))) 0 rfl (λ_ s=>s.l.r) (YE K (o:=(oL (oL (oF (rV Xf))))) 0 (LN qS (Ev.sh (Z4 (λ_=>tg1 0) qw (λjC hX v24=>(qt K)) (λjC hX v24=>qM)))) λfC eK jB=>(XS ((some iM),eK,jB) (fC) rfl rfl)))) λfT c8=>(Fy (K:=K) 1 (by rfl) ZO))))⟩
def Vu:=Vf.1
theorem DL:FnScope ["size","tried"] ["size"] (Xg Vo):={}
abbrev Ut (m:Int->Rs (List QLs)):Prop:=Fn P w K mg base 4 "tables" ["size"] (sp1 Xf (oL oLL) m K)
def EK:{m // Pq λP w K mg base=>Def K mg "tables" Vo ["size"]->Zm P w K mg base YW->Y8 P w K mg base Qd->QW P w K mg base Vu->Fi P w K mg base EF->Ut P w K mg base m}:=⟨_, @λP w K mg base Z D al av aN bX=>go1 D DL 1 1 rfl rfl λhr hu ar=>⟨_,(Xb (XA (pef al hr (Xa (Ml Z.c_MOST_OF_ALL rfl) (Xa (pv 0) Xd))))
  (Xb (J0 1 (Xg Vo) ["size","tried"] ["columns"] [] rfl DL.nd rfl rfl (Xq (K:=K) rfl (pef aN hr (Xa (pv 0) Xd))) (Yc (by decide)) (λcl C s H ex E=>⟨XC (i:=0) (show List.Nodup (["columns"]:List Str) by decide+kernel) rfl (Or.inl rfl),YJ,(pef av hr (Xa (pv 0) Xd))⟩))
  (Xb (Xu (XG (UV (Ov eq_int) WI (FV NA) K rfl (Hi (by decide) hu)) rfl Z.b_sorted PyProof.Rows.boot_sorted (Xa (Yk (sc:=(Xg Vo)) (N0:=["size","tried"]) (tns:=["table"]) (caps:=[]) rfl (Xq (K:=K) rfl (pv 1)) (Yc (by decide)) (λcl C s H ex E=>⟨XC (i:=0) (show List.Nodup (["table"]:List Str) by decide+kernel) rfl (Or.inl rfl),(QD (Xk Ky (pef bX hr (Xa (pv 0) Xd)) Zr (Xr _))),(pv 0)⟩)) Xd)))
  Xe))),λac aq=>(UY (K:=K) qB (YE K (o:=(oL oLL)) 0 (YL (λ_=>tg1 0) (Zu (Ev.sh (L4 qS))) (λC10 gy hV=>qN)) λa5 v6 C7=>(Xw (Nh (r:=rV Xf) (lt:=ltG ltI) (SM (K:=K) (o:=oLL) (r:=rVV) 1 0 (by decide) rfl rfl (λ_ s=>s.r) (λC18 jD v20=>(XT (K:=K) (JW (tb:=tC .non) qB))))))))⟩⟩
def YZ:=EK.1
theorem Bx:FnScope ["drawing","passage","at","walk"] ["drawing","passage"] (Xg IR):={}
abbrev MO (m:QDr->Int->Rs (Int×Int)):Prop:=Fn P w K mg base 1 "spot" ["drawing","passage"] (sp2 rDr Xf (oF (rP2 Xf Xf)) m K)
def IV:{m // Pq λP w K mg base=>Def K mg "spot" IR ["drawing","passage"]->MO P w K mg base m}:=⟨_, @λP w K mg base Z D=>go2 D Bx 2 0 rfl rfl λhr hu ar=>⟨_,(Xb (psf (Ks rfl Z.b_enumerate (Xx K (pv 0) Xc)) (ZJ rfl (Xs (pgn Bx 2) (Xs (pgn Bx 3) YD)))
   (Xb (XU (Xk Kc (pv 1) (pv 3) rfl)
    (Xb (Xu (Yn (Xa (pv 2) (Xa (WS (K:=K) rfl PySem.F.plainAttrs_list PySem.F.slot_list_index PySem.F.type_list_index (LG K rfl) (pv 3) (Xa (pv 1) Xd)) Xd))))
    Xe)
    Xe)
   Xe))
  (Xb Ff
  Xe)),λac ae aq aB=>(Fm K (λO (x3:Option V×Option V)=>[]) (λs x3=>[some ac,some ae,x3.1,x3.2]) (λS (g4:Unit) x3=>S) (λ_=>tg2 2 3) ((none),(none)) () (Jl qS) rfl rfl (λ_ s=>s) (λg5 x6 a7 v8=>(Qi (XT (K:=K) (OI qB qB)) (Xw (EvS.ev (Uu qS (EvB.sh (ML qB qB))))) (ZY (XS ((some v8.1),(some v8.2)) () rfl rfl)))) λg18 cN=>WR)⟩⟩
def ED:=IV.1
theorem Jv:FnScope ["walk","unders"] ["walk"] (Xg Zo):={}
abbrev YX (m:(List Int)->Rs Int):Prop:=Fn P w K mg base 1 "arcs_of_walk" ["walk"] (sp1 (rV Xf) (oF Xf) m K)
def Ql:{m // Pq λP w K mg base=>Def K mg "arcs_of_walk" Zo ["walk"]->YX P w K mg base m}:=⟨_, @λP w K mg base Z D=>go1 D Jv 1 0 rfl rfl λhr hu ar=>⟨_,(Xb (J0 1 (Xg Zo) ["walk","unders"] ["passage"] [] rfl Jv.nd rfl rfl (Xq (K:=K) rfl (pv 0)) (Yc (by decide)) (λcl C s H ex E=>⟨XC (i:=0) (show List.Nodup (["passage"]:List Str) by decide+kernel) rfl (Or.inl rfl),(QD (Xk US (pv 0) Xc (Xr _))),(pv 0)⟩))
  (Xb (Xu (XG (Kt rfl) rfl Z.b_max PyProof.Rows.boot_max (Xa (Ys K Z.b_len (Xa (pv 1) Xd)) (Xa Xc Xd))))
  Xe)),λac aq=>(X6 K (r:=(rV Xf)) (Ev.sh (Z4 (λ_=>tg1 0) qw (λC3 a4 v5=>(qt K)) (λC3 a4 v5=>qM))) λa1 v2=>(Xw qM))⟩⟩
def YB:=Ql.1
theorem Yl:FnScope ["walk","first","number","unders","ways","passage"] ["walk","first"] (Xg Qh):={}
abbrev Qo (m:(List Int)->Int->Rs (List Int)):Prop:=Fn P w K mg base 2 "arcs_of_ways" ["walk","first"] (sp2 (rV Xf) Xf oLi m K)
def Qm:{m // Pq λP w K mg base=>Def K mg "arcs_of_ways" Qh ["walk","first"]->YX P w K mg base YB->Qo P w K mg base m}:=⟨_, @λP w K mg base Z D ag=>go2 D Yl 4 1 rfl rfl λhr hu ar=>⟨_,(Xb (psn Yl 2 (pef ag hr (Xa (pv 0) Xd)))
  (Xb (psn Yl 3 Xc)
  (Xb (psn Yl 4 (Xt (Xa (pv 1) Xd)))
  (Xb (psf (Xq (K:=K) rfl (XI (Zq K rfl) (pv 0) Yd (XJ (ZE YG Xc)))) (pgn Yl 5)
   (Xb (XU (Xk US (pv 5) Xc (Xr _))
    (Xb (IB (i:=3) Yl.nd rfl (Or.inl rfl) Xc OP)
    Xe)
    Xe)
   (Xb (XA (Ze PySem.F.plainAttrs_list PySem.F.slot_list_append PySem.F.type_list_append XE (pv 4) (Xa (Xj Xz (pv 1) (Xj Yb (pv 3) (pv 2))) Xd)))
   Xe)))
  (Xb (Xu (pv 4))
  Xe))))),λac ae aq aB=>(X6 K qS λa1 v2=>(X6 K qS λa5 v6=>(YE K 0 qN λa7 v8 C9=>(Qr K (λO (bG:Option V×V×V×List XD)=>[bG.2.2.2]) (λs bG=>[some ac,some ae,some v2,some bG.2.1,some bG.2.2.1,bG.1]) (λS (gv:Int×(List Int)) bG=>(SC.addO (SC.add S K Xf bG.2.1 gv.1) K oLi bG.2.2.1 gv.2 bG.2.2.2)) (λ_=>tg1 5) ((none),v6,v8,C9) (a5,a7) qw rfl rfl (λ_ s=>(SC.i (SC.i s s.l.r) s.r)) (λgt bt a22 hZ=>(Y4 (λO (bM:V)=>[bt.2.2.2]) (λs bM=>[some ac,some ae,some v2,some bM,some bt.2.2.1,some hZ]) (λS (jE:Int) bM=>(SC.add S K Xf bM jE)) (X2 (qt K) (qi K qB λdY gA=>(XS (gA) (dY) rfl rfl)) (XS (bt.2.1) (gt.1) rfl rfl)) λg33 fh=>(K7 K qM λiN jF=>(XS ((some hZ),fh,bt.2.2.1,jF) (g33,iN) rfl rfl)))) λg41 iO=>(Xw ZO)))))⟩⟩
def Zn:=Qm.1
theorem U8:FnScope ["drawing","told","first","walk"] ["drawing"] (Xg L7):={}
abbrev Ma (m:QDr->Rs QLs):Prop:=Fn P w K mg base 3 "arcs" ["drawing"] (sp1 rDr oLL m K)
def IY:{m // Pq λP w K mg base=>Def K mg "arcs" L7 ["drawing"]->YX P w K mg base YB->Qo P w K mg base Zn->Ma P w K mg base m}:=⟨_, @λP w K mg base Z D ag aJ=>go1 D U8 3 1 rfl rfl λhr hu ar=>⟨_,(Xb (psn U8 1 (Xt Xd))
  (Xb (psn U8 2 Xc)
  (Xb (psf (Xq (K:=K) rfl (Xx K (pv 0) Xc)) (pgn U8 3)
   (Xb (XA (Ze PySem.F.plainAttrs_list PySem.F.slot_list_append PySem.F.type_list_append XE (pv 1) (Xa (pef aJ hr (Xa (pv 3) (Xa (pv 2) Xd))) Xd)))
   (Xb (IB (i:=2) U8.nd rfl (Or.inl rfl) (pef ag hr (Xa (pv 3) Xd)) OP)
   Xe)))
  (Xb (Xu (pv 1))
  Xe)))),λac aq=>(YE K (o:=oLL) 0 (ZZ (o:=oLi)) λa1 v2 C3=>(X6 K qS λa4 v5=>(Qr K (λO (x7:Option V×V×V×List XD)=>[x7.2.2.2]) (λs x7=>[some ac,some x7.2.2.1,some x7.2.1,x7.1]) (λS (g8:Int×QLs) x7=>(SC.addO (SC.add S K Xf x7.2.1 g8.1) K oLL x7.2.2.1 g8.2 x7.2.2.2)) (λ_=>tg1 3) ((none),v5,v2,C3) (a4,a1) qw rfl rfl (λ_ s=>(SC.i (SC.i s s.r) s.l.r)) (λg9 x10 gy hV=>(K7 K qN λfC C17=>(qi K qB λhX fU=>(XS ((some hV),fU,x10.2.2.1,C17) (hX,fC) rfl rfl)))) λfV x25=>(Xw ZO))))⟩⟩
def Eu:=IY.1
theorem FK:FnScope ["drawing"] ["drawing"] (Xg QK):={}
abbrev QA (m:QDr->Rs Int):Prop:=Fn P w K mg base 2 "arc_count" ["drawing"] (sp1 rDr (oF Xf) m K)
def JY:{m // Pq λP w K mg base=>Def K mg "arc_count" QK ["drawing"]->YX P w K mg base YB->QA P w K mg base m}:=⟨_, @λP w K mg base Z D ag=>go1 D FK 0 0 rfl rfl λhr hu ar=>⟨_,(Xb (Xu (XG (Hz rfl) rfl Z.b_sum PyProof.Rows.boot_sum (Xa (Yk (sc:=(Xg QK)) (N0:=["drawing"]) (tns:=["walk"]) (caps:=[]) rfl (Xq (K:=K) rfl (Xx K (pv 0) Xc)) (Yc (by decide)) (λcl C s H ex E=>⟨XC (i:=0) (show List.Nodup (["walk"]:List Str) by decide+kernel) rfl (Or.inl rfl),YJ,(pef ag hr (Xa (pv 0) Xd))⟩)) Xd)))
  Xe),λac aq=>(Xw (EvS.ev (EvB.sh (RZ (Ev.toB (YL (λ_=>tg1 0) qw (λC3 a4 v5=>qN)))))))⟩⟩
def ZQ:=JY.1
theorem Y7:FnScope ["drawing","numbers","told","crossing","sign","above","below","over","ways","inward","outward"] ["drawing"] (Xg Ci):={}
abbrev BB (m:QDr->Rs (List (Int×Int×Int×Int×Int))):Prop:=Fn P w K mg base 4 "meets" ["drawing"] (sp1 rDr (oL (oF (rP5 Xf Xf Xf Xf Xf))) m K)
def BI:{m // Pq λP w K mg base=>Def K mg "meets" Ci ["drawing"]->Ma P w K mg base Eu->MO P w K mg base ED->BB P w K mg base m}:=⟨_, @λP w K mg base Z D dn cC=>go1 D Y7 10 1 rfl rfl λhr hu ar=>⟨_,(Xb (psn Y7 1 (pef dn hr (Xa (pv 0) Xd)))
  (Xb (psn Y7 2 (Xt Xd))
  (Xb (psf (Xq (K:=K) rfl (Xx K (pv 0) Xc)) (ZJ rfl (Xs (pgn Y7 3) (Xs (pgn Y7 4) YD)))
   (Xb (psn Y7 5 (pef cC hr (Xa (pv 0) (Xa (pv 3) Xd))))
   (Xb (psn Y7 6 (pef cC hr (Xa (pv 0) (Xa (ZE YG (pv 3)) Xd))))
   (Xb (psn Y7 7 (Xl K (Xl K (pv 1) (Xx K (pv 5) Xc)) (Xx K (pv 5) Xc)))
   (Xb (psn Y7 8 (Xl K (pv 1) (Xx K (pv 6) Xc)))
   (Xb (psn Y7 9 (Xl K (pv 8) (Xx K (pv 6) Xc)))
   (Xb (psn Y7 10 (Xl K (pv 8) (Xj Yb (Xj Xz (Xx K (pv 6) Xc) Xc) (Ys K Z.b_len (Xa (pv 8) Xd)))))
   (Xb (XA (Ze PySem.F.plainAttrs_list PySem.F.slot_list_append PySem.F.type_list_append XE (pv 2) (Xa (Yn (Xa (pv 3) (Xa (pv 4) (Xa (pv 7) (Xa (pv 9) (Xa (pv 10) Xd)))))) Xd)))
   Xe))))))))
  (Xb (Xu (pv 2))
  Xe)))),λac aq=>(X6 K qS λa1 v2=>(YE K (o:=(oL (oF (rP5 Xf Xf Xf Xf Xf)))) 0 (ZZ (o:=(oF (rP5 Xf Xf Xf Xf Xf)))) λa5 v6 C7=>(Qr K (λO (x9:Option V×Option V×Option V×Option V×Option V×Option V×Option V×Option V×V×List XD)=>[x9.2.2.2.2.2.2.2.2.2]) (λs x9=>[some ac,some v2,some x9.2.2.2.2.2.2.2.2.1,x9.1,x9.2.1,x9.2.2.1,x9.2.2.2.1,x9.2.2.2.2.1,x9.2.2.2.2.2.1,x9.2.2.2.2.2.2.1,x9.2.2.2.2.2.2.2.1]) (λS (hU:(List (Int×Int×Int×Int×Int))) x9=>(SC.addO S K (oL (oF (rP5 Xf Xf Xf Xf Xf))) x9.2.2.2.2.2.2.2.2.1 hU x9.2.2.2.2.2.2.2.2.2)) (λ_=>tg2 3 4) ((none),(none),(none),(none),(none),(none),(none),(none),v6,C7) (a5) qw rfl rfl (λ_ s=>(SC.i s s.r)) (λg11 bQ a13 eI=>(X6 K qS λa15 v16=>(X6 K qS λa20 v21=>(X6 K qS λcq ia=>(X6 K qS λa34 jG=>(X6 K qS λa39 v40=>(X6 K qS λa44 v45=>(K7 K (EvS.ev (Eg qS qS qS qS qS)) λa61 C60=>(XS ((some eI.1),(some eI.2),(some v16),(some v21),(some ia),(some jG),(some v40),(some v45),bQ.2.2.2.2.2.2.2.2.1,C60) (a61) rfl rfl))))))))) λg62 x63=>(Xw ZO))))⟩⟩
def VM:=BI.1
theorem JT:FnScope ["drawing","told","crossing","sign","over","inward","outward"] ["drawing"] (Xg Lc):={}
abbrev IF (m:QDr->Rs (List (Int×Int×Int))):Prop:=Fn P w K mg base 5 "ties" ["drawing"] (sp1 rDr (oL (oF (rP3 Xf Xf Xf))) m K)
def MD:{m // Pq λP w K mg base=>Def K mg "ties" Lc ["drawing"]->BB P w K mg base VM->IF P w K mg base m}:=⟨_, @λP w K mg base Z D cD=>go1 D JT 6 1 rfl rfl λhr hu ar=>⟨_,(Xb (psn JT 1 (Xt Xd))
  (Xb (psf (Xq (K:=K) rfl (pef cD hr (Xa (pv 0) Xd))) (ZJ rfl (Xs (pgn JT 2) (Xs (pgn JT 3) (Xs (pgn JT 4) (Xs (pgn JT 5) (Xs (pgn JT 6) YD))))))
   (Xb (XA (Ze PySem.F.plainAttrs_list PySem.F.slot_list_append PySem.F.type_list_append XE (pv 1) (Xa (N1 (Xk YT (pv 3) Xc (Xr _)) (Yn (Xa (pv 5) (Xa (pv 4) (Xa (pv 6) Xd)))) (Yn (Xa (pv 6) (Xa (pv 4) (Xa (pv 5) Xd))))) Xd)))
   Xe))
  (Xb (Xu (pv 1))
  Xe))),λac aq=>(YE K (o:=(oL (oF (rP3 Xf Xf Xf)))) 0 (ZZ (o:=(oF (rP3 Xf Xf Xf)))) λa1 v2 C3=>(Qr K (λO (x6:Option V×Option V×Option V×Option V×Option V×V×List XD)=>[x6.2.2.2.2.2.2]) (λs x6=>[some ac,some x6.2.2.2.2.2.1,x6.1,x6.2.1,x6.2.2.1,x6.2.2.2.1,x6.2.2.2.2.1]) (λS (g7:(List (Int×Int×Int))) x6=>(SC.addO S K (oL (oF (rP3 Xf Xf Xf))) x6.2.2.2.2.2.1 g7 x6.2.2.2.2.2.2)) (λ_=>tg5 2 3 4 5 6) ((none),(none),(none),(none),(none),v2,C3) (a1) qw rfl rfl (λ_ s=>(SC.i s s.r)) (λg8 x9 fB bB=>(K7 K (Ah (qt K) (EvS.ev (Vz qS qS qS)) (EvS.ev (Vz qS qS qS))) λhX jC=>(XS ((some bB.1),(some bB.2.1),(some bB.2.2.1),(some bB.2.2.2.1),(some bB.2.2.2.2),x9.2.2.2.2.2.1,jC) (hX) rfl rfl))) λfV x25=>(Xw ZO)))⟩⟩
def ES:=MD.1
theorem Bs:FnScope ["table","colours","asked"] ["table","colours","asked"] (Xg Jw):={}
abbrev VZ (m:QLs->(List Int)->(List (Int×Int×Int))->Rs Bool):Prop:=Fn P w K mg base 1 "all_held" ["table","colours","asked"] (sp3 rVV (rV Xf) (rV (rP3 Xf Xf Xf)) (oF XO) m K)
def V4:{m // Pq λP w K mg base=>Def K mg "all_held" Jw ["table","colours","asked"]->VZ P w K mg base m}:=⟨_, @λP w K mg base Z D=>go3 D Bs 0 0 rfl rfl λhr hu ar=>⟨_,(Xb (Xu (XG (HZ rfl) rfl Z.b_all PyProof.Rows.boot_all (Xa (Yk (sc:=(Xg Jw)) (N0:=["table","colours","asked"]) (tns:=["start","over","end"]) (caps:=[(0,"table"),(1,"colours")]) rfl (Xq (K:=K) rfl (pv 2)) (PY (by decide) (by decide) (by decide)) (λcl C s H ex E=>⟨GF K rfl rfl (Xs (XC (i:=0) (show List.Nodup (["start","over","end","table","colours"]:List Str) by decide+kernel) rfl (Or.inl rfl)) (Xs (XC (i:=1) (show List.Nodup (["start","over","end","table","colours"]:List Str) by decide+kernel) rfl (Or.inl rfl)) (Xs (XC (i:=2) (show List.Nodup (["start","over","end","table","colours"]:List Str) by decide+kernel) rfl (Or.inl rfl)) YD))),YJ,(Zg YT (Xl K (Xl K (pv 3) (Xl K (pv 4) (pv 0))) (Xl K (pv 4) (pv 1))) (Xl K (pv 4) (pv 2)) (Xr _))⟩)) Xd)))
  Xe),λac ae aD aq aB bR=>(Xw (EvS.ev (EvB.sh (RU (Ev.toB (YL (λ_=>tg3 0 1 2) qw (λC2 a3 v4=>qM)))))))⟩⟩
def JH:=V4.1
theorem YH:FnScope ["size","count","lists","arc"] ["size","count"] (Xg Zj):={}
abbrev YO (m:Int->Int->Rs Unit):Prop:=Fn P w K mg base 1 "refuse_too_much" ["size","count"] (sp2 Xf Xf oU m K)
def Zh:{m // Pq λP w K mg base=>Def K mg "refuse_too_much" Zj ["size","count"]->YO P w K mg base m}:=⟨_, @λP w K mg base Z D=>by
 refine Vh D YH (λvs H Q E h=>?_) (λf aj A outer s H vs Q E hr h=>?_)
 ·obtain⟨ac,ae,aq,aB,b,rfl,_⟩:=h;rfl
 obtain⟨ac,ae,aq,aB,b,rfl,cB,cW,hm,q⟩:=h
 have hu:=hu8 hr
 have ar:=JS hr
 refine⟨_,(Xb (psn YH 2 Xc)
  (Xb (psf (Xy rfl Z.b_range (Xa (pv 1) Xd)) (pgn YH 3)
   (Xb (IB (i:=2) YH.nd rfl (Or.inl rfl) (pv 0) TV)
   Xe))
  (Xb (XU (Xk FX (pv 2) (Ml Z.c_MOST_LISTS rfl) (Xr _))
   (Xb Ff
   Xe)
   Xe)
  Xe))),?_⟩
 refine R6 (J:=({oo:=λx3=>[],ss:=λx3=>[some ac,some ae,x3.1,x3.2],sc:=λg4 x3=>(SC.add (SC.add SC.nil K Xf ac aq) K Xf ae aB)}:Jn (Unit) (Option V×Option V))) (K:=K) (S:=(SC.add (SC.add SC.nil K Xf ac aq) K Xf ae aB)) (U:=[some ac,some ae,none,none]) 0 ?_ (SC.i (SC.i SC.t cB) cW) hm q (λ_ _=>rfl)
 exact(X6 K qS λa5 v6=>(Qr K (λO (x8:Option V×V)=>[]) (λs x8=>[some ac,some ae,some x8.2,x8.1]) (λS (g9:Int) x8=>(SC.add S K Xf x8.2 g9)) (λ_=>tg1 3) ((none),v6) (a5) qw rfl rfl (λ_ s=>(SC.i s s.r)) (λhU fS a12 fg=>(P6 (K:=K) 2 rfl (λ_ s=>s.l.r) qB λhW eG=>(XS ((some fg),eG) (hW) rfl rfl))) λg17 bG=>(O4 (qt K) (XS ((some bG.2),(bG.1)) () rfl rfl))))⟩
def Ym:=Zh.1
theorem Yv:FnScope ["lists","table","asked","longer","ahead","colour","tried"] ["lists","table","asked"] (Xg ZU):={}
abbrev ZW (m:QLs->QLs->(List (Int×Int×Int))->Rs QLs):Prop:=Fn P w K mg base 2 "longer_by_arc" ["lists","table","asked"] (sp3 rVV rVV (rV (rP3 Xf Xf Xf)) oLL m K)
def ZV:{m // Pq λP w K mg base=>Def K mg "longer_by_arc" ZU ["lists","table","asked"]->VZ P w K mg base JH->ZW P w K mg base m}:=⟨_, @λP w K mg base Z D bv=>go3 D Yv 4 2 rfl rfl λhr hu ar=>⟨_,(Xb (psn Yv 3 (Xt Xd))
  (Xb (psf (Xq (K:=K) rfl (pv 0)) (pgn Yv 4)
   (Xb (psf (Xy rfl Z.b_range (Xa (Ys K Z.b_len (Xa (pv 1) Xd)) Xd)) (pgn Yv 5)
    (Xb (psn Yv 6 (Xj Qg (pv 4) (Xt (Xa (pv 5) Xd))))
    (Xb (XU (Ja (pef bv hr (Xa (pv 1) (Xa (pv 6) (Xa (pv 2) Xd)))))
     (Xb (XA (Ze PySem.F.plainAttrs_list PySem.F.slot_list_append PySem.F.type_list_append XE (pv 3) (Xa (pv 6) Xd)))
     Xe)
     Xe)
    Xe)))
   Xe))
  (Xb (Xu (pv 3))
  Xe))),λac ae aD aq aB bR=>(YE K (o:=oLL) 0 (ZZ (o:=oLi)) λa1 v2 C3=>(Qr K (λO (x4:Option V×Option V×Option V×V×List XD)=>[x4.2.2.2.2,[]]) (λs x4=>[some ac,some ae,some aD,some x4.2.2.2.1,x4.1,x4.2.1,x4.2.2.1]) (λS (g5:QLs) x4=>(SC.addO S K oLL x4.2.2.2.1 g5 x4.2.2.2.2)) (λ_=>tg1 4) ((none),(none),(none),v2,C3) (a1) qw rfl rfl (λ_ s=>(SC.i s s.r)) (λg6 x7 a8 v9=>(Qr K (λO (bQ:Option V×Option V×V×List XD)=>[bQ.2.2.2,[]]) (λs bQ=>[some ac,some ae,some aD,some bQ.2.2.1,some v9,bQ.1,bQ.2.1]) (λS (jy:QLs) bQ=>(SC.addO S K oLL bQ.2.2.1 jy bQ.2.2.2)) (λ_=>tg1 5) ((x7.2.1),(x7.2.2.1),x7.2.2.2.1,x7.2.2.2.2) (g6) qw rfl rfl (λ_ s=>(SC.i s s.l.r)) (λdM iL hW iM=>(YE K 1 qN λfC eK jB=>(Y4 (λO (gu:V×Option V×List XD)=>[gu.2.2,[]]) (λs gu=>[some ac,some ae,some aD,some gu.1,some v9,some iM,gu.2.1]) (λS (fT:QLs) gu=>(SC.addO S K oLL gu.1 fT gu.2.2)) (X2 (qt K) (K7 K ZO λda jH=>(XS (iL.2.2.1,(some eK),jH) (da) rfl rfl)) (BH 1 (XS (iL.2.2.1,(some eK),iL.2.2.2) (dM) rfl rfl))) λiP c9=>(XS ((some iM),(c9.2.1),c9.1,c9.2.2) (iP) rfl rfl)))) λg38 bC=>(XS ((some v9),(bC.1),(bC.2.1),bC.2.2.1,bC.2.2.2) (g38) rfl rfl))) λg41 iO=>(Xw ZO)))⟩⟩
def Za:=ZV.1
theorem YN:FnScope ["drawing","table","count","asked","told","arc"] ["drawing","table"] (Xg Qc):={}
abbrev Q9 (m:QDr->QLs->Rs QLs):Prop:=Fn P w K mg base 6 "colourings" ["drawing","table"] (sp2 rDr rVV oLL m K)
def Jf:{m // Pq λP w K mg base=>Def K mg "colourings" Qc ["drawing","table"]->QA P w K mg base ZQ->YO P w K mg base Ym->IF P w K mg base ES->ZW P w K mg base Za->Q9 P w K mg base m}:=⟨_, @λP w K mg base Z D aw ai dq aH=>go2 D YN 4 1 rfl rfl λhr hu ar=>⟨_,(Xb (psn YN 2 (pef aw hr (Xa (pv 0) Xd)))
  (Xb (XA (pef ai hr (Xa (Ys K Z.b_len (Xa (pv 1) Xd)) (Xa (pv 2) Xd))))
  (Xb (psn YN 3 (pef dq hr (Xa (pv 0) Xd)))
  (Xb (psn YN 4 (Xt (Xa (Xt Xd) Xd XX)))
  (Xb (psf (Xy rfl Z.b_range (Xa (pv 2) Xd)) (XC (i:=5) YN.nd rfl (Or.inr rfl))
   (Xb (psn YN 4 (pef aH hr (Xa (pv 4) (Xa (pv 1) (Xa (Yk (sc:=(Xg Qc)) (N0:=["drawing","table","count","asked","told","arc"]) (tns:=["tie"]) (caps:=[(5,"arc")]) rfl (Xq (K:=K) rfl (pv 3)) (Yc (by decide)) (λcl C s H ex E=>⟨XC (i:=0) (show List.Nodup (["tie","arc"]:List Str) by decide+kernel) rfl (Or.inl rfl),(QD (Xk YT (XG (VE K rfl rfl) rfl Z.b_max PyProof.Rows.boot_max (Xa (pv 0) Xd)) (pv 1) (Xr _))),(pv 0)⟩)) Xd)))))
   Xe))
  (Xb (Xu (pv 4))
  Xe)))))),λac ae aq aB=>(X6 K qS λa1 v2=>(UY (K:=K) qB (X6 K qS λfB bB=>(YE K (o:=oLL) 0 (Ji (Yw (ZZ (o:=(oF Xf))) λ_=>Qf)) λcM eG C16=>(Qr K (λO (bt:Option V×V×List XD)=>[bt.2.2]) (λs bt=>[some ac,some ae,some v2,some bB,some bt.2.1,bt.1]) (λS (gz:QLs) bt=>(SC.addO S K oLL bt.2.1 gz bt.2.2)) (λ_=>tg1 5) ((none),eG,C16) (cM) qw rfl rfl (λ_ s=>(SC.i s s.r)) (λg23 bD a25 gB=>(YE K (o:=oLL) 0 (EL qB qB (Ev.toB (Z4 (λ_=>tg1 0) qw (λC31 a32 v33=>(XT (K:=K) (JN (UC (R1 qB)) qB))) (λC31 a32 v33=>qM)))) λfD gC C29=>(XS ((some gB),gC,C29) (fD) rfl rfl))) λg41 iO=>(Xw ZO))))))⟩⟩
def Qb:=Jf.1
theorem SG:FnScope ["drawing","table"] ["drawing","table"] (Xg HC):={}
abbrev HJ (m:QDr->QLs->Rs Int):Prop:=Fn P w K mg base 7 "many" ["drawing","table"] (sp2 rDr rVV (oF Xf) m K)
def HL:{m // Pq λP w K mg base=>Def K mg "many" HC ["drawing","table"]->Q9 P w K mg base Qb->HJ P w K mg base m}:=⟨_, @λP w K mg base Z D aW=>go2 D SG 0 0 rfl rfl λhr hu ar=>⟨_,(Xb (Xu (Ys K Z.b_len (Xa (pef aW hr (Xa (pv 0) (Xa (pv 1) Xd))) Xd)))
  Xe),λac ae aq aB=>(Xw qM)⟩⟩
def Z3:=HL.1
theorem JL:FnScope ["size","drawings","drawing"] ["size","drawings"] (Xg QF):={}
abbrev QG (m:Int->(List QDr)->Rs Unit):Prop:=Fn P w K mg base 3 "refuse_size" ["size","drawings"] (sp2 Xf (rV rDr) oU m K)
def QU:{m // Pq λP w K mg base=>Def K mg "refuse_size" QF ["size","drawings"]->Zm P w K mg base YW->YO P w K mg base Ym->QA P w K mg base ZQ->QG P w K mg base m}:=⟨_, @λP w K mg base Z D al ai aw=>by
 refine Vh D JL (λvs H Q E h=>?_) (λf aj A outer s H vs Q E hr h=>?_)
 ·obtain⟨ac,ae,aq,aB,b,rfl,_⟩:=h;rfl
 obtain⟨ac,ae,aq,aB,b,rfl,cB,cW,hm,q⟩:=h
 have hu:=hu8 hr
 have ar:=JS hr
 refine⟨_,(Xb (XA (pef al hr (Xa (Ml Z.c_MOST_OF_ALL rfl) (Xa (pv 0) Xd))))
  (Xb (psf (Xq (K:=K) rfl (pv 1)) (pgn JL 2)
   (Xb (XA (pef ai hr (Xa (pv 0) (Xa (pef aw hr (Xa (pv 2) Xd)) Xd))))
   Xe))
  Xe)),?_⟩
 refine R6 (J:=({oo:=λx3=>[],ss:=λx3=>[some ac,some ae,x3],sc:=λg4 x3=>(SC.add (SC.add SC.nil K Xf ac aq) K (rV rDr) ae aB)}:Jn (Unit) (Option V))) (K:=K) (S:=(SC.add (SC.add SC.nil K Xf ac aq) K (rV rDr) ae aB)) (U:=[some ac,some ae,none]) 0 ?_ (SC.i (SC.i SC.t cB) cW) hm q (λ_ _=>rfl)
 exact(UY (K:=K) qB (Qr K (λO (x9:Option V)=>[]) (λs x9=>[some ac,some ae,x9]) (λS (hU:Unit) x9=>S) (λ_=>tg1 2) ((none)) () qw rfl rfl (λ_ s=>s) (λg11 bQ a13 eI=>(UY (K:=K) qB (XS ((some eI)) () rfl rfl))) λg21 ib=>(XS ((ib)) () rfl rfl)))⟩
def ZD:=QU.1
theorem Jd:FnScope ["one","other","size","each","table","first","second"] ["one","other","size"] (Xg Fz):={}
abbrev Gx (m:QDr->QDr->Int->Rs (Option (QLs×Int×Int))):Prop:=Fn P w K mg base 8 "parted" ["one","other","size"] (sp3 rDr rDr Xf (Sd (oT3 oLL (oF Xf) (oF Xf))) m K)
def G4:{m // Pq λP w K mg base=>Def K mg "parted" Fz ["one","other","size"]->QG P w K mg base ZD->Ut P w K mg base YZ->HJ P w K mg base Z3->Gx P w K mg base m}:=⟨_, @λP w K mg base Z D aO aP cE=>go3 D Jd 4 1 rfl rfl λhr hu ar=>⟨_,(Xb (XA (pef aO hr (Xa (pv 2) (Xa (Xt (Xa (pv 0) (Xa (pv 1) Xd))) Xd XX))))
  (Xb (psf (Ki rfl Z.b_range (Xa Xc (Xa (Xj Xz (pv 2) Xc) Xd))) (pgn Jd 3)
   (Xb (psf (Xq (K:=K) rfl (pef aP hr (Xa (pv 3) Xd))) (pgn Jd 4)
    (Xb (psn Jd 5 (pef cE hr (Xa (pv 0) (Xa (pv 4) Xd))))
    (Xb (psn Jd 6 (pef cE hr (Xa (pv 1) (Xa (pv 4) Xd))))
    (Xb (XU (Xk Do (pv 5) (pv 6) (Xr _))
     (Xb (Xu (Yn (Xa (pv 4) (Xa (pv 5) (Xa (pv 6) Xd)))))
     Xe)
     Xe)
    Xe))))
   Xe))
  (Xb (Xu Zr)
  Xe))),λac ae aD aq aB bR=>(UY (K:=K) (Ev.toB (Qa qB (Ev.toB (Ji (Yw qM λ_=>(Yw qM λ_=>Qf)))))) (Fm K (λO (ca:Option V×Option V×Option V×Option V)=>[[]]) (λs ca=>[some ac,some ae,some aD,ca.1,ca.2.1,ca.2.2.1,ca.2.2.2]) (λS (db:Unit) ca=>S) (λ_=>tg1 3) ((none),(none),(none),(none)) () qw rfl rfl (λ_ s=>s) (λg16 dm fC eK=>(IT K (λO (ib:Option V×Option V×Option V)=>[[]]) (λs ib=>[some ac,some ae,some aD,some eK,ib.1,ib.2.1,ib.2.2]) (λS (g23:Unit) ib=>S) (λ_ _ _=>tg1 4) ((dm.2.1),(dm.2.2.1),(dm.2.2.2)) () qN rfl rfl (λ_ s=>s) (λxs28 as29 fV x25 cq ia=>(X6 K (r:=Xf) (EvB.sh (Ev.toB (Qa qB (El qB)))) λeL v31=>(X6 K (r:=Xf) (EvB.sh (Ev.toB (Qa qB (El qB)))) λda v36=>(Qi (qt K) (Xw (Jx T5 (EvS.ev (Vz qS qS qS)))) (ZY (XS ((some ia),(some v31),(some v36)) () rfl rfl)))))) λg49 ic=>(ZY (XS ((some eK),(ic.1),(ic.2.1),(ic.2.2)) () rfl rfl)))) λg53 cg=>(Xw LJ)))⟩⟩
def VH:=G4.1
theorem FJ:FnScope ["_law_script","_law_place","_law_seed","_law_cell_here"] ["_law_script","_law_place"] (Xg IC):={}
abbrev Mb (m:(List Int)->Int->Rs Int):Prop:=Fn P w K mg base 1 "_law_cell" ["_law_script","_law_place"] (sp2 (rL Xf) Xf (oF Xf) m K)
def Io:{m // Pq λP w K mg base=>Def K mg "_law_cell" IC ["_law_script","_law_place"]->Mb P w K mg base m}:=⟨_, @λP w K mg base Z D=>go2 D FJ 2 0 rfl rfl λhr hu ar=>⟨_,(Xb (XU (Xk US (pv 1) (Ys K Z.b_len (Xa (pv 0) Xd)) (Xr _))
   (Xb (Xu (Xl K (pv 0) (pv 1)))
   Xe)
   Xe)
  (Xb (psn FJ 2 Xc)
  (Xb (psf (Xq (K:=K) rfl (XI (Zq K rfl) (pv 0) Yd (XJ Xc))) (pgn FJ 3)
   (Xb (psn FJ 2 (Xj Yb (Xj Xz (Xj Xz (Xj Ya (pv 2) Xc) (Xj Yb (pv 3) Xc)) Xc) Xc))
   Xe))
  (Xb (Xu (Xj Yb (Xj Xz (pv 2) (Xj Ya Xc (pv 1))) Xc))
  Xe)))),λac ae aq aB=>(Jb (XT (K:=K) (Lb qB (NW qB))) (Xw (EvS.ev (EvB.sh (Rh qB qB)))) (X6 K qS λa7 v8=>(Qr K (λO (aC:Option V×V)=>[]) (λs aC=>[some ac,some ae,some aC.2,aC.1]) (λS (dM:Int) aC=>(SC.add S K Xf aC.2 dM)) (λ_=>tg1 3) ((none),v8) (a7) (Zu (Ev.sh (MI qB (qp K) (qp K)))) rfl rfl (λ_ s=>(SC.i s s.r)) (λdb ba cO bY=>(X6 K qS λjD v20=>(XS ((some bY),v20) (jD) rfl rfl))) λgr fh=>(Xw qM))))⟩⟩
def B9:=Io.1
theorem MJ:FnScope ["_law_cell_here","_law_k","_law_one","_law_two"] ["_law_cell_here","_law_k"] (Xg PM):={}
abbrev S6 (m:Int->Int->Rs Int):Prop:=Fn P w K mg base 1 "_law_mix" ["_law_cell_here","_law_k"] (sp2 Xf Xf (oF Xf) m K)
def Sr:{m // Pq λP w K mg base=>Def K mg "_law_mix" PM ["_law_cell_here","_law_k"]->S6 P w K mg base m}:=⟨_, @λP w K mg base Z D=>go2 D MJ 2 0 rfl rfl λhr hu ar=>⟨_,(Xb (psn MJ 2 (Xj Yb (Xj VC (Xj Xz (Xj Xz (Xj Yb (pv 0) Xc) (Xj Ya Xc (pv 1))) Xc) Xc) Xc))
  (Xb (psn MJ 3 (Xj Yb (Xj Xz (Xj Xz (Xj Ya (pv 2) Xc) (Xj Ya (Xj Ya Xc (pv 1)) (pv 1))) Xc) Xc))
  (Xb (Xu (Xj Gv (pv 3) Xc))
  Xe))),λac ae aq aB=>(X6 K qS λa1 v2=>(X6 K qS λa15 v16=>(Xw qM)))⟩⟩
def Oo:=Sr.1
theorem Kw:FnScope ["_law_script","_law_place","_law_sizes","_law_cell_here","_law_left","_law_some","_law_k","_law_other"] ["_law_script","_law_place","_law_sizes"] (Xg RP):={}
abbrev Hl (m:(List Int)->Int->(List Int)->Rs (List Int)):Prop:=Fn P w K mg base 2 "_law_row" ["_law_script","_law_place","_law_sizes"] (sp3 (rL Xf) Xf (rV Xf) oLi m K)
def SO:{m // Pq λP w K mg base=>Def K mg "_law_row" RP ["_law_script","_law_place","_law_sizes"]->Mb P w K mg base B9->S6 P w K mg base Oo->Hl P w K mg base m}:=⟨_, @λP w K mg base Z D cF dN=>go3 D Kw 5 1 rfl rfl λhr hu ar=>⟨_,(Xb (psn Kw 3 (pef cF hr (Xa (pv 0) (Xa (pv 1) Xd))))
  (Xb (psn Kw 4 (pv 3))
  (Xb (psn Kw 5 (Xt Xd))
  (Xb (psf (Xy rfl Z.b_range (Xa (Ys K Z.b_len (Xa (pv 2) Xd)) Xd)) (pgn Kw 6)
   (Xb (XU (Xk US (pv 3) (Xj VC Xc Xc) (Xr _))
    (Xb (XA (Ze PySem.F.plainAttrs_list PySem.F.slot_list_append PySem.F.type_list_append XE (pv 5) (Xa (Xj Yb (pef dN hr (Xa (pv 3) (Xa (pv 6) Xd))) (Xl K (pv 2) (pv 6))) Xd)))
    Xe)
    (Xb (XU (Xk FX (pv 4) Xc (Xr _))
     (Xb (XA (Ze PySem.F.plainAttrs_list PySem.F.slot_list_append PySem.F.type_list_append XE (pv 5) (Xa (Xj Yb (pv 4) (Xl K (pv 2) (pv 6))) Xd)))
     (Xb (psn Kw 4 (Xj Gv (pv 4) (Xl K (pv 2) (pv 6))))
     Xe))
     (Xb (psn Kw 7 (pef cF hr (Xa (pv 0) (Xa (Xj Yb (Xj Xz (Xj Xz (pv 1) Xc) (pv 6)) Xc) Xd))))
     (Xb (XA (Ze PySem.F.plainAttrs_list PySem.F.slot_list_append PySem.F.type_list_append XE (pv 5) (Xa (Xj Yb (pef dN hr (Xa (pv 7) (Xa (pv 6) Xd))) (Xl K (pv 2) (pv 6))) Xd)))
     Xe)))
    Xe))
   Xe))
  (Xb (Xu (pv 5))
  Xe))))),λac ae aD aq aB bR=>(X6 K qS λa1 v2=>(X6 K qS λa6 v7=>(YE K (o:=oLi) 0 (ZZ (o:=(oF Xf))) λa8 v9 C10=>(Qr K (λO (aC:Option V×V×V×Option V×List XD)=>[aC.2.2.2.2]) (λs aC=>[some ac,some ae,some aD,some v2,some aC.2.2.1,some aC.2.1,aC.1,aC.2.2.2.1]) (λS (dM:(List Int)×Int) aC=>(SC.add (SC.addO S K oLi aC.2.1 dM.1 aC.2.2.2.2) K Xf aC.2.2.1 dM.2)) (λ_=>tg1 6) ((none),v9,v7,(none),C10) (a8,a6) qw rfl rfl (λ_ s=>(SC.i (SC.i s s.r) s.l.r)) (λdb ba cO bY=>(Y4 (λO (bD:V×V×Option V×List XD)=>[bD.2.2.2]) (λs bD=>[some ac,some ae,some aD,some v2,some bD.2.1,some bD.1,some bY,bD.2.2.1]) (λS (fW:(List Int)×Int) bD=>(SC.add (SC.addO S K oLi bD.1 fW.1 bD.2.2.2) K Xf bD.2.1 fW.2)) (X2 (qt K) (K7 K qM λda jH=>(XS (ba.2.1,ba.2.2.1,(ba.2.2.2.1),jH) (da,db.2) rfl rfl)) (Y4 (λO (bC:V×Option V×V×List XD)=>[bC.2.2.2]) (λs bC=>[some ac,some ae,some aD,some v2,some bC.1,some bC.2.2.1,some bY,bC.2.1]) (λS (iQ:Int×(List Int)) bC=>(SC.addO (SC.add S K Xf bC.1 iQ.1) K oLi bC.2.2.1 iQ.2 bC.2.2.2)) (X2 (qt K) (K7 K qM λa47 C46=>(X6 K qS λa48 gD=>(XS (gD,(ba.2.2.2.1),ba.2.1,C46) (a48,a47) rfl rfl))) (X6 K qS λgE v55=>(K7 K qM λa74 C73=>(XS (ba.2.2.1,(some v55),ba.2.1,C73) (db.2,a74) rfl rfl)))) λg76 fX=>(XS (fX.2.2.1,fX.1,(fX.2.1),fX.2.2.2) (g76.2,g76.1) rfl rfl))) λg78 x77=>(XS ((some bY),x77.1,x77.2.1,(x77.2.2.1),x77.2.2.2) (g78.1,g78.2) rfl rfl))) λg79 x80=>(Xw ZO)))))⟩⟩
def GB:=SO.1
theorem Y6:FnScope ["_law_lows","_law_signs","_law_strands","_law_seen","_law_walks","_law_start","_law_walk","_law_at","_law_k"] ["_law_lows","_law_signs","_law_strands"] (Xg Gu):={}
abbrev Ft (m:(List Int)->(List Int)->Int->Rs QLs):Prop:=Fn P w K mg base 1 "_law_traced" ["_law_lows","_law_signs","_law_strands"] (sp3 (rV Xf) (rV Xf) Xf oLL m K)
def FH:{m // Pq λP w K mg base=>Def K mg "_law_traced" Gu ["_law_lows","_law_signs","_law_strands"]->Ft P w K mg base m}:=⟨_, @λP w K mg base Z D=>go3 D Y6 6 3 rfl rfl λhr hu ar=>⟨_,(Xb (psn Y6 3 (Xj Dp (Xt (Xa Up Xd)) (pv 2)))
  (Xb (psn Y6 4 (Xt Xd))
  (Xb (psf (Xy rfl Z.b_range (Xa (pv 2) Xd)) (pgn Y6 5)
   (Xb (XU (K9 (Ja (Xl K (pv 3) (pv 5))))
    (Xb (psn Y6 6 (Xt Xd))
    (Xb (psn Y6 7 (pv 5))
    (Xb (EB PassesOwn.never (K9 (Ja (Xl K (pv 3) (pv 7))))
     (Xb (Q1 Up (Um (pv 3) (pv 7) Z5))
     (Xb (psf (Xy rfl Z.b_range (Xa (Ys K Z.b_len (Xa (pv 0) Xd)) Xd)) (pgn Y6 8)
      (Xb (XU (Xk YT (pv 7) (Xl K (pv 0) (pv 8)) (Xr _))
       (Xb (XA (Ze PySem.F.plainAttrs_list PySem.F.slot_list_append PySem.F.type_list_append XE (pv 6) (Xa (Xj Ya (Xj Xz (pv 8) Xc) (Xl K (pv 1) (pv 8))) Xd)))
       (Xb (psn Y6 7 (Xj Xz (pv 7) Xc))
       Xe))
       (Xb (XU (Xk YT (pv 7) (Xj Xz (Xl K (pv 0) (pv 8)) Xc) (Xr _))
        (Xb (XA (Ze PySem.F.plainAttrs_list PySem.F.slot_list_append PySem.F.type_list_append XE (pv 6) (Xa (Xj Ya (ZE YG (Xj Xz (pv 8) Xc)) (Xl K (pv 1) (pv 8))) Xd)))
        (Xb (psn Y6 7 (Xj Qu (pv 7) Xc))
        Xe))
        Xe)
       Xe))
      Xe))
     Xe)))
    (Xb (XA (Ze PySem.F.plainAttrs_list PySem.F.slot_list_append PySem.F.type_list_append XE (pv 4) (Xa (pv 6) Xd)))
    Xe))))
    Xe)
   Xe))
  (Xb (Xu (pv 4))
  Xe)))),λac ae aD aq aB bR=>(YE K 1 qN λa1 v2 C3=>(YE K (o:=oLL) 0 (ZZ (o:=oLi)) λa9 fA C11=>(Qr K (λO (aC:Option V×Option V×Option V×V×Option V×V×List XD×List XD)=>[aC.2.2.2.2.2.2.2,aC.2.2.2.2.2.2.1,[]]) (λs aC=>[some ac,some ae,some aD,some aC.2.2.2.1,some aC.2.2.2.2.2.1,aC.1,aC.2.1,aC.2.2.1,aC.2.2.2.2.1]) (λS (dM:(List Bool)×QLs) aC=>(SC.addO (SC.addO S K (oL (oF XO)) aC.2.2.2.1 dM.1 aC.2.2.2.2.2.2.1) K oLL aC.2.2.2.2.2.1 dM.2 aC.2.2.2.2.2.2.2)) (λ_=>tg1 5) ((none),(none),(none),v2,(none),fA,C3,C11) (a1,a9) qw rfl rfl (λ_ s=>(SC.i (SC.i s s.l.r) s.r)) (λdb ba cO bY=>(Y4 (λO (bu:Option V×Option V×V×Option V×V×List XD×List XD)=>[bu.2.2.2.2.2.2,bu.2.2.2.2.2.1,[]]) (λs bu=>[some ac,some ae,some aD,some bu.2.2.1,some bu.2.2.2.2.1,some bY,bu.1,bu.2.1,bu.2.2.2.1]) (λS (fV:(List Bool)×QLs) bu=>(SC.addO (SC.addO S K (oL (oF XO)) bu.2.2.1 fV.1 bu.2.2.2.2.2.1) K oLL bu.2.2.2.2.1 fV.2 bu.2.2.2.2.2.2)) (X2 (qt K) (YE K (o:=oLi) 2 (ZZ (o:=(oF Xf))) λa25 gB C27=>(X6 K qS λa28 iR=>(O8 (λO (bP:V×Option V×V×V×List XD×List XD)=>[ba.2.2.2.2.2.2.2,bP.2.2.2.2.1,bP.2.2.2.2.2]) (λs bP=>[some ac,some ae,some aD,some bP.1,some ba.2.2.2.2.2.1,some bY,some bP.2.2.2.1,some bP.2.2.1,bP.2.1]) (λS (gr:(List Bool)×Int×(List Int)) bP=>(SC.addO (SC.add (SC.addO S K (oL (oF XO)) bP.1 gr.1 bP.2.2.2.2.1) K Xf bP.2.2.1 gr.2.1) K oLi bP.2.2.2.1 gr.2.2 bP.2.2.2.2.2)) (bR.natAbs+2) (ba.2.2.2.1,(ba.2.2.2.2.1),iR,gB,ba.2.2.2.2.2.2.1,C27) (db.1,a28,a25) rfl rfl (λ_ s=>(SC.i (SC.i (SC.i s s.l.l.l.l.r) s.r) s.l.r)) (λfT c8=>(qt K)) (λfT c8=>(Gf K qM (λ_=>qB) λa39 C40=>(Qr K (λO (dr:Option V×V×V×List XD)=>[ba.2.2.2.2.2.2.2,C40,dr.2.2.2]) (λs dr=>[some ac,some ae,some aD,some c8.1,some ba.2.2.2.2.2.1,some bY,some dr.2.2.1,some dr.2.1,dr.1]) (λS (jI:Int×(List Int)) dr=>(SC.addO (SC.add S K Xf dr.2.1 jI.1) K oLi dr.2.2.1 jI.2 dr.2.2.2)) (λ_=>tg1 8) ((c8.2.1),c8.2.2.1,c8.2.2.2.1,c8.2.2.2.2.2) (fT.2.1,fT.2.2) qw rfl rfl (λ_ s=>(SC.i (SC.i s s.l.l.r) s.l.r)) (λfY fZ a47 jJ=>(Y4 (λO (cg:V×V×List XD)=>[ba.2.2.2.2.2.2.2,C40,cg.2.2]) (λs cg=>[some ac,some ae,some aD,some c8.1,some ba.2.2.2.2.2.1,some bY,some cg.2.1,some cg.1,some jJ]) (λS (gx:Int×(List Int)) cg=>(SC.addO (SC.add S K Xf cg.1 gx.1) K oLi cg.2.1 gx.2 cg.2.2)) (X2 (qt K) (K7 K qM λa64 iS=>(X6 K qS λa65 v66=>(XS (v66,fZ.2.2.1,iS) (a65,a64) rfl rfl))) (Y4 (λO (bZ:V×V×List XD)=>[ba.2.2.2.2.2.2.2,C40,bZ.2.2]) (λs bZ=>[some ac,some ae,some aD,some c8.1,some ba.2.2.2.2.2.1,some bY,some bZ.2.1,some bZ.1,some jJ]) (λS (jK:Int×(List Int)) bZ=>(SC.addO (SC.add S K Xf bZ.1 jK.1) K oLi bZ.2.1 jK.2 bZ.2.2)) (X2 (qt K) (K7 K qM λa87 C86=>(X6 K qS λa88 v89=>(XS (v89,fZ.2.2.1,C86) (a88,a87) rfl rfl))) (XS (fZ.2.1,fZ.2.2.1,fZ.2.2.2) (fY.1,fY.2) rfl rfl)) λg93 x92=>(XS (x92.1,x92.2.1,x92.2.2) (g93.1,g93.2) rfl rfl))) λg95 x94=>(XS ((some jJ),x94.1,x94.2.1,x94.2.2) (g95.1,g95.2) rfl rfl))) λg96 x97=>(XS (c8.1,(x97.1),x97.2.1,x97.2.2.1,C40,x97.2.2.2) (a39,g96.1,g96.2) rfl rfl)))) λg99 fj=>(K7 K ZO λa103 ie=>(XS ((some fj.2.2.2.1),(some fj.2.2.1),fj.1,(fj.2.1),ba.2.2.2.2.2.1,fj.2.2.2.2.1,ie) (g99.1,a103) rfl rfl))))) (XS ((ba.2.1),(ba.2.2.1),ba.2.2.2.1,(ba.2.2.2.2.1),ba.2.2.2.2.2.1,ba.2.2.2.2.2.2.1,ba.2.2.2.2.2.2.2) (db.1,db.2) rfl rfl)) λjL dt=>(XS ((some bY),(dt.1),(dt.2.1),dt.2.2.1,(dt.2.2.2.1),dt.2.2.2.2.1,dt.2.2.2.2.2.1,dt.2.2.2.2.2.2) (jL.1,jL.2) rfl rfl))) λg106 x107=>(Xw ZO))))⟩⟩
def UB:=FH.1
theorem X4:FnScope ["_law_walks","_law_signs","_law_some","_law_behind","_law_k","_law_one","_law_found","_law_sign","_law_far"] ["_law_walks","_law_signs","_law_some"] (Xg Zi):={}
abbrev JV (m:QLs->(List Int)->(List Int)->Rs QDr):Prop:=Fn P w K mg base 1 "_law_turn_back" ["_law_walks","_law_signs","_law_some"] (AZ oLL (rV Xf) (rV Xf) (oT2 oLL (oL (oF (rP2 Xf Xf)))) m K)
def Ve:{m // Pq λP w K mg base=>Def K mg "_law_turn_back" Zi ["_law_walks","_law_signs","_law_some"]->JV P w K mg base m}:=⟨_, @λP w K mg base Z D=>by
 refine Vh D X4 (λvs H Q E h=>?_) (λf aj A outer s H vs Q E hr h=>?_)
 ·obtain⟨ac,ae,aD,aq,aB,bR,b,rfl,_⟩:=h;rfl
 obtain⟨ac,ae,aD,aq,aB,bR,b,rfl,iT,hw,cB,cW,f6,hm,q⟩:=h
 have hu:=hu8 hr
 have ar:=JS hr
 refine⟨_,(Xb (psn X4 3 Fk)
  (Xb (psf (Xy rfl Z.b_range (Xa (Ys K Z.b_len (Xa (pv 0) Xd)) Xd)) (pgn X4 4)
   (Xb (XU (Xk YT (Xl K (pv 2) (Xj Xz Xc (pv 4))) Xc (Xr _))
    (Xb (Q1 (DO K rfl (Xl K (pv 0) (pv 4)) (ZE YG Xc)) (Um (pv 0) (pv 4) Z5))
    (Xb (psf (Xq (K:=K) rfl (Xl K (pv 0) (pv 4))) (pgn X4 5)
     (Xb (Vb ar (pv 3) (pv 5) Up rfl)
     Xe))
    Xe))
    Xe)
   Xe))
  (Xb (psn X4 6 (Xt Xd))
  (Xb (psf (Xy rfl Z.b_range (Xa (Ys K Z.b_len (Xa (pv 1) Xd)) Xd)) (pgn X4 4)
   (Xb (psn X4 7 (Xl K (pv 1) (pv 4)))
   (Xb (XU (Xk Do (O2 (HD ar (Xj Xz (pv 4) Xc) (pv 3))) (O2 (HD ar (Xj Qu (ZE YG (pv 4)) Xc) (pv 3))) (Xr _))
    (Xb (psn X4 7 (ZE YG (pv 7)))
    Xe)
    Xe)
   (Xb (XA (Ze PySem.F.plainAttrs_list PySem.F.slot_list_append PySem.F.type_list_append XE (pv 6) (Xa (Yn (Xa (Xj Xz (pv 4) Xc) (Xa (pv 7) Xd))) Xd)))
   Xe))))
  (Xb (Ud (i:=8) X4.nd rfl (Or.inr rfl) (Xl K (Xt (Xa Xc (Xa Xc (Xa (Xj VC Xc Xc) Xd)))) (Xl K (pv 2) (ZE YG Xc))))
  (Xb (J0 0 (Xg Zi) ["_law_walks","_law_signs","_law_some","_law_behind","_law_k","_law_one","_law_found","_law_sign","_law_far"] ["_law_walk"] [(8,"_law_far")] rfl X4.nd rfl rfl (Xq (K:=K) rfl (pv 0)) (Yc (by decide)) (λcl C s H ex E=>⟨XC (i:=0) (show List.Nodup (["_law_walk","_law_far"]:List Str) by decide+kernel) rfl (Or.inl rfl),YJ,(G5 (sc:=(Tk Lv (Xg Zi))) (N0:=["_law_walk","_law_far"]) (tns:=["_law_one"]) (caps:=[(1,"_law_far")]) rfl (Xq (K:=K) rfl (pv 0)) (Yc (by decide)) (λcl C s H ex E=>⟨XC (i:=0) (show List.Nodup (["_law_one","_law_far"]:List Str) by decide+kernel) rfl (Or.inl rfl),YJ,(Xj Ya (pv 0) (pv 1))⟩))⟩))
  (Xb (Xu (Yn (Xa (pv 0) (Xa (Yk (sc:=(Xg Zi)) (N0:=["_law_walks","_law_signs","_law_some","_law_behind","_law_k","_law_one","_law_found","_law_sign","_law_far"]) (tns:=["_law_one","_law_sign"]) (caps:=[(8,"_law_far")]) rfl (Xq (K:=K) rfl (pv 6)) (C0 (by decide) (by decide)) (λcl C s H ex E=>⟨GF K rfl rfl (Xs (XC (i:=0) (show List.Nodup (["_law_one","_law_sign","_law_far"]:List Str) by decide+kernel) rfl (Or.inl rfl)) (Xs (XC (i:=1) (show List.Nodup (["_law_one","_law_sign","_law_far"]:List Str) by decide+kernel) rfl (Or.inl rfl)) YD)),YJ,(Yn (Xa (Xj Ya (pv 0) (pv 2)) (Xa (pv 1) Xd)))⟩)) Xd))))
  Xe))))))),?_⟩
 refine AS (S:=(SC.add (SC.add (SC.addO SC.nil K oLL ac aq iT) K (rV Xf) ae aB) K (rV Xf) aD bR)) (U:=[some ac,some ae,some aD,none,none,none,none,none,none]) 3 0 (by decide) ?_ hw (SC.i (SC.i (SC.i SC.t cB) cW) f6) hm q rfl
 exact(YE K (o:=(oD XO)) 2 (BF (r:=XO)) λa1 v2 C3=>(Qr K (λO (x6:Option V×V×Option V×V×List XD×List XD)=>[x6.2.2.2.2.1,[],x6.2.2.2.2.2]) (λs x6=>[some x6.2.1,some ae,some aD,some x6.2.2.2.1,x6.1,x6.2.2.1,none,none,none]) (λS (g7:QLs×(List (Int×Bool))) x6=>(SC.addO (SC.addO S K oLL x6.2.1 g7.1 x6.2.2.2.2.1) K (oD XO) x6.2.2.2.1 g7.2 x6.2.2.2.2.2)) (λ_=>tg1 4) ((none),ac,(none),v2,iT,C3) (aq,a1) qw rfl rfl (λ_ s=>(SC.i (SC.i s s.l.l.l.r) s.r)) (λg8 x9 fB bB=>(Y4 (λO (cN:V×Option V×V×List XD×List XD)=>[cN.2.2.2.1,[],cN.2.2.2.2]) (λs cN=>[some cN.1,some ae,some aD,some cN.2.2.1,some bB,cN.2.1,none,none,none]) (λS (gt:QLs×(List (Int×Bool))) cN=>(SC.addO (SC.addO S K oLL cN.1 gt.1 cN.2.2.2.1) K (oD XO) cN.2.2.1 gt.2 cN.2.2.2.2)) (X2 (qt K) (Gf K (F5 ql qB) (λ_=>qB) λa28 C29=>(To K (λO (bP:Option V×V×List XD)=>[C29,[],bP.2.2]) (λs bP=>[some x9.2.1,some ae,some aD,some bP.2.1,some bB,bP.1,none,none,none]) (λS (gr:(List (Int×Bool))) bP=>(SC.addO S K (oD XO) bP.2.1 gr bP.2.2)) (r:=Xf) qB (λ_=>tg1 5) ((x9.2.2.1),x9.2.2.2.1,x9.2.2.2.2.2) (g8.2) (λ_=>rfl) rfl rfl (λ_ s=>(SC.i s s.l.l.r)) (λfT c8 a34 jG=>(Cj K qS qB λa38 jF=>(XS ((some jG),c8.2.1,jF) (a38) rfl rfl))) λiQ x41=>(XS (x9.2.1,(x41.1),x41.2.1,C29,x41.2.2) (a28,iQ) rfl rfl))) (XS (x9.2.1,(x9.2.2.1),x9.2.2.2.1,x9.2.2.2.2.1,x9.2.2.2.2.2) (g8.1,g8.2) rfl rfl)) λfY cr=>(XS ((some bB),cr.1,(cr.2.1),cr.2.2.1,cr.2.2.2.1,cr.2.2.2.2) (fY.1,fY.2) rfl rfl))) λg46 bL=>(YE K (o:=(oL (oF (rP2 Xf Xf)))) 1 (ZZ (o:=(oF (rP2 Xf Xf)))) λa48 gD C50=>(Qr K (λO (dZ:Option V×Option V×V×List XD)=>[bL.2.2.2.2.1,dZ.2.2.2,bL.2.2.2.2.2]) (λs dZ=>[some bL.2.1,some ae,some aD,some bL.2.2.2.1,dZ.1,bL.2.2.1,some dZ.2.2.1,dZ.2.1,none]) (λS (g54:QPs) dZ=>(SC.addO S K (oL (oF (rP2 Xf Xf))) dZ.2.2.1 g54 dZ.2.2.2)) (λ_=>tg1 4) ((bL.1),(none),gD,C50) (a48) qw rfl rfl (λ_ s=>(SC.i s s.r)) (λgx x56 a57 v58=>(X6 K qS λa59 v60=>(Y4 (λO (fX:V)=>[bL.2.2.2.2.1,x56.2.2.2,bL.2.2.2.2.2]) (λs fX=>[some bL.2.1,some ae,some aD,some bL.2.2.2.1,some v58,bL.2.2.1,some x56.2.2.1,some fX,none]) (λS (g76:Int) fX=>(SC.add S K Xf fX g76)) (X2 (XT (K:=K) (De (Cm qB qB) (Cm qB qB))) (X6 K qS λjM jN=>(XS (jN) (jM) rfl rfl)) (XS (v60) (a59) rfl rfl)) λg81 x80=>(K7 K qM λa88 C87=>(XS ((some v58),(some x80),x56.2.2.1,C87) (a88) rfl rfl))))) λg89 x90=>(X6 K qS λa91 v92=>(YE K (o:=oLL) 0 (Im (K:=K) (o1:=oLL) 0 rfl (λ_ s=>s.l.l.l.l.r) (YL (λ_=>tg1 0) qw (λjO a111 v112=>(YL (λ_=>tg1 0) qw (λC114 a115 v116=>qM))))) λa107 v108 C109=>(Xw (UI ZO λ_=>(Im (K:=K) (o1:=(oL (oF (rP2 Xf Xf)))) 2 rfl (λ_ s=>s.l.l.r) (YL (λ_=>tg2 0 1) qw (λC120 a121 v122=>qM)))))))))))⟩
def QV:=Ve.1
theorem Zc:FnScope ["_law_script","_law_place","_law_sizes","_law_some","_law_signs","_law_lows","_law_left","_law_strands","_law_k","_law_walks","_law_at","_law_passage"] ["_law_script","_law_place"] (Xg GQ):={}
abbrev Bw (m:(List Int)->Int->Rs QDr):Prop:=Fn P w K mg base 3 "_law_begun" ["_law_script","_law_place"] (sp2 (rL Xf) Xf (oT2 oLL (oL (oF (rP2 Xf Xf)))) m K)
def Cd:{m // Pq λP w K mg base=>Def K mg "_law_begun" GQ ["_law_script","_law_place"]->Hl P w K mg base GB->Ft P w K mg base UB->JV P w K mg base QV->Bw P w K mg base m}:=⟨_, @λP w K mg base Z D aQ b4 bi=>go2 D Zc 10 4 rfl rfl λhr hu ar=>⟨_,(Xb (psn Zc 2 (Xj Qg (Xj Qg (Xt (Xa Xc (Xa Xc (Xa Xc (Xa Xc Xd))))) (Xj Dp (Xt (Xa Xc Xd)) Xc)) (Xj Dp (Xt (Xa Xc (Xa Xc (Xa Xc (Xa Xc (Xa Xc (Xa Xc Xd))))))) Xc)))
  (Xb (psn Zc 3 (pef aQ hr (Xa (pv 0) (Xa (pv 1) (Xa (Xj Qg (pv 2) (Xt (Xa Xc Xd))) Xd)))))
  (Xb (Mm (i:=4) (j:=5) (k:=6) rfl Zc.nd rfl rfl rfl (by decide) (by decide) (by decide) rfl rfl rfl (Xa (Xt Xd) (Xa (Xt Xd) (Xa (Xt Xd) Xd XX) XX) XX) rfl)
  (Xb (psn Zc 7 (Xj Xz Xc (Xl K (pv 3) Xc)))
  (Xb (psf (Xy rfl Z.b_range (Xa (Xl K (pv 3) Xc) Xd)) (pgn Zc 8)
   (Xb (XA (Ze PySem.F.plainAttrs_list PySem.F.slot_list_append PySem.F.type_list_append XE (pv 5) (Xa (Xj Yb (Xl K (pv 3) (Xj Xz (Xj Ya Xc (pv 8)) Xc)) (Xj Qu (pv 7) Xc)) Xd)))
   (Xb (XA (Ze PySem.F.plainAttrs_list PySem.F.slot_list_append PySem.F.type_list_append XE (pv 4) (Xa (Xj Qu (Xj Ya Xc (Xl K (pv 3) (Xj Xz (Xj Ya Xc (pv 8)) Xc))) Xc) Xd)))
   (Xb (XA (Ze PySem.F.plainAttrs_list PySem.F.slot_list_extend PySem.F.type_list_extend DT (pv 6) (Xa (Xt (Xa (Xj Xz (pv 8) Xc) (Xa (Xj Qu (ZE YG (pv 8)) Xc) Xd))) Xd XX)))
   Xe))))
  (Xb (XU (PW.pt (HX (Xk FX (Xl K (pv 3) Xc) Xc (Xr _)) (BD (Xk FX (pv 7) Xc (Xr _)))))
   (Xb (Q1 (XI (Zq K rfl) (Xt (Xa Xc (Xa Xc (Xa Xc Xd)))) Yd (XJ (Ys K Z.b_len (Xa (pv 5) Xd)))) (Ax (pv 5) Yd (XJ Xc)))
   Xe)
   Xe)
  (Xb (psn Zc 9 (pef b4 hr (Xa (pv 5) (Xa (pv 4) (Xa (pv 7) Xd)))))
  (Xb (XU (Xk YT (Xl K (pv 3) Xc) Xc (Xr _))
   (Xb (J0 9 (Xg GQ) ["_law_script","_law_place","_law_sizes","_law_some","_law_signs","_law_lows","_law_left","_law_strands","_law_k","_law_walks","_law_at","_law_passage"] ["_law_k"] [] rfl Zc.nd rfl rfl (Xy rfl Z.b_range (Xa (pv 7) Xd)) (Yc (by decide)) (λcl C s H ex E=>⟨XC (i:=0) (show List.Nodup (["_law_k"]:List Str) by decide+kernel) rfl (Or.inl rfl),YJ,(Xt Xd)⟩))
   (Xb (psf (Xy rfl Z.b_range (Xa (Xj Ya Xc (Xl K (pv 3) Xc)) Xd)) (pgn Zc 8)
    (Xb (psn Zc 10 (Xj Xz (Xj Xz (Xj Ya Xc (Xj Gv (pv 8) Xc)) (Xj Yb (pv 8) Xc)) Xc))
    (Xb (psn Zc 11 (Ze PySem.F.plainAttrs_list PySem.F.slot_list_pop PySem.F.type_list_pop Nw (pv 6) (Xa (Xj Yb (Xl K (pv 3) (pv 10)) (Ys K Z.b_len (Xa (pv 6) Xd))) Xd)))
    (Xb (XA (Ze PySem.F.plainAttrs_list PySem.F.slot_list_append PySem.F.type_list_append XE (Xl K (pv 9) (Xj Yb (Xl K (pv 3) (Xj Xz (pv 10) Xc)) (pv 7))) (Xa (pv 11) Xd)))
    Xe))))
   Xe))
   Xe)
  (Xb (Xu (pef bi hr (Xa (pv 9) (Xa (pv 4) (Xa (pv 3) Xd)))))
  Xe))))))))),λac ae aq aB=>(X6 K qS λa1 v2=>(X6 K qS λa36 v37=>(Oc (K:=K) (o1:=(oF Xf)) (o2:=(oF Xf)) (o3:=(oF Xf)) 4 5 6 1 0 2 (Nat.le_of_ble_eq_true rfl) (Nat.le_of_ble_eq_true rfl) (Nat.le_of_ble_eq_true rfl) λv47 jJ gD C50 C51 C52=>(X6 K qS λa53 v54=>(Qr K (λO (de:Option V×V×V×V×List XD×List XD×List XD)=>[de.2.2.2.2.1,de.2.2.2.2.2.1,de.2.2.2.2.2.2,[]]) (λs de=>[some ac,some ae,some v2,some v37,some de.2.2.1,some de.2.1,some de.2.2.2.1,some v54,de.1,none,none,none]) (λS (fE:(List Int)×(List Int)×(List Int)) de=>(SC.addO (SC.addO (SC.addO S K oLi de.2.1 fE.1 de.2.2.2.2.1) K oLi de.2.2.1 fE.2.1 de.2.2.2.2.2.1) K oLi de.2.2.2.1 fE.2.2 de.2.2.2.2.2.2)) (λ_=>tg1 8) ((none),jJ,v47,gD,C51,C50,C52) (([]:(List Int)),([]:(List Int)),([]:(List Int))) qw rfl rfl (λ_ s=>(SC.i (SC.i (SC.i s s.l.l.r) s.l.l.l.r) s.l.r)) (λg64 x65 a66 v67=>(K7 K qM λa80 C79=>(K7 K qM λa93 C92=>(qh K qN λig C105=>(XS ((some v67),x65.2.1,x65.2.2.1,x65.2.2.2.1,C79,C92,C105) (a80,a93,ig) rfl rfl))))) λjP bj=>(Y4 (λO (d3:V×List XD)=>[d3.2,bj.2.2.2.2.2.1,bj.2.2.2.2.2.2,[]]) (λs d3=>[some ac,some ae,some v2,some v37,some bj.2.2.1,some d3.1,some bj.2.2.2.1,some v54,bj.1,none,none,none]) (λS (jQ:(List Int)) d3=>(SC.addO S K oLi d3.1 jQ d3.2)) (X2 (qt K) (Og (K:=K) 5 0 rfl rfl (λ_ s=>s.l.l.r) qN (λ_=>(qp K)) (λ_=>(qp K)) λa131 C132=>(XS (bj.2.1,C132) (a131) rfl rfl)) (XS (bj.2.1,bj.2.2.2.2.1) (jP.1) rfl rfl)) λg137 x136=>(YE K 3 qN λa138 v139 C140=>(Y4 (λO (ci:V×Option V×Option V×Option V×Option V×List XD)=>[x136.2,bj.2.2.2.2.2.1,[],ci.2.2.2.2.2]) (λs ci=>[some ac,some ae,some v2,some v37,some bj.2.2.1,some x136.1,ci.2.2.2.2.1,some v54,ci.2.1,some ci.1,ci.2.2.1,ci.2.2.2.1]) (λS (g151:QLs) ci=>(SC.addO S K oLL ci.1 g151 ci.2.2.2.2.2)) (X2 (qt K) (YE K (o:=oLL) 3 (YL (λ_=>tg1 0) qw (λC156 a157 jR=>(ZZ (o:=(oF Xf))))) λa152 v153 C154=>(Qr K (λO (bH:Option V×Option V×Option V×V×V×List XD×List XD)=>[x136.2,bj.2.2.2.2.2.1,bH.2.2.2.2.2.1,bH.2.2.2.2.2.2]) (λs bH=>[some ac,some ae,some v2,some v37,some bj.2.2.1,some x136.1,some bH.2.2.2.1,some v54,bH.1,some bH.2.2.2.2.1,bH.2.1,bH.2.2.1]) (λS (jS:(List Int)×QLs) bH=>(SC.addO (SC.addO S K oLi bH.2.2.2.1 jS.1 bH.2.2.2.2.2.1) K oLL bH.2.2.2.2.1 jS.2 bH.2.2.2.2.2.2)) (λ_=>tg1 8) ((bj.1),(none),(none),bj.2.2.2.1,v153,bj.2.2.2.2.2.2,C154) (jP.2.2,a152) qw rfl rfl (λ_ s=>(SC.i (SC.i s s.l.l.l.r) s.r)) (λg167 jT a169 v170=>(X6 K qS λa171 v172=>(qQ K qB λa188 a189 v190 C191=>(NI (K:=K) (r:=Xf) 9 3 rfl rfl (λ_ s=>s.l.l.l.l.r) qS qB λa203 C204=>(XS ((some v170),(some v172),(some v190),jT.2.2.2.1,jT.2.2.2.2.1,C191,C204) (a189,a203) rfl rfl))))) λg205 d6=>(BH 2 (XS (d6.2.2.2.2.1,(d6.1),(d6.2.1),(d6.2.2.1),(some d6.2.2.2.1),d6.2.2.2.2.2.2) (g205.2) rfl rfl)))) (BH 2 (XS (v139,(bj.1),(none),(none),(some bj.2.2.2.1),C140) (a138) rfl rfl))) λg209 x208=>(MT (K:=K) (o:=oLi) 1 rfl (λ_ s=>s.l.l.l.l.r) (Oi (K:=K) (q:=oLL) 9 3 rfl rfl (λ_ s=>s.l.r) qS qS))))))))))⟩⟩
def GN:=Cd.1
theorem Us:FnScope ["_law_walks","_law_found","_law_at","_law_k"] ["_law_walks"] (Xg C4):={}
abbrev Bk (m:QLs->Rs (List (Int×Int×Int×Int))):Prop:=Fn P w K mg base 1 "_law_pairs" ["_law_walks"] (sp1 rVV (oL (oF (rP4 Xf Xf Xf Xf))) m K)
def BN:{m // Pq λP w K mg base=>Def K mg "_law_pairs" C4 ["_law_walks"]->Bk P w K mg base m}:=⟨_, @λP w K mg base Z D=>go1 D Us 3 1 rfl rfl λhr hu ar=>⟨_,(Xb (psn Us 1 (Xt Xd))
  (Xb (psf (Xy rfl Z.b_range (Xa (Ys K Z.b_len (Xa (pv 0) Xd)) Xd)) (pgn Us 2)
   (Xb (psf (Xy rfl Z.b_range (Xa (Xj Qu (Ys K Z.b_len (Xa (Xl K (pv 0) (pv 2)) Xd)) Xc) Xd)) (pgn Us 3)
    (Xb (XA (Ze PySem.F.plainAttrs_list PySem.F.slot_list_append PySem.F.type_list_append XE (pv 1) (Xa (Yn (Xa (pv 2) (Xa (pv 3) (Xa (Xl K (Xl K (pv 0) (pv 2)) (pv 3)) (Xa (Xl K (Xl K (pv 0) (pv 2)) (Xj Xz (pv 3) Xc)) Xd))))) Xd)))
    Xe))
   Xe))
  (Xb (Xu (pv 1))
  Xe))),λac aq=>(YE K (o:=(oL (oF (rP4 Xf Xf Xf Xf)))) 0 (ZZ (o:=(oF (rP4 Xf Xf Xf Xf)))) λa1 v2 C3=>(Qr K (λO (x6:Option V×Option V×V×List XD)=>[x6.2.2.2]) (λs x6=>[some ac,some x6.2.2.1,x6.1,x6.2.1]) (λS (g7:(List (Int×Int×Int×Int))) x6=>(SC.addO S K (oL (oF (rP4 Xf Xf Xf Xf))) x6.2.2.1 g7 x6.2.2.2)) (λ_=>tg1 2) ((none),(none),v2,C3) (a1) qw rfl rfl (λ_ s=>(SC.i s s.r)) (λg8 x9 fB bB=>(Qr K (λO (bG:Option V×V×List XD)=>[bG.2.2]) (λs bG=>[some ac,some bG.2.1,some bB,bG.1]) (λS (gv:(List (Int×Int×Int×Int))) bG=>(SC.addO S K (oL (oF (rP4 Xf Xf Xf Xf))) bG.2.1 gv bG.2.2)) (λ_=>tg1 3) ((x9.2.1),x9.2.2.1,x9.2.2.2) (g8) qw rfl rfl (λ_ s=>(SC.i s s.l.r)) (λgt bt a22 hZ=>(K7 K (EvS.ev (Fg qS qS qS qS)) λiN jF=>(XS ((some hZ),bt.2.1,jF) (iN) rfl rfl))) λg41 iO=>(XS ((some bB),(iO.1),iO.2.1,iO.2.2) (g41) rfl rfl))) λjI x45=>(Xw ZO)))⟩⟩
def FG:=BN.1
theorem Y1:FnScope ["_law_signs","_law_top","_law_mid","_law_low","_law_a","_law_c","_law_b","_law_p","_law_q","_law_r"] ["_law_signs","_law_top","_law_mid","_law_low"] (Xg VP):={}
abbrev V1 (m:QPs->(Int×Int×Int×Int)->(Int×Int×Int×Int)->(Int×Int×Int×Int)->Rs Bool):Prop:=Fn P w K mg base 1 "_law_straight" ["_law_signs","_law_top","_law_mid","_law_low"] (sp4 (rD Xf) (rP4 Xf Xf Xf Xf) (rP4 Xf Xf Xf Xf) (rP4 Xf Xf Xf Xf) (oF XO) m K)
def VS:{m // Pq λP w K mg base=>Def K mg "_law_straight" VP ["_law_signs","_law_top","_law_mid","_law_low"]->V1 P w K mg base m}:=⟨_, @λP w K mg base Z D=>go4 D Y1 6 0 rfl rfl λhr hu ar=>⟨_,(Xb (psn Y1 4 (ZE YG (XG (UR rfl) rfl Z.b_min PyProof.Rows.boot_min (Xa (Xx K (pv 2) Xc) (Xa (Xx K (pv 2) Xc) Xd)))))
  (Xb (psn Y1 5 (XG (Kt rfl) rfl Z.b_max PyProof.Rows.boot_max (Xa (Xx K (pv 2) Xc) (Xa (Xx K (pv 2) Xc) Xd))))
  (Xb (XU (PW.pt (Bg (Xk Ue (pv 4) (XI (YQ K rfl) (pv 1) (XJ Xc) Yd) rfl) (Gp (Xk Kc (pv 5) (XI (YQ K rfl) (pv 1) (XJ Xc) Yd) rfl))))
   (Xb (Xu Up)
   Xe)
   Xe)
  (Xb (psn Y1 6 (Xj Qu (Xj Xz (Xx K (pv 1) Xc) (Xx K (pv 1) Xc)) (pv 4)))
  (Xb (XU (Xk (CF K rfl (Ov eq_int) (Hi (by decide) hu)) (XG (JQ K rfl) rfl Z.b_sorted PyProof.Rows.boot_sorted (Xa (Xt (Xa (ZE YG (Xx K (pv 3) Xc)) (Xa (ZE YG (Xx K (pv 3) Xc)) Xd))) Xd XX)) (XG (JQ K rfl) rfl Z.b_sorted PyProof.Rows.boot_sorted (Xa (Xt (Xa (pv 6) (Xa (pv 5) Xd))) Xd XX)) (Xr _))
   (Xb (Xu Up)
   Xe)
   Xe)
  (Xb (psn Y1 7 (Xj Qu (Xj Ya Xc (Yj Qw rfl Z.b_int PyProof.Rows.boot_int (Xa (Zg YT (Xx K (pv 1) Xc) (pv 4) (Xr _)) Xd))) Xc))
  (Xb (psn Y1 8 (Xj Qu (Xj Ya Xc (Yj Qw rfl Z.b_int PyProof.Rows.boot_int (Xa (Zg YT (Xx K (pv 2) Xc) (ZE YG (pv 4)) (Xr _)) Xd))) Xc))
  (Xb (psn Y1 9 (Xj Qu (Xj Ya Xc (Yj Qw rfl Z.b_int PyProof.Rows.boot_int (Xa (Zg YT (Xx K (pv 3) Xc) (ZE YG (pv 6)) (Xr _)) Xd))) Xc))
  (Xb (Xu (MH (Zg YT (Xj Ya (pv 7) (J6 ar (pv 0) (pv 6) (λ_ _=>rfl))) (Xj Ya (pv 8) (J6 ar (pv 0) (pv 5) (λ_ _=>rfl))) (Xr _)) (MR (Zg YT (Xj Ya (pv 8) (J6 ar (pv 0) (pv 4) (λ_ _=>rfl))) (Xj Ya (pv 9) (J6 ar (pv 0) (pv 6) (λ_ _=>rfl))) (Xr _)))))
  Xe))))))))),λac ae aD du aq aB bR f7=>(X6 K (r:=Xf) (EvB.sh (GV (Be (Va qB) (GP qB)))) λa1 v2=>(X6 K (r:=Xf) (EvB.sh (I0 (Va qB) (GP qB))) λa8 v9=>(Jb (Ku (XT (K:=K) (Oa qB (Ye (QX qB) (qp K) (qp K)))) (XT (K:=K) (RS qB (Ye (QX qB) (qp K) (qp K))))) (Xw qM) (X6 K (r:=Xf) (EvB.sh (UW (CG (Va qB) (GP qB)) qB)) λjz gA=>(Jb (XT (K:=K) (Cv (Ev.toB (Ez (Ev.ls (Vj (YF (EvB.sh (GV (Va qB))) (YF (EvB.sh (GV (GP qB))) qa)))))) (Ev.toB (Ez ql)))) (Xw qM) (X6 K (r:=Xf) (EvB.sh (UW (Jp qB (Uz (JN (Va qB) qB))) qB)) λjU jV=>(X6 K (r:=Xf) (EvB.sh (UW (Jp qB (Uz (JN (Va qB) qB))) qB)) λa68 v69=>(X6 K (r:=Xf) (EvB.sh (UW (Jp qB (Uz (JN (Va qB) qB))) qB)) λa79 v80=>(Xw (EvS.ev (EvB.sh (Gz (JN (Jp qB (QO qB qB)) (Jp qB (QO qB qB))) (JN (Jp qB (QO qB qB)) (Jp qB (QO qB qB)))))))))))))))⟩⟩
def JA:=VS.1
theorem ZR:FnScope ["_law_drawing","_law_signs","_law_pairs_here","_law_found","_law_top","_law_mid","_law_low"] ["_law_drawing"] (Xg JB):={}
abbrev GX (m:QDr->Rs (List (List Mx))):Prop:=Fn P w K mg base 2 "_law_passes" ["_law_drawing"] (sp1 rDr (oL (oF (rPL rMx))) m K)
def Gs:{m // Pq λP w K mg base=>Def K mg "_law_passes" JB ["_law_drawing"]->Bk P w K mg base FG->V1 P w K mg base JA->GX P w K mg base m}:=⟨_, @λP w K mg base Z D cG bw=>go1 D ZR 6 1 rfl rfl λhr hu ar=>⟨_,(Xb (psn ZR 1 (Yj (Z6 K rfl rfl) rfl Z.b_dict PyProof.Rows.boot_dict (Xa (Xx K (pv 0) Xc) Xd)))
  (Xb (psn ZR 2 (pef cG hr (Xa (Xx K (pv 0) Xc) Xd)))
  (Xb (psn ZR 3 (Xt Xd))
  (Xb (psf (Xq (K:=K) rfl (Yk (sc:=(Xg JB)) (N0:=["_law_drawing","_law_signs","_law_pairs_here","_law_found","_law_top","_law_mid","_law_low"]) (tns:=["_law_one"]) (caps:=[]) rfl (Xq (K:=K) rfl (pv 2)) (Yc (by decide)) (λcl C s H ex E=>⟨XC (i:=0) (show List.Nodup (["_law_one"]:List Str) by decide+kernel) rfl (Or.inl rfl),(QD (Xk FX (XG (F9 K rfl rfl) rfl Z.b_min PyProof.Rows.boot_min (Xa (XI (YQ K rfl) (pv 0) (XJ Xc) Yd) Xd)) Xc (Xr _))),(pv 0)⟩))) (pgn ZR 4)
   (Xb (psf (Xq (K:=K) rfl (Yk (sc:=(Xg JB)) (N0:=["_law_drawing","_law_signs","_law_pairs_here","_law_found","_law_top","_law_mid","_law_low"]) (tns:=["_law_one"]) (caps:=[]) rfl (Xq (K:=K) rfl (pv 2)) (Yc (by decide)) (λcl C s H ex E=>⟨XC (i:=0) (show List.Nodup (["_law_one"]:List Str) by decide+kernel) rfl (Or.inl rfl),(QD (Of US US (XG (F9 K rfl rfl) rfl Z.b_min PyProof.Rows.boot_min (Xa (XI (YQ K rfl) (pv 0) (XJ Xc) Yd) Xd)) Xc (XG (VE K rfl rfl) rfl Z.b_max PyProof.Rows.boot_max (Xa (XI (YQ K rfl) (pv 0) (XJ Xc) Yd) Xd)))),(pv 0)⟩))) (pgn ZR 5)
    (Xb (psf (Xq (K:=K) rfl (Yk (sc:=(Xg JB)) (N0:=["_law_drawing","_law_signs","_law_pairs_here","_law_found","_law_top","_law_mid","_law_low"]) (tns:=["_law_one"]) (caps:=[]) rfl (Xq (K:=K) rfl (pv 2)) (Yc (by decide)) (λcl C s H ex E=>⟨XC (i:=0) (show List.Nodup (["_law_one"]:List Str) by decide+kernel) rfl (Or.inl rfl),(QD (Xk US (XG (VE K rfl rfl) rfl Z.b_max PyProof.Rows.boot_max (Xa (XI (YQ K rfl) (pv 0) (XJ Xc) Yd) Xd)) Xc (Xr _))),(pv 0)⟩))) (pgn ZR 6)
     (Xb (XU (Ja (pef bw hr (Xa (pv 1) (Xa (pv 4) (Xa (pv 5) (Xa (pv 6) Xd))))))
      (Xb (XA (Ze PySem.F.plainAttrs_list PySem.F.slot_list_append PySem.F.type_list_append XE (pv 3) (Xa (Xj (Uv K rfl) (Xj (Uv K rfl) (Xj (Uv K rfl) (Yn (Xa Yy Xd)) (XI (YQ K rfl) (pv 4) Yd (XJ Xc))) (XI (YQ K rfl) (pv 5) Yd (XJ Xc))) (XI (YQ K rfl) (pv 6) Yd (XJ Xc))) Xd)))
      Xe)
      Xe)
     Xe))
    Xe))
   Xe))
  (Xb (Xu (pv 3))
  Xe))))),λac aq=>(X6 K (r:=(rD Xf)) (Ev.sh (UJ ql)) λa1 v2=>(X6 K qS λa5 v6=>(YE K (o:=(oL (oF (rPL rMx)))) 0 (ZZ (o:=(oF (rPL rMx)))) λfB bB jA=>(Qr K (λO (bD:Option V×Option V×Option V×V×List XD)=>[bD.2.2.2.2]) (λs bD=>[some ac,some v2,some v6,some bD.2.2.2.1,bD.1,bD.2.1,bD.2.2.1]) (λS (fW:(List (List Mx))) bD=>(SC.addO S K (oL (oF (rPL rMx))) bD.2.2.2.1 fW bD.2.2.2.2)) (λ_=>tg1 4) ((none),(none),(none),bB,jA) (fB) (Zu (Ev.sh (Z4 (λ_=>tg1 0) qw (λC13 cM eG=>(XT (K:=K) (OJ (FN (Ye (QX qB) (qp K) (qp K))) qB))) (λC13 cM eG=>qM)))) rfl rfl (λ_ s=>(SC.i s s.r)) (λg26 bM a28 iR=>(Qr K (λO (bL:Option V×Option V×V×List XD)=>[bL.2.2.2]) (λs bL=>[some ac,some v2,some v6,some bL.2.2.1,some iR,bL.1,bL.2.1]) (λS (g48:(List (List Mx))) bL=>(SC.addO S K (oL (oF (rPL rMx))) bL.2.2.1 g48 bL.2.2.2)) (λ_=>tg1 5) ((bM.2.1),(bM.2.2.1),bM.2.2.2.1,bM.2.2.2.2) (g26) (Zu (Ev.sh (Z4 (λ_=>tg1 0) qw (λC30 dY v32=>(XT (K:=K) (Ld (FN (Ye (QX qB) (qp K) (qp K))) qB (UC (Ye (QX qB) (qp K) (qp K)))))) (λC30 dY v32=>qM)))) rfl rfl (λ_ s=>(SC.i s s.l.r)) (λg49 ic a51 v52=>(Qr K (λO (bS:Option V×V×List XD)=>[bS.2.2]) (λs bS=>[some ac,some v2,some v6,some bS.2.1,some iR,some v52,bS.1]) (λS (g65:(List (List Mx))) bS=>(SC.addO S K (oL (oF (rPL rMx))) bS.2.1 g65 bS.2.2)) (λ_=>tg1 6) ((ic.2.1),ic.2.2.1,ic.2.2.2) (g49) (Zu (Ev.sh (Z4 (λ_=>tg1 0) qw (λC53 gE v55=>(XT (K:=K) (Lb (UC (Ye (QX qB) (qp K) (qp K))) qB))) (λC53 gE v55=>qM)))) rfl rfl (λ_ s=>(SC.i s s.l.r)) (λg66 x67 a68 v69=>(Y4 (λO (bZ:V×List XD)=>[bZ.2]) (λs bZ=>[some ac,some v2,some v6,some bZ.1,some iR,some v52,some v69]) (λS (jK:(List (List Mx))) bZ=>(SC.addO S K (oL (oF (rPL rMx))) bZ.1 jK bZ.2)) (X2 (qt K) (K7 K (EvB.flat (Ux (Ux (Ux (Ev.toB (EvS.ev (JG (r:=rMx) qa))) (Fx (Ye (QX qB) (qp K) (qp K)))) (Fx (Ye (QX qB) (qp K) (qp K)))) (Fx (Ye (QX qB) (qp K) (qp K))))) λa108 C107=>(XS (x67.2.1,C107) (a108) rfl rfl)) (XS (x67.2.1,x67.2.2) (g66) rfl rfl)) λg110 jW=>(XS ((some v69),jW.1,jW.2) (g110) rfl rfl))) λg111 ii=>(XS ((some v52),(ii.1),ii.2.1,ii.2.2) (g111) rfl rfl))) λg114 f8=>(XS ((some iR),(f8.1),(f8.2.1),f8.2.2.1,f8.2.2.2) (g114) rfl rfl))) λjQ b5=>(Xw ZO)))))⟩⟩
def UA:=Gs.1
theorem Le:FnScope ["_law_walks","_law_at","_law_k","_law_one","_law_two"] ["_law_walks","_law_at","_law_k","_law_one","_law_two"] (Xg GR):={}
abbrev GO (m:QLs->Int->Int->Int->Int->Rs QLs):Prop:=Fn P w K mg base 1 "_law_lay_in" ["_law_walks","_law_at","_law_k","_law_one","_law_two"] (A9 oLL Xf Xf Xf Xf m K)
def Gy:{m // Pq λP w K mg base=>Def K mg "_law_lay_in" GR ["_law_walks","_law_at","_law_k","_law_one","_law_two"]->GO P w K mg base m}:=⟨_, @λP w K mg base Z D=>by
 refine Vh D Le (λvs H Q E h=>?_) (λf aj A outer s H vs Q E hr h=>?_)
 ·obtain⟨ac,ae,aD,du,v_4,aq,aB,bR,f7,a_4,b,rfl,_⟩:=h;rfl
 obtain⟨ac,ae,aD,du,v_4,aq,aB,bR,f7,a_4,b,rfl,iT,hw,cB,cW,f6,jX,h_4,hm,q⟩:=h
 have hu:=hu8 hr
 have ar:=JS hr
 refine⟨_,(Xb (Q1 (Xj Qg (Xj Qg (XI (Zq K rfl) (Xl K (pv 0) (pv 1)) Yd (XJ (pv 2))) (Xt (Xa (pv 3) (Xa (pv 4) Xd)))) (XI (Zq K rfl) (Xl K (pv 0) (pv 1)) (XJ (pv 2)) Yd)) (Um (pv 0) (pv 1) Z5))
  Xe),?_⟩
 refine II (S:=(SC.add (SC.add (SC.add (SC.add (SC.addO SC.nil K oLL ac aq iT) K Xf ae aB) K Xf aD bR) K Xf du f7) K Xf v_4 a_4)) (U:=[some ac,some ae,some aD,some du,some v_4]) 1 0 (by decide) ?_ hw (SC.i (SC.i (SC.i (SC.i (SC.i SC.t cB) cW) f6) jX) h_4) hm q (λ_ _=>rfl)
 exact(Gf K qN (λ_=>qB) λa24 C25=>(Lp (K:=K) (q:=oLL) 0 rfl (λ_ s=>s.r)))⟩
def UE:=Gy.1
theorem E5:FnScope ["_law_walks","_law_at","_law_k"] ["_law_walks","_law_at","_law_k"] (Xg KD):={}
abbrev UU (m:QLs->Int->Int->Rs QLs):Prop:=Fn P w K mg base 1 "_law_cut_out" ["_law_walks","_law_at","_law_k"] (A8 oLL Xf Xf m K)
def UX:{m // Pq λP w K mg base=>Def K mg "_law_cut_out" KD ["_law_walks","_law_at","_law_k"]->UU P w K mg base m}:=⟨_, @λP w K mg base Z D=>by
 refine Vh D E5 (λvs H Q E h=>?_) (λf aj A outer s H vs Q E hr h=>?_)
 ·obtain⟨ac,ae,aD,aq,aB,bR,b,rfl,_⟩:=h;rfl
 obtain⟨ac,ae,aD,aq,aB,bR,b,rfl,iT,hw,cB,cW,f6,hm,q⟩:=h
 have hu:=hu8 hr
 have ar:=JS hr
 refine⟨_,(Xb (Q1 (Xj Qg (XI (Zq K rfl) (Xl K (pv 0) (pv 1)) Yd (XJ (pv 2))) (XI (Zq K rfl) (Xl K (pv 0) (pv 1)) (XJ (Xj Xz (pv 2) Xc)) Yd)) (Um (pv 0) (pv 1) Z5))
  Xe),?_⟩
 refine II (S:=(SC.add (SC.add (SC.addO SC.nil K oLL ac aq iT) K Xf ae aB) K Xf aD bR)) (U:=[some ac,some ae,some aD]) 1 0 (by decide) ?_ hw (SC.i (SC.i (SC.i SC.t cB) cW) f6) hm q (λ_ _=>rfl)
 exact(Gf K qN (λ_=>qB) λjD jB=>(Lp (K:=K) (q:=oLL) 0 rfl (λ_ s=>s.r)))⟩
def Vg:=UX.1
theorem Uq:FnScope ["_law_drawing","_law_move","_law_walks","_law_signs","_law_cut","_law_one","_law_two","_law_sign","_law_at","_law_k"] ["_law_drawing","_law_move"] (Xg W1):={}
abbrev Ab (m:QDr->(List Mx)->Rs QDr):Prop:=Fn P w K mg base 2 "_law_do" ["_law_drawing","_law_move"] (sp2 rDr (rPL rMx) (oT2 oLL (oL (oF (rP2 Xf Xf)))) m K)
def Tf:{m // Pq λP w K mg base=>Def K mg "_law_do" W1 ["_law_drawing","_law_move"]->GO P w K mg base UE->UU P w K mg base Vg->Ab P w K mg base m}:=⟨_, @λP w K mg base Z D bn bq=>go2 D Uq 8 2 rfl rfl λhr hu ar=>⟨_,(Xb (J0 2 (Xg W1) ["_law_drawing","_law_move","_law_walks","_law_signs","_law_cut","_law_one","_law_two","_law_sign","_law_at","_law_k"] ["_law_walk"] [] rfl Uq.nd rfl rfl (Xq (K:=K) rfl (Xx K (pv 0) Xc)) (Yc (by decide)) (λcl C s H ex E=>⟨XC (i:=0) (show List.Nodup (["_law_walk"]:List Str) by decide+kernel) rfl (Or.inl rfl),YJ,(Yj (QM K rfl) rfl Z.b_list PyProof.Rows.boot_list (Xa (pv 0) Xd))⟩))
  (Xb (psn Uq 3 (Yj (Z6 K rfl rfl) rfl Z.b_dict PyProof.Rows.boot_dict (Xa (Xx K (pv 0) Xc) Xd)))
  (Xb (XU (PW.pt (HX (Xk YT (Xx K (pv 1) Xc) Yy (Xr _)) (BD (Xk FX (Ys K Z.b_len (Xa (Xl K (pv 2) (Xx K (pv 1) Xc)) Xd)) Xc (Xr _)))))
   (Xb (psn Uq 4 (Xj Yb (Xx K (pv 1) Xc) (Ys K Z.b_len (Xa (Xl K (pv 2) (Xx K (pv 1) Xc)) Xd))))
   (Xb (Q1 (Xj Qg (XI (Zq K rfl) (Xl K (pv 2) (Xx K (pv 1) Xc)) (XJ (pv 4)) Yd) (XI (Zq K rfl) (Xl K (pv 2) (Xx K (pv 1) Xc)) Yd (XJ (pv 4)))) (Um (pv 2) (Xx K (pv 1) Xc) Z5))
   Xe))
   Xe)
  (Xb (XU (Xk YT (Xx K (pv 1) Xc) Yy (Xr _))
   (Xb (psn Uq 5 (Xj Ya (Xx K (pv 1) Xc) (Xl K (Xt (Xa (ZE YG Xc) (Xa Xc Xd))) (Yj Qw rfl Z.b_int PyProof.Rows.boot_int (Xa (Zg YT (Xx K (pv 1) Xc) Yy (Xr _)) Xd)))))
   (Xb (XA (pef bn hr (Xa (pv 2) (Xa (Xx K (pv 1) Xc) (Xa (Xx K (pv 1) Xc) (Xa (pv 5) (Xa (ZE YG (pv 5)) Xd)))))))
   (Xb (Vb ar (pv 3) (Xx K (pv 1) Xc) (Xx K (pv 1) Xc) rfl)
   Xe)))
   Xe)
  (Xb (XU (Xk YT (Xx K (pv 1) Xc) Yy (Xr _))
   (Xb (XA (GU (pv 3) (XG Ol rfl Z.b_abs PyProof.Rows.boot_abs (Xa (Xl K (Xl K (pv 2) (Xx K (pv 1) Xc)) (Xx K (pv 1) Xc)) Xd)) ⟨rfl,rfl,rfl,rfl⟩))
   (Xb (XA (pef bq hr (Xa (pv 2) (Xa (Xx K (pv 1) Xc) (Xa (Xx K (pv 1) Xc) Xd)))))
   Xe))
   Xe)
  (Xb (XU (Xk YT (Xx K (pv 1) Xc) Yy (Xr _))
   (Xb (Mm (i:=5) (j:=6) (k:=7) rfl Uq.nd rfl rfl rfl (by decide) (by decide) (by decide) rfl rfl rfl (Xa (Xx K (pv 1) Xc) (Xa (Xx K (pv 1) Xc) (Xa (Xx K (pv 1) Xc) Xd))) rfl)
   (Xb (XA (pef bn hr (Xa (pv 2) (Xa (Xx K (pv 1) Xc) (Xa (Xx K (pv 1) Xc) (Xa (pv 5) (Xa (pv 6) Xd)))))))
   (Xb (Vb ar (pv 3) (pv 5) (pv 7) rfl)
   (Xb (Vb ar (pv 3) (pv 6) (ZE YG (pv 7)) rfl)
   (Xb (XU (Ja (Xx K (pv 1) Xc))
    (Xb (Ec (i:=5) (j:=6) rfl Uq.nd rfl rfl (by decide) rfl rfl (Xa (pv 6) (Xa (pv 5) Xd)) rfl)
    Xe)
    Xe)
   (Xb (XA (pef bn hr (Xa (pv 2) (Xa (Xx K (pv 1) Xc) (Xa (Xx K (pv 1) Xc) (Xa (ZE YG (pv 5)) (Xa (ZE YG (pv 6)) Xd)))))))
   Xe))))))
   Xe)
  (Xb (XU (Xk YT (Xx K (pv 1) Xc) Yy (Xr _))
   (Xb (XA (GU (pv 3) (Xl K (Xl K (pv 2) (Xx K (pv 1) Xc)) (Xx K (pv 1) Xc)) ⟨rfl,rfl,rfl,rfl⟩))
   (Xb (XA (GU (pv 3) (Xl K (Xl K (pv 2) (Xx K (pv 1) Xc)) (Xj Xz (Xx K (pv 1) Xc) Xc)) ⟨rfl,rfl,rfl,rfl⟩))
   (Xb (psf (Xq (K:=K) rfl (DO K rfl (XG (DW K rfl (Hi (by decide) hu)) rfl Z.b_sorted PyProof.Rows.boot_sorted (Xa (Xt (Xa (XI (YQ K rfl) (pv 1) (XJ Xc) (XJ Xc)) (Xa (XI (YQ K rfl) (pv 1) (XJ Xc) (XJ Xc)) Xd))) Xd XX)) (ZE YG Xc))) (ZJ rfl (Xs (pgn Uq 8) (Xs (pgn Uq 9) YD)))
    (Xb (XA (pef bq hr (Xa (pv 2) (Xa (pv 8) (Xa (pv 9) Xd)))))
    Xe))
   Xe)))
   Xe)
  (Xb (XU (Xk YT (Xx K (pv 1) Xc) Yy (Xr _))
   (Xb (psf (Xq (K:=K) rfl (Xt (Xa (XI (YQ K rfl) (pv 1) (XJ Xc) (XJ Xc)) (Xa (XI (YQ K rfl) (pv 1) (XJ Xc) (XJ Xc)) (Xa (XI (YQ K rfl) (pv 1) (XJ Xc) (XJ Xc)) Xd))))) (ZJ rfl (Xs (pgn Uq 8) (Xs (pgn Uq 9) YD)))
    (Xb (Ec (i:=5) (j:=6) rfl Uq.nd rfl rfl (by decide) rfl rfl (Xa (Xl K (Xl K (pv 2) (pv 8)) (pv 9)) (Xa (Xl K (Xl K (pv 2) (pv 8)) (Xj Xz (pv 9) Xc)) Xd)) rfl)
    (Xb (Q1 (pv 6) (Um (Xl K (pv 2) (pv 8)) (pv 9) Z5))
    (Xb (Q1 (pv 5) (Um (Xl K (pv 2) (pv 8)) (Xj Xz (pv 9) Xc) Z5))
    Xe))))
   Xe)
   Xe)
  (Xb (Xu (Yn (Xa (pv 2) (Xa (DV rfl rfl Z.b_sorted (pv 3) (Hi (by decide) hu)) Xd))))
  Xe))))))))),λac ae aq aB=>(YE K (o:=oLL) 0 (YL (λ_=>tg1 0) qw (λC5 a6 v7=>qN)) λa1 v2 C3=>(YE K (o:=(oD Xf)) 1 (UJ ql) λfB bB jA=>(Y4 (λO (bM:Option V×V×List XD)=>[bM.2.2,jA]) (λs bM=>[some ac,some ae,some bM.2.1,some bB,bM.1,none,none,none,none,none]) (λS (jE:QLs) bM=>(SC.addO S K oLL bM.2.1 jE bM.2.2)) (X2 (qt K) (X6 K qS λjz gA=>(Gf K qN (λ_=>qb) λa62 iS=>(XS ((some gA),v2,iS) (a62) rfl rfl))) (XS ((none),v2,C3) (a1) rfl rfl)) λg65 bS=>(Y4 (λO (cP:Option V×V×V×List XD×List XD)=>[cP.2.2.2.2,cP.2.2.2.1]) (λs cP=>[some ac,some ae,some cP.2.2.1,some cP.2.1,bS.1,cP.1,none,none,none,none]) (λS (ij:QPs×QLs) cP=>(SC.addO (SC.addO S K (oD Xf) cP.2.1 ij.1 cP.2.2.2.1) K oLL cP.2.2.1 ij.2 cP.2.2.2.2)) (X2 (qt K) (X6 K qS λa73 v74=>(KG (K:=K) (q:=oLL) 2 0 rfl rfl (λ_ s=>s.l.r) qs qs qS qS λb101 ie=>(Cj K qs qb λjY jO=>(XS ((some v74),bB,bS.2.1,jO,ie) (jY,b101) rfl rfl)))) (XS ((none),bB,bS.2.1,jA,bS.2.2) (fB,g65) rfl rfl)) λjZ cX=>(Y4 (λO (b5:V×V×List XD×List XD)=>[b5.2.2.2,b5.2.2.1]) (λs b5=>[some ac,some ae,some b5.2.1,some b5.1,bS.1,cX.1,none,none,none,none]) (λS (j2:QPs×QLs) b5=>(SC.addO (SC.addO S K (oD Xf) b5.1 j2.1 b5.2.2.1) K oLL b5.2.1 j2.2 b5.2.2.2)) (X2 (qt K) (CQ (K:=K) (r:=Xf) 3 1 rfl rfl (λ_ s=>s.l.r) qB λa130 C131=>(DU (K:=K) (q:=oLL) 2 0 rfl rfl (λ_ s=>s.l.r) qs qs λb138 C139=>(XS (cX.2.1,cX.2.2.1,C131,C139) (a130,b138) rfl rfl))) (XS (cX.2.1,cX.2.2.1,cX.2.2.2.1,cX.2.2.2.2) (jZ.1,jZ.2) rfl rfl)) λj3 cY=>(Y4 (λO (bI:Option V×Option V×Option V×V×V×List XD×List XD)=>[bI.2.2.2.2.2.2,bI.2.2.2.2.2.1]) (λs bI=>[some ac,some ae,some bI.2.2.2.2.1,some bI.2.2.2.1,bS.1,bI.1,bI.2.1,bI.2.2.1,none,none]) (λS (j4:QPs×QLs) bI=>(SC.addO (SC.addO S K (oD Xf) bI.2.2.2.1 j4.1 bI.2.2.2.2.2.1) K oLL bI.2.2.2.2.1 j4.2 bI.2.2.2.2.2.2)) (X2 (qt K) (Pp (K:=K) 5 6 7 qs qs qs λa155 a156 a157 jR v159 v160=>(KG (K:=K) (q:=oLL) 2 0 rfl rfl (λ_ s=>s.l.l.l.r) qs qs qS qS λb169 C170=>(Cj K qS qB λa173 C174=>(Cj K qS qB λa178 j5=>(Y4 (λO (d7:V×V)=>[C170,j5]) (λs d7=>[some ac,some ae,some cY.2.1,some cY.1,bS.1,some d7.1,some d7.2,some v160,none,none]) (λS (j6:Int×Int) d7=>(SC.add (SC.add S K Xf d7.1 j6.1) K Xf d7.2 j6.2)) (X2 (qt K) (EO (K:=K) 5 6 qS qS λa185 a186 v187 v188=>(XS (v187,v188) (a185,a186) rfl rfl)) (XS (jR,v159) (a155,a156) rfl rfl)) λg190 x189=>(KG (K:=K) (q:=oLL) 2 0 rfl rfl (λ_ s=>s.l.l.l.l.r) qs qs qS qS λb201 C202=>(XS ((some x189.1),(some x189.2),(some v160),cY.1,cY.2.1,j5,C202) (a178,b201) rfl rfl))))))) (XS ((cX.1),(none),(none),cY.1,cY.2.1,cY.2.2.1,cY.2.2.2) (j3.1,j3.2) rfl rfl)) λik aR=>(Y4 (λO (bN:Option V×Option V×V×V×List XD×List XD)=>[bN.2.2.2.2.2,bN.2.2.2.2.1]) (λs bN=>[some ac,some ae,some bN.2.2.2.1,some bN.2.2.1,bS.1,aR.1,aR.2.1,aR.2.2.1,bN.1,bN.2.1]) (λS (j7:QPs×QLs) bN=>(SC.addO (SC.addO S K (oD Xf) bN.2.2.1 j7.1 bN.2.2.2.2.1) K oLL bN.2.2.2.1 j7.2 bN.2.2.2.2.2)) (X2 (qt K) (CQ (K:=K) (r:=Xf) 3 1 rfl rfl (λ_ s=>s.l.r) qB λa221 C222=>(CQ (K:=K) (r:=Xf) 3 1 rfl rfl (λ_ s=>s.r) qB λa234 j8=>(Qr K (λO (cZ:Option V×Option V×V×List XD)=>[cZ.2.2.2,j8]) (λs cZ=>[some ac,some ae,some cZ.2.2.1,some aR.2.2.2.1,bS.1,aR.1,aR.2.1,aR.2.2.1,cZ.1,cZ.2.1]) (λS (g256:QLs) cZ=>(SC.addO S K oLL cZ.2.2.1 g256 cZ.2.2.2)) (λ_=>tg2 8 9) ((none),(none),aR.2.2.2.2.1,aR.2.2.2.2.2.2) (ik.2) (Zu (Ev.sh (F5 (Ev.ls (Nc (Ev.ls (Vj (YF (EvB.sh (Kq qB)) (YF (EvB.sh (Kq qB)) qa)))))) qB))) rfl rfl (λ_ s=>(SC.i s s.l.l.r)) (λg257 x258 a259 v260=>(DU (K:=K) (q:=oLL) 2 0 rfl rfl (λ_ s=>s.l.l.r) qS qS λb263 C264=>(XS ((some v260.1),(some v260.2),x258.2.2.1,C264) (b263) rfl rfl))) λg265 f9=>(XS ((f9.1),(f9.2.1),aR.2.2.2.1,f9.2.2.1,j8,f9.2.2.2) (a234,g265) rfl rfl)))) (XS ((none),(none),aR.2.2.2.1,aR.2.2.2.2.1,aR.2.2.2.2.2.1,aR.2.2.2.2.2.2) (ik.1,ik.2) rfl rfl)) λj9 bO=>(Y4 (λO (cj:Option V×Option V×Option V×Option V×V×List XD)=>[cj.2.2.2.2.2,bO.2.2.2.2.1]) (λs cj=>[some ac,some ae,some cj.2.2.2.2.1,some bO.2.2.1,bS.1,cj.2.2.1,cj.2.2.2.1,aR.2.2.1,cj.1,cj.2.1]) (λS (g276:QLs) cj=>(SC.addO S K oLL cj.2.2.2.2.1 g276 cj.2.2.2.2.2)) (X2 (qt K) (Qr K (λO (ck:Option V×Option V×Option V×Option V×V×List XD)=>[ck.2.2.2.2.2,bO.2.2.2.2.1]) (λs ck=>[some ac,some ae,some ck.2.2.2.2.1,some bO.2.2.1,bS.1,ck.2.2.1,ck.2.2.2.1,aR.2.2.1,ck.1,ck.2.1]) (λS (g300:QLs) ck=>(SC.addO S K oLL ck.2.2.2.2.1 g300 ck.2.2.2.2.2)) (λ_=>tg2 8 9) ((bO.1),(bO.2.1),(aR.1),(aR.2.1),bO.2.2.2.1,bO.2.2.2.2.2) (j9.2) (Zu (Ev.sh (Vj (YF (EvB.sh (Kq qB)) (YF (EvB.sh (Kq qB)) (YF (EvB.sh (Kq qB)) qa)))))) rfl rfl (λ_ s=>(SC.i s s.r)) (λg301 x302 a303 v304=>(EO (K:=K) 5 6 qS qS λa315 a316 v317 v318=>(Dq (K:=K) (r:=Xf) 2 0 rfl rfl (λ_ s=>s.l.l.l.l.r) qS qB qB λa322 C323=>(Dq (K:=K) (r:=Xf) 2 0 rfl rfl (λ_ s=>s.r) qS qB qB λa331 C332=>(XS ((some v304.1),(some v304.2),(some v317),(some v318),x302.2.2.2.2.1,C332) (a331) rfl rfl))))) λg335 d9=>(XS ((d9.1),(d9.2.1),(d9.2.2.1),(d9.2.2.2.1),d9.2.2.2.2.1,d9.2.2.2.2.2) (g335) rfl rfl)) (XS ((bO.1),(bO.2.1),(aR.1),(aR.2.1),bO.2.2.2.1,bO.2.2.2.2.2) (j9.2) rfl rfl)) λg339 x338=>(Xw (UI ZO λ_=>(HH qB)))))))))))⟩⟩
def EY:=Tf.1
theorem OQ:FnScope ["_law_signs","_law_name"] ["_law_signs","_law_name"] (Xg PP):={}
abbrev M7 (m:QPs->Int->Rs Int):Prop:=Fn P w K mg base 1 "_law_new" ["_law_signs","_law_name"] (sp2 (rD Xf) Xf (oF Xf) m K)
def Pz:{m // Pq λP w K mg base=>Def K mg "_law_new" PP ["_law_signs","_law_name"]->M7 P w K mg base m}:=⟨_, @λP w K mg base Z D=>go2 D OQ 0 0 rfl rfl λhr hu ar=>⟨_,(Xb (EB PassesOwn.never (T0 (HD ar (pv 1) (pv 0)))
   (Xb (psn OQ 1 (Xj Xz (pv 1) Xc))
   Xe))
  (Xb (Xu (pv 1))
  Xe)),λac ae aq aB=>(O8 (λO (x1:V)=>[]) (λs x1=>[some ac,some x1]) (λS (g2:Int) x1=>(SC.add S K Xf x1 g2)) (aq.length+2) (ae) (aB) rfl rfl (λ_ s=>(SC.i s s.r)) (λg3 x4=>(E4 (K:=K) (Cm qB qB))) (λg3 x4=>(X6 K qS λa7 v8=>(XS (v8) (a7) rfl rfl))) λg11 bQ=>(Xw qM))⟩⟩
def ID:=Pz.1
theorem J5:FnScope ["_law_drawing","_law_some","_law_walks","_law_signs","_law_at","_law_k","_law_far","_law_name"] ["_law_drawing","_law_some"] (Xg IK):={}
abbrev Ly (m:QDr->(List Int)->Rs (List Mx)):Prop:=Fn P w K mg base 2 "_law_curl" ["_law_drawing","_law_some"] (sp2 rDr (rV Xf) (oF (rPL rMx)) m K)
def HN:{m // Pq λP w K mg base=>Def K mg "_law_curl" IK ["_law_drawing","_law_some"]->M7 P w K mg base ID->Ly P w K mg base m}:=⟨_, @λP w K mg base Z D b6=>go2 D J5 6 0 rfl rfl λhr hu ar=>⟨_,(Xb (Q1 (pv 0) (ZJ rfl (Xs (pgn J5 2) (Xs (pgn J5 3) YD))))
  (Xb (psn J5 4 (Xj Yb (Xl K (pv 1) Xc) (Ys K Z.b_len (Xa (pv 2) Xd))))
  (Xb (psn J5 5 (Xj Yb (Xl K (pv 1) Xc) (Xj Xz (Ys K Z.b_len (Xa (Xl K (pv 2) (pv 4)) Xd)) Xc)))
  (Xb (psn J5 6 (Xl K (Xt (Xa Xc (Xa Xc (Xa (Xj VC Xc Xc) (Xa (Xj VC Xc Xc) Xd))))) (Xj Yb (Xl K (pv 1) Xc) Xc)))
  (Xb (psn J5 7 (pef b6 hr (Xa (Yj (Z6 K rfl rfl) rfl Z.b_dict PyProof.Rows.boot_dict (Xa (pv 3) Xd)) (Xa (Xj Xz Xc (Xj Ya (Xl K (pv 1) Xc) (pv 6))) Xd))))
  (Xb (Xu (Yn (Xa Yy (Xa (pv 4) (Xa (pv 5) (Xa (pv 7) (Xa (Xl K (Xt (Xa Yy (Xa Yy Xd))) (Xl K (pv 1) Xc)) (Xa (Xj Qu (Xj Ya Xc (Xl K (pv 1) Xc)) Xc) Xd))))))))
  Xe)))))),λac ae aq aB=>(MS (K:=K) 2 3 qS λa1 v2 v3=>(X6 K qS λa4 v5=>(X6 K qS λgy hV=>(X6 K qS λa22 hZ=>(X6 K (r:=Xf) (EvB.sh (Ev.toB (Qa (Ev.toB (UJ ql)) qB))) λa43 v44=>(Xw (EvB.flat (Ev.toB (EvS.ev (JG (r:=rMx) qa))))))))))⟩⟩
def DS:=HN.1
theorem Qt:FnScope ["_law_drawing","_law_some","_law_walks","_law_signs","_law_names","_law_over","_law_k","_law_under","_law_free","_law_far","_law_one","_law_two","_law_to"] ["_law_drawing","_law_some"] (Xg N8):={}
abbrev Ro (m:QDr->(List Int)->Rs (List Mx)):Prop:=Fn P w K mg base 2 "_law_lay" ["_law_drawing","_law_some"] (sp2 rDr (rV Xf) (oF (rPL rMx)) m K)
def TH:{m // Pq λP w K mg base=>Def K mg "_law_lay" N8 ["_law_drawing","_law_some"]->M7 P w K mg base ID->Ro P w K mg base m}:=⟨_, @λP w K mg base Z D b6=>go2 D Qt 11 1 rfl rfl λhr hu ar=>⟨_,(Xb (Q1 (pv 0) (ZJ rfl (Xs (pgn Qt 2) (Xs (pgn Qt 3) YD))))
  (Xb (psn Qt 4 (Yj (Z6 K rfl rfl) rfl Z.b_dict PyProof.Rows.boot_dict (Xa (pv 3) Xd)))
  (Xb (psn Qt 5 (Xj Yb (Xl K (pv 1) Xc) (Ys K Z.b_len (Xa (pv 2) Xd))))
  (Xb (Ud (i:=6) Qt.nd rfl (Or.inr rfl) (Xj Yb (Xl K (pv 1) Xc) (Xj Xz (Ys K Z.b_len (Xa (Xl K (pv 2) (pv 5)) Xd)) Xc)))
  (Xb (psn Qt 7 (Xj Yb (Xl K (pv 1) Xc) (Ys K Z.b_len (Xa (pv 2) Xd))))
  (Xb (psn Qt 8 (Dv rfl rfl rfl Z.b_list Z.b_range (Xa (Xj Xz (Ys K Z.b_len (Xa (Xl K (pv 2) (pv 7)) Xd)) Xc) Xd)))
  (Xb (XU (Xk YT (pv 7) (pv 5) (Xr _))
   (Xb (J0 8 (Xg N8) ["_law_drawing","_law_some","_law_walks","_law_signs","_law_names","_law_over","_law_k","_law_under","_law_free","_law_far","_law_one","_law_two","_law_to"] ["_law_j"] [(6,"_law_k")] rfl Qt.nd rfl rfl (Xy rfl Z.b_range (Xa (Xj Xz (Ys K Z.b_len (Xa (Xl K (pv 2) (pv 5)) Xd)) Xc) Xd)) (Yc (by decide)) (λcl C s H ex E=>⟨XC (i:=0) (show List.Nodup (["_law_j","_law_k"]:List Str) by decide+kernel) rfl (Or.inl rfl),(QD (Xk Do (pv 0) (Xj Xz (pv 1) Xc) (Xr _))),(pv 0)⟩))
   Xe)
   Xe)
  (Xb (psn Qt 9 (Xl K (Xt (Xa Xc (Xa Xc (Xa (Xj VC Xc Xc) (Xa (Xj VC Xc Xc) Xd))))) (Xj Yb (Xl K (pv 1) Xc) Xc)))
  (Xb (psn Qt 10 (pef b6 hr (Xa (pv 4) (Xa (Xj Xz Xc (Xj Ya (Xl K (pv 1) Xc) (pv 9))) Xd))))
  (Xb (Vb ar (pv 4) (pv 10) Xc rfl)
  (Xb (psn Qt 11 (pef b6 hr (Xa (pv 4) (Xa (Xj Xz Xc (Xl K (pv 1) Xc)) Xd))))
  (Xb (psn Qt 12 (Xl K (pv 8) (Xj Yb (Xl K (pv 1) Xc) (Ys K Z.b_len (Xa (pv 8) Xd)))))
  (Xb (Xu (Yn (Xa Yy (Xa (pv 5) (Xa (pv 6) (Xa (pv 7) (Xa (pv 12) (Xa (pv 10) (Xa (pv 11) (Xa (Zg YT (Xl K (pv 1) Xc) Xc (Xr _)) (Xa (Xj Qu (Xj Ya Xc (Xl K (pv 1) Xc)) Xc) Xd)))))))))))
  Xe))))))))))))),λac ae aq aB=>(MS (K:=K) 2 3 qS λa1 v2 v3=>(YE K (o:=(oD Xf)) 0 (UJ ql) λa4 v5 C6=>(X6 K qS λa8 v9=>(X6 K qS λa15 v16=>(X6 K qS λcq ia=>(X6 K (r:=(rV Xf)) (Ev.sh (F8 qB)) λkd v34=>(Y4 (λO (cr:V)=>[C6]) (λs cr=>[some ac,some ae,some v2,some v3,some v5,some v9,some v16,some ia,some cr,none,none,none,none]) (λS (fY:(List Int)) cr=>(SC.add S K (rV Xf) cr fY)) (X2 (qt K) (X6 K (r:=(rV Xf)) (Ev.sh (Z4 (λ_=>tg1 0) qw (λC54 a55 v56=>(qt K)) (λC54 a55 v56=>qM))) λa46 v47=>(XS (v47) (a46) rfl rfl)) (XS (v34) (kd) rfl rfl)) λfE de=>(X6 K qS λa64 v65=>(X6 K qS λa85 v86=>(Cj K qS qB λa98 C99=>(X6 K qS λa100 v101=>(X6 K qS λjY v110=>(Xw (EvB.flat (Ev.toB (EvS.ev (JG (r:=rMx) qa)))))))))))))))))⟩⟩
def TB:=TH.1
theorem JX:FnScope ["_law_script","_law_place","_law_drawing","_law_word","_law_some","_law_steps","_law_found","_law_move","_law_k"] ["_law_script","_law_place","_law_drawing","_law_word"] (Xg LS):={}
abbrev Mo (m:(List Int)->Int->QDr->Str->Rs (List (List Mx))):Prop:=Fn P w K mg base 3 "_law_next" ["_law_script","_law_place","_law_drawing","_law_word"] (sp4 (rL Xf) Xf rDr B8 (oL (oF (rPL rMx))) m K)
def LQ:{m // Pq λP w K mg base=>Def K mg "_law_next" LS ["_law_script","_law_place","_law_drawing","_law_word"]->Hl P w K mg base GB->Ly P w K mg base DS->GX P w K mg base UA->Ro P w K mg base TB->Mo P w K mg base m}:=⟨_, @λP w K mg base Z D aQ dv b7 fk=>by
  refine Vh D JX (λvs H Q E h=>?_) (λf aj A outer s H vs Q E hr h=>?_)
  . obtain⟨ac,ae,aD,du,aq,aB,bR,f7,b,rfl,_⟩:=h;rfl
  obtain⟨ac,ae,aD,du,aq,aB,bR,f7,b,rfl,cB,cW,f6,jX,hm,q⟩:=h
  have hu:=hu8 hr
  have ar:=JS hr
  apply Exists.intro
  apply And.intro
  case left=>
   refine' Xb ?zq1 ?zq2
   case zq1=>
    refine' Ud (i:=4) ?zq3 ?zq4 ?zq5 ?zq6
    case zq3=>
     exact JX.nd
    case zq4=>
     exact rfl
    case zq5=>
     exact(Or.inl rfl)
    case zq6=>
     refine' TX aQ hr ?zq7 ?zq8
     case zq7=>
      exact(by decide)
     case zq8=>
      refine' Xa ?zq9 ?zq10
      case zq9=>
       exact(pv 0)
      case zq10=>
       refine' Xa ?zq11 ?zq12
       case zq11=>
        exact(pv 1)
       case zq12=>
        exact(Xa (Xt (Xa Xc (Xa Xc (Xa Xc (Xa Xc (Xa Xc (Xa Xc (Xa Xc (Xa Xc (Xa Xc Xd)))))))))) Xd XX)
   case zq2=>
    refine' Xb ?zq13 ?zq14
    case zq13=>
     refine' XU ?zq15 ?zq16 ?zq17
     case zq15=>
      exact(Xk YT (pv 3) Yy (Xr _))
     case zq16=>
      refine' Xb ?zq18 ?zq19
      case zq18=>
       refine' Ud (i:=5) ?zq20 ?zq21 ?zq22 ?zq23
       case zq20=>
        exact JX.nd
       case zq21=>
        exact rfl
       case zq22=>
        exact(Or.inl rfl)
       case zq23=>
        exact(Xj Ya (Xj Qu (Xl K (pv 4) Xc) Xc) (Xl K (Xt (Xa Xc (Xa Xc (Xa (Xj Xz (Xj VC Xc Xc) Xc) Xd)))) (Xj Yb (Xl K (pv 4) Xc) Xc)))
      case zq19=>
       refine' Xb ?zq24 ?zq25
       case zq24=>
        refine' Xu ?zq26
        case zq26=>
         refine' Xt ?zq27
         case zq27=>
          refine' Xa ?zq28 ?zq29
          case zq28=>
           refine' Yn ?zq30
           case zq30=>
            refine' Xa ?zq31 ?zq32
            case zq31=>
             exact Yy
            case zq32=>
             refine' Xa ?zq33 ?zq34
             case zq33=>
              exact(Xj Yb (Xl K (pv 4) Xc) (Ys K Z.b_len (Xa (Xx K (pv 2) Xc) Xd)))
             case zq34=>
              exact(Xa (pv 5) Xd)
          case zq29=>
           exact Xd
       case zq25=>
        exact Xe
     case zq17=>
      exact Xe
    case zq14=>
     refine' Xb ?zq35 ?zq36
     case zq35=>
      refine' XU ?zq37 ?zq38 ?zq39
      case zq37=>
       exact(Xk YT (pv 3) Yy (Xr _))
      case zq38=>
       refine' Xb ?zq40 ?zq41
       case zq40=>
        exact(psn JX 6 (pef b7 hr (Xa (pv 2) Xd)))
       case zq41=>
        refine' Xb ?zq42 ?zq43
        case zq42=>
         refine' XU ?zq44 ?zq45 ?zq46
         case zq44=>
          exact(Xk FX (Ys K Z.b_len (Xa (pv 6) Xd)) Xc (Xr _))
         case zq45=>
          refine' Xb ?zq47 ?zq48
          case zq47=>
           refine' Xu ?zq49
           case zq49=>
            refine' Xt ?zq50
            case zq50=>
             refine' Xa ?zq51 ?zq52
             case zq51=>
              refine' R8 (BS K rfl) ?zq53 ?zq54 (λ_ _=>rfl)
              case zq53=>
               exact(pv 6)
              case zq54=>
               exact(Xj Yb (Xl K (pv 4) Xc) (Ys K Z.b_len (Xa (pv 6) Xd)))
             case zq52=>
              exact Xd
          case zq48=>
           exact Xe
         case zq46=>
          exact Xe
        case zq43=>
         exact Xe
      case zq39=>
       exact Xe
     case zq36=>
      refine' Xb ?zq55 ?zq56
      case zq55=>
       refine' XU ?zq57 ?zq58 ?zq59
       case zq57=>
        exact(PW.pt (Bg (Xk YT (pv 3) Yy (Xr _)) (Gp (Xk YT (pv 3) Yy (Xr _)))))
       case zq58=>
        refine' Xb ?zq60 ?zq61
        case zq60=>
         exact(psn JX 7 (pef fk hr (Xa (pv 2) (Xa (pv 4) Xd))))
        case zq61=>
         refine' Xb ?zq62 ?zq63
         case zq62=>
          exact(XU (Xk YT (pv 3) Yy (Xr _))
        (Xb (Xu (Xt (Xa (pv 7) Xd)))
        Xe)
        Xe)
         case zq63=>
          refine' Xb ?zq64 ?zq65
          case zq64=>
           refine' Ud (i:=8) ?zq66 ?zq67 ?zq68 ?zq69
           case zq66=>
            exact JX.nd
           case zq67=>
            exact rfl
           case zq68=>
            exact(Or.inl rfl)
           case zq69=>
            exact(Xj Xz (Xx K (pv 7) Xc) (Xj Ya Xc (Yj Qw rfl Z.b_int PyProof.Rows.boot_int (Xa (MH (Zg YT (Xx K (pv 7) Xc) (Xx K (pv 7) Xc) (Xr _)) (MR (Zg Tp (Xx K (pv 7) Xc) (Xx K (pv 7) Xc) (Xr _)))) Xd))))
          case zq65=>
           refine' Xb ?zq70 ?zq71
           case zq70=>
            refine' Xu ?zq72
            case zq72=>
             refine' Xt ?zq73
             case zq73=>
              refine' Xa ?zq74 ?zq75
              case zq74=>
               exact(pv 7)
              case zq75=>
               refine' Xa ?zq76 ?zq77
               case zq76=>
                refine' Yn ?zq78
                case zq78=>
                 refine' Xa ?zq79 ?zq80
                 case zq79=>
                  exact Yy
                 case zq80=>
                  refine' Xa ?zq81 ?zq82
                  case zq81=>
                   exact(Xx K (pv 7) Xc)
                  case zq82=>
                   exact(Xa (pv 8) (Xa (Xx K (pv 7) Xc) (Xa (Xx K (pv 7) Xc) Xd)))
               case zq77=>
                exact Xd
           case zq71=>
            exact Xe
       case zq59=>
        exact Xe
      case zq56=>
       refine' Xb ?zq83 ?zq84
       case zq83=>
        exact(psn JX 7 (pef dv hr (Xa (pv 2) (Xa (pv 4) Xd))))
       case zq84=>
        refine' Xb ?zq85 ?zq86
        case zq85=>
         refine' XU ?zq87 ?zq88 ?zq89
         case zq87=>
          exact(Xk YT (pv 3) Yy (Xr _))
         case zq88=>
          refine' Xb ?zq90 ?zq91
          case zq90=>
           refine' Xu ?zq92
           case zq92=>
            refine' Xt ?zq93
            case zq93=>
             exact(Xa (pv 7) (Xa (Yn (Xa Yy (Xa (Xx K (pv 7) Xc) (Xa (Xx K (pv 7) Xc) Xd)))) Xd))
          case zq91=>
           exact Xe
         case zq89=>
          exact Xe
        case zq86=>
         exact(Xb (Xu (Xt (Xa (pv 7) Xd)))
    Xe)
  refine Hn (S:=(SC.add (SC.add (SC.add (SC.add SC.nil K (rL Xf) ac aq) K Xf ae aB) K rDr aD bR) K B8 du f7)) (U:=[some ac,some ae,some aD,some du,none,none,none,none,none]) 0 ?_ (SC.i (SC.i (SC.i (SC.i SC.t cB) cW) f6) jX) hm q rfl
  exact(X6 K qS λa1 v2=>(Jb (qt K) (X6 K qS λjz gA=>(Xw (Vj (YF (EvB.sh (Ev.toB (EvS.ev (JG (r:=rMx) qa)))) qa)))) (Ac (λO (bZ:Option V)=>[]) (λs bZ=>[some ac,some ae,some aD,some du,some v2,none,bZ,none,none]) (λS (jK:Unit) bZ=>S) (X2 (qt K) (X6 K qS λa78 v79=>(Qi (qt K) (Xw qN) (ZY (XS ((some v79)) () rfl rfl)))) (ZY (XS ((none)) () rfl rfl))) λg100 x99=>(Jb (qt K) (X6 K qS λig v107=>(Jb (qt K) (Xw qN) (X6 K qS λa117 v118=>(Xw (Vj (YF qS (YF (EvB.sh (Ev.toB (EvS.ev (JG (r:=rMx) qa)))) qa))))))) (X6 K qS λil v166=>(Jb (qt K) (Xw (Vj (YF qS (YF (EvB.sh (Ev.toB (EvS.ev (JG (r:=rMx) qa)))) qa)))) (Xw qN)))))))⟩
def FU:=LQ.1
theorem QJ:FnScope ["_law_script","_law_place","_law_drawing","_law_words","_law_some","_law_found","_law_k","_law_word","_law_move"] ["_law_script","_law_place","_law_drawing","_law_words"] (Xg Bh):={}
abbrev BE (m:(List Int)->Int->QDr->(List Str)->Rs (QDr×(List (List Mx)))):Prop:=Fn P w K mg base 4 "_law_chain" ["_law_script","_law_place","_law_drawing","_law_words"] (A7 (rL Xf) Xf rDr (rV B8) (oT2 (oF rDr) (oL (oF (rPL rMx)))) m K)
def CZ:{m // Pq λP w K mg base=>Def K mg "_law_chain" Bh ["_law_script","_law_place","_law_drawing","_law_words"]->Hl P w K mg base GB->Mo P w K mg base FU->Ab P w K mg base EY->BE P w K mg base m}:=⟨_, @λP w K mg base Z D aQ dz im=>by
 refine Vh D QJ (λvs H Q E h=>?_) (λf aj A outer s H vs Q E hr h=>?_)
 ·obtain⟨ac,ae,aD,du,aq,aB,bR,f7,b,rfl,_⟩:=h;rfl
 obtain⟨ac,ae,aD,du,aq,aB,bR,f7,b,rfl,Cf,hw,cB,cW,f6,jX,hm,q⟩:=h
 have hu:=hu8 hr
 have ar:=JS hr
 refine⟨_,(Xb (psn QJ 4 (pef aQ hr (Xa (pv 0) (Xa (pv 1) (Xa (Xj Qg (Xt (Xa Xc Xd)) (Xj Dp (Xt (Xa Xc Xd)) Xc)) Xd)))))
  (Xb (psn QJ 5 (Xt Xd))
  (Xb (psf (Xy rfl Z.b_range (Xa (Xl K (pv 4) Xc) Xd)) (pgn QJ 6)
   (Xb (psn QJ 7 (Xl K (pv 3) (Xj Yb (Xl K (pv 4) (Xj Xz Xc (pv 6))) (Ys K Z.b_len (Xa (pv 3) Xd)))))
   (Xb (psf (Xq (K:=K) rfl (pef dz hr (Xa (pv 0) (Xa (Xj Xz (Xj Xz (pv 1) Xc) (pv 6)) (Xa (pv 2) (Xa (pv 7) Xd)))))) (pgn QJ 8)
    (Xb (XA (Ze PySem.F.plainAttrs_list PySem.F.slot_list_append PySem.F.type_list_append XE (pv 5) (Xa (pv 8) Xd)))
    (Xb (psn QJ 2 (pef im hr (Xa (pv 2) (Xa (pv 8) Xd))))
    Xe)))
   Xe)))
  (Xb (Xu (Yn (Xa (pv 2) (Xa (pv 5) Xd))))
  Xe)))),?_⟩
 refine Ia (S:=(SC.add (SC.add (SC.add (SC.add SC.nil K (rL Xf) ac aq) K Xf ae aB) K rDr aD bR) K (rV B8) du f7)) (U:=[some ac,some ae,some aD,some du,none,none,none,none,none]) 1 ?_ hw (SC.i (SC.i (SC.i (SC.i SC.t cB) cW) f6) jX) hm q rfl
 exact(X6 K qS λa1 v2=>(YE K (o:=(oL (oF (rPL rMx)))) 0 (ZZ (o:=(oF (rPL rMx)))) λcO bY C19=>(Qr K (λO (bu:Option V×Option V×Option V×V×V×List XD)=>[bu.2.2.2.2.2,Cf]) (λs bu=>[some ac,some ae,some bu.2.2.2.1,some du,some v2,some bu.2.2.2.2.1,bu.1,bu.2.1,bu.2.2.1]) (λS (fV:QDr×(List (List Mx))) bu=>(SC.addO (SC.add S K rDr bu.2.2.2.1 fV.1) K (oL (oF (rPL rMx))) bu.2.2.2.2.1 fV.2 bu.2.2.2.2.2)) (λ_=>tg1 6) ((none),(none),(none),aD,bY,C19) (bR,cO) qw rfl rfl (λ_ s=>(SC.i (SC.i s s.l.l.l.r) s.r)) (λfW eJ fD gC=>(X6 K qS λjz gA=>(Qr K (λO (dA:Option V×V×V×List XD)=>[dA.2.2.2,Cf]) (λs dA=>[some ac,some ae,some dA.2.1,some du,some v2,some dA.2.2.1,some gC,some gA,dA.1]) (λS (g50:QDr×(List (List Mx))) dA=>(SC.addO (SC.add S K rDr dA.2.1 g50.1) K (oL (oF (rPL rMx))) dA.2.2.1 g50.2 dA.2.2.2)) (λ_=>tg1 8) ((eJ.2.2.1),eJ.2.2.2.1,eJ.2.2.2.2.1,eJ.2.2.2.2.2) (fW.1,fW.2) qw rfl rfl (λ_ s=>(SC.i (SC.i s s.l.l.l.r) s.l.l.r)) (λiJ iK a53 v54=>(K7 K qM λa57 C56=>(X6 K qS λjU jV=>(XS ((some v54),jV,iK.2.2.1,C56) (jU,a57) rfl rfl)))) λfE bS=>(XS ((some gC),(some gA),(bS.1),bS.2.1,bS.2.2.1,bS.2.2.2) (fE.1,fE.2) rfl rfl)))) λg66 x67=>(Fy (K:=K) 1 (by rfl) (UI qM λ_=>(ZO (k:=1)))))))⟩
def GD:=CZ.1
theorem RW:FnScope ["_law_drawing"] ["_law_drawing"] (Xg Ey):={}
abbrev Ii (m:QDr->Rs QDr):Prop:=Fn P w K mg base 1 "_law_copy" ["_law_drawing"] (sp1 rDr (oT2 oLL (oL (oF (rP2 Xf Xf)))) m K)
def Ih:{m // Pq λP w K mg base=>Def K mg "_law_copy" Ey ["_law_drawing"]->Ii P w K mg base m}:=⟨_, @λP w K mg base Z D=>go1 D RW 0 0 rfl rfl λhr hu ar=>⟨_,(Xb (Xu (Yn (Xa (Yk (sc:=(Xg Ey)) (N0:=["_law_drawing"]) (tns:=["_law_walk"]) (caps:=[]) rfl (Xq (K:=K) rfl (Xx K (pv 0) Xc)) (Yc (by decide)) (λcl C s H ex E=>⟨XC (i:=0) (show List.Nodup (["_law_walk"]:List Str) by decide+kernel) rfl (Or.inl rfl),YJ,(Yj (QM K rfl) rfl Z.b_list PyProof.Rows.boot_list (Xa (pv 0) Xd))⟩)) (Xa (Yj (QM K rfl) rfl Z.b_list PyProof.Rows.boot_list (Xa (Xx K (pv 0) Xc) Xd)) Xd))))
  Xe),λac aq=>(Xw (UI (YL (λ_=>tg1 0) qw (λC2 a3 v4=>qN)) λ_=>qN))⟩⟩
def B5:=Ih.1
theorem Yf:FnScope ["_law_walks","_law_found","_law_count_here","_law_walk","_law_first","_law_number","_law_last","_law_k","_law_row_here"] ["_law_walks"] (Xg Fe):={}
abbrev UL (m:QLs->Rs QLs):Prop:=Fn P w K mg base 1 "_law_arcs" ["_law_walks"] (sp1 rVV oLL m K)
def GA:{m // Pq λP w K mg base=>Def K mg "_law_arcs" Fe ["_law_walks"]->UL P w K mg base m}:=⟨_, @λP w K mg base Z D=>go1 D Yf 8 2 rfl rfl λhr hu ar=>⟨_,(Xb (psn Yf 1 (Xt Xd))
  (Xb (psn Yf 2 Xc)
  (Xb (psf (Xq (K:=K) rfl (pv 0)) (pgn Yf 3)
   (Xb (psn Yf 4 (pv 2))
   (Xb (psn Yf 5 (pv 2))
   (Xb (psn Yf 6 (ZE YG Xc))
   (Xb (psf (Xy rfl Z.b_range (Xa (Ys K Z.b_len (Xa (pv 3) Xd)) Xd)) (pgn Yf 7)
    (Xb (XU (Xk US (Xl K (pv 3) (pv 7)) Xc (Xr _))
     (Xb (psn Yf 6 (pv 7))
     Xe)
     Xe)
    Xe))
   (Xb (psn Yf 8 (Xj Dp (Xt (Xa (pv 4) Xd)) (XG (Kt rfl) rfl Z.b_max PyProof.Rows.boot_max (Xa (Ys K Z.b_len (Xa (pv 3) Xd)) (Xa Xc Xd)))))
   (Xb (psf (Xy rfl Z.b_range (Xa (Xj Xz (pv 6) Xc) Xd)) (pgn Yf 7)
    (Xb (Q1 (pv 5) (Um (pv 8) (pv 7) Z5))
    (Xb (XU (PW.pt (HX (Xk US (Xl K (pv 3) (pv 7)) Xc (Xr _)) (BD (Xk US (pv 7) (pv 6) (Xr _)))))
     (Xb (psn Yf 2 (Xj Xz (pv 2) Xc))
     (Xb (psn Yf 5 (pv 2))
     Xe))
     Xe)
    Xe)))
   (Xb (psn Yf 2 (Xj Xz (pv 2) Xc))
   (Xb (XA (Ze PySem.F.plainAttrs_list PySem.F.slot_list_append PySem.F.type_list_append XE (pv 1) (Xa (pv 8) Xd)))
   Xe)))))))))
  (Xb (Xu (pv 1))
  Xe)))),λac aq=>(YE K (o:=oLL) 0 (ZZ (o:=oLi)) λa1 v2 C3=>(X6 K qS λa4 v5=>(Qr K (λO (x6:Option V×Option V×Option V×Option V×Option V×Option V×V×V×List XD)=>[x6.2.2.2.2.2.2.2.2,[]]) (λs x6=>[some ac,some x6.2.2.2.2.2.2.2.1,some x6.2.2.2.2.2.2.1,x6.1,x6.2.1,x6.2.2.1,x6.2.2.2.1,x6.2.2.2.2.1,x6.2.2.2.2.2.1]) (λS (g7:Int×QLs) x6=>(SC.addO (SC.add S K Xf x6.2.2.2.2.2.2.1 g7.1) K oLL x6.2.2.2.2.2.2.2.1 g7.2 x6.2.2.2.2.2.2.2.2)) (λ_=>tg1 3) ((none),(none),(none),(none),(none),(none),v5,v2,C3) (a4,a1) qw rfl rfl (λ_ s=>(SC.i (SC.i s s.r) s.l.r)) (λg8 x9 fB bB=>(X6 K qS λa12 fg=>(X6 K qS λcM eG=>(X6 K qS λhW iM=>(Qr K (λO (bt:Option V×V)=>[x9.2.2.2.2.2.2.2.2,[]]) (λs bt=>[some ac,some x9.2.2.2.2.2.2.2.1,some x9.2.2.2.2.2.2.1,some bB,some fg,some eG,some bt.2,bt.1,x9.2.2.2.2.2.1]) (λS (gz:Int) bt=>(SC.add S K Xf bt.2 gz)) (λ_=>tg1 7) ((x9.2.2.2.2.1),iM) (hW) qw rfl rfl (λ_ s=>(SC.i s s.r)) (λg23 bD a25 gB=>(Y4 (λO (fh:V)=>[x9.2.2.2.2.2.2.2.2,[]]) (λs fh=>[some ac,some x9.2.2.2.2.2.2.2.1,some x9.2.2.2.2.2.2.1,some bB,some fg,some eG,some fh,some gB,x9.2.2.2.2.2.1]) (λS (g33:Int) fh=>(SC.add S K Xf fh g33)) (X2 (qt K) (X6 K qS λa34 jG=>(XS (jG) (a34) rfl rfl)) (XS (bD.2) (g23) rfl rfl)) λiP c9=>(XS ((some gB),c9) (iP) rfl rfl))) λg38 bC=>(YE K 1 qN λiN ke C42=>(Qr K (λO (cg:Option V×V×V×V×List XD)=>[x9.2.2.2.2.2.2.2.2,cg.2.2.2.2]) (λs cg=>[some ac,some x9.2.2.2.2.2.2.2.1,some cg.2.2.1,some bB,some fg,some cg.2.2.2.1,some bC.2,cg.1,some cg.2.1]) (λS (gx:(List Int)×Int×Int) cg=>(SC.add (SC.add (SC.addO S K oLi cg.2.1 gx.1 cg.2.2.2.2) K Xf cg.2.2.1 gx.2.1) K Xf cg.2.2.2.1 gx.2.2)) (λ_=>tg1 7) ((bC.1),ke,x9.2.2.2.2.2.2.1,eG,C42) (iN,g8.1,cM) qw rfl rfl (λ_ s=>(SC.i (SC.i (SC.i s s.r) s.l.l.l.l.l.l.l.r) s.l.l.l.r)) (λg56 x57 jU jV=>(Gf K qM (λ_=>qB) λa62 iS=>(Y4 (λO (cP:V×V)=>[x9.2.2.2.2.2.2.2.2,iS]) (λs cP=>[some ac,some x9.2.2.2.2.2.2.2.1,some cP.1,some bB,some fg,some cP.2,some bC.2,some jV,some x57.2.1]) (λS (ij:Int×Int) cP=>(SC.add (SC.add S K Xf cP.1 ij.1) K Xf cP.2 ij.2)) (X2 (qt K) (X6 K qS λa73 v74=>(X6 K qS λjM jN=>(XS (v74,jN) (a73,jM) rfl rfl))) (XS (x57.2.2.1,x57.2.2.2.1) (g56.2.1,g56.2.2) rfl rfl)) λg80 x79=>(XS ((some jV),x57.2.1,x79.1,x79.2,iS) (a62,g80.1,g80.2) rfl rfl)))) λg81 x82=>(X6 K qS λa83 v84=>(K7 K ZO λa89 C88=>(XS ((some bB),(some fg),(some x82.2.2.2.1),(some bC.2),(x82.1),(some x82.2.1),v84,x9.2.2.2.2.2.2.2.1,C88) (a83,a89) rfl rfl)))))))))) λg92 x93=>(Xw ZO))))⟩⟩
def Vx:=GA.1
theorem N2:FnScope ["_law_drawing"] ["_law_drawing"] (Xg G3):={}
abbrev FD (m:QDr->Rs Int):Prop:=Fn P w K mg base 2 "_law_count" ["_law_drawing"] (sp1 rDr (oF Xf) m K)
def CJ:{m // Pq λP w K mg base=>Def K mg "_law_count" G3 ["_law_drawing"]->UL P w K mg base Vx->FD P w K mg base m}:=⟨_, @λP w K mg base Z D aS=>go1 D N2 0 0 rfl rfl λhr hu ar=>⟨_,(Xb (Xu (Xj Xz Xc (XG (KC K rfl rfl) rfl Z.b_max PyProof.Rows.boot_max (Xa (Xj Qg (Xt (Xa (ZE YG Xc) Xd)) (Yk (sc:=(Xg G3)) (N0:=["_law_drawing"]) (tns:=["_law_row_here"]) (caps:=[]) rfl (Xq (K:=K) rfl (pef aS hr (Xa (Xx K (pv 0) Xc) Xd))) (Yc (by decide)) (λcl C s H ex E=>⟨XC (i:=0) (show List.Nodup (["_law_row_here"]:List Str) by decide+kernel) rfl (Or.inl rfl),YJ,(XG (KC K rfl rfl) rfl Z.b_max PyProof.Rows.boot_max (Xa (pv 0) Xd))⟩))) Xd))))
  Xe),λac aq=>(Xw (EvS.ev (EvB.sh (CG qB (GG (Ev.toB (OT ql (Ev.ls (YL (λ_=>tg1 0) qw (λC10 gy hV=>(EvS.ev (EvB.sh (GG qB)))))))))))))⟩⟩
def VU:=CJ.1
theorem ZG:FnScope ["_law_drawing","_law_to","_law_behind","_law_walk","_law_row_here","_law_k"] ["_law_drawing"] (Xg Vv):={}
abbrev Kj (m:QDr->Rs (List (Int×Int×Int×Int×Int))):Prop:=Fn P w K mg base 2 "_law_meets" ["_law_drawing"] (sp1 rDr (oL (oF (rP5 Xf Xf Xf Xf Xf))) m K)
def UT:{m // Pq λP w K mg base=>Def K mg "_law_meets" Vv ["_law_drawing"]->UL P w K mg base Vx->Kj P w K mg base m}:=⟨_, @λP w K mg base Z D aS=>go1 D ZG 5 2 rfl rfl λhr hu ar=>⟨_,(Xb (Ud (i:=1) ZG.nd rfl (Or.inr rfl) Fk)
  (Xb (Ud (i:=2) ZG.nd rfl (Or.inr rfl) Fk)
  (Xb (psf (Wr K rfl rfl Z.b_zip (Xa (Xx K (pv 0) Xc) (Xa (pef aS hr (Xa (Xx K (pv 0) Xc) Xd)) Xd))) (ZJ rfl (Xs (pgn ZG 3) (Xs (pgn ZG 4) YD)))
   (Xb (psf (Xy rfl Z.b_range (Xa (Ys K Z.b_len (Xa (pv 3) Xd)) Xd)) (pgn ZG 5)
    (Xb (Vb ar (pv 1) (Xl K (pv 3) (pv 5)) (Xl K (pv 4) (pv 5)) rfl)
    (Xb (Vb ar (pv 2) (Xl K (pv 3) (pv 5)) (Xl K (pv 4) (Xj Yb (Xj Xz (pv 5) Xc) (Ys K Z.b_len (Xa (pv 3) Xd)))) rfl)
    Xe)))
   Xe))
  (Xb (Xu (Yk (sc:=(Xg Vv)) (N0:=["_law_drawing","_law_to","_law_behind","_law_walk","_law_row_here","_law_k"]) (tns:=["_law_one","_law_sign"]) (caps:=[(1,"_law_to"),(2,"_law_behind")]) rfl (Xq (K:=K) rfl (Xx K (pv 0) Xc)) (C0 (by decide) (by decide)) (λcl C s H ex E=>⟨GF K rfl rfl (Xs (XC (i:=0) (show List.Nodup (["_law_one","_law_sign","_law_to","_law_behind"]:List Str) by decide+kernel) rfl (Or.inl rfl)) (Xs (XC (i:=1) (show List.Nodup (["_law_one","_law_sign","_law_to","_law_behind"]:List Str) by decide+kernel) rfl (Or.inl rfl)) YD)),YJ,(Yn (Xa (pv 0) (Xa (pv 1) (Xa (J6 ar (pv 2) (pv 0) (λ_ _=>rfl)) (Xa (J6 ar (pv 2) (ZE YG (pv 0)) (λ_ _=>rfl)) (Xa (J6 ar (pv 3) (ZE YG (pv 0)) (λ_ _=>rfl)) Xd))))))⟩)))
  Xe)))),λac aq=>(YE K (o:=(oD Xf)) 0 (BF (r:=Xf)) λa1 v2 C3=>(YE K (o:=(oD Xf)) 1 (BF (r:=Xf)) λa4 v5 C6=>(Qr K (λO (aC:Option V×Option V×Option V×V×V×List XD×List XD)=>[aC.2.2.2.2.2.1,aC.2.2.2.2.2.2]) (λs aC=>[some ac,some aC.2.2.2.1,some aC.2.2.2.2.1,aC.1,aC.2.1,aC.2.2.1]) (λS (dM:QPs×QPs) aC=>(SC.addO (SC.addO S K (oD Xf) aC.2.2.2.1 dM.1 aC.2.2.2.2.2.1) K (oD Xf) aC.2.2.2.2.1 dM.2 aC.2.2.2.2.2.2)) (λ_=>tg2 3 4) ((none),(none),(none),v2,v5,C3,C6) (a1,a4) (Op qS qS) rfl rfl (λ_ s=>(SC.i (SC.i s s.l.r) s.r)) (λdb ba cO bY=>(Qr K (λO (bt:Option V×V×V×List XD×List XD)=>[bt.2.2.2.1,bt.2.2.2.2]) (λs bt=>[some ac,some bt.2.1,some bt.2.2.1,some bY.1,some bY.2,bt.1]) (λS (gz:QPs×QPs) bt=>(SC.addO (SC.addO S K (oD Xf) bt.2.1 gz.1 bt.2.2.2.1) K (oD Xf) bt.2.2.1 gz.2 bt.2.2.2.2)) (λ_=>tg1 5) ((ba.2.2.1),ba.2.2.2.1,ba.2.2.2.2.1,ba.2.2.2.2.2.1,ba.2.2.2.2.2.2) (db.1,db.2) qw rfl rfl (λ_ s=>(SC.i (SC.i s s.l.l.l.r) s.l.l.r)) (λg23 bD a25 gB=>(Cj K qS qB λkd jH=>(Cj K qS qB λa46 C47=>(XS ((some gB),bD.2.1,bD.2.2.1,jH,C47) (kd,a46) rfl rfl)))) λg48 dA=>(XS ((some bY.1),(some bY.2),(dA.1),dA.2.1,dA.2.2.1,dA.2.2.2.1,dA.2.2.2.2) (g48.1,g48.2) rfl rfl))) λiJ iK=>(Xw (YL (λ_=>tg2 0 1) qw (λC54 a55 v56=>(EvS.ev (Eg qS qS (EvB.sh (QO qB qB)) (EvB.sh (QO qB qB)) (EvB.sh (QO qB qB))))))))))⟩⟩
def Qy:=UT.1
theorem Z8:FnScope ["_law_meetings","_law_table","_law_colours","_law_crossing","_law_sign","_law_over","_law_inward","_law_outward","_law_one","_law_other"] ["_law_meetings","_law_table","_law_colours"] (Xg Bq):={}
abbrev D0 (m:(List (Int×Int×Int×Int×Int))->QLs->(List Int)->Rs Bool):Prop:=Fn P w K mg base 1 "_law_keeps" ["_law_meetings","_law_table","_law_colours"] (sp3 (rV (rP5 Xf Xf Xf Xf Xf)) rVV (rV Xf) (oF XO) m K)
def Bz:{m // Pq λP w K mg base=>Def K mg "_law_keeps" Bq ["_law_meetings","_law_table","_law_colours"]->D0 P w K mg base m}:=⟨_, @λP w K mg base Z D=>go3 D Z8 7 0 rfl rfl λhr hu ar=>⟨_,(Xb (psf (Xq (K:=K) rfl (pv 0)) (ZJ rfl (Xs (pgn Z8 3) (Xs (pgn Z8 4) (Xs (pgn Z8 5) (Xs (pgn Z8 6) (Xs (pgn Z8 7) YD))))))
   (Xb (Ec (i:=8) (j:=9) rfl Z8.nd rfl rfl (by decide) rfl rfl (Xa (Xl K (pv 2) (pv 6)) (Xa (Xl K (pv 2) (pv 7)) Xd)) rfl)
   (Xb (XU (Xk US (pv 4) Xc (Xr _))
    (Xb (Ec (i:=8) (j:=9) rfl Z8.nd rfl rfl (by decide) rfl rfl (Xa (pv 9) (Xa (pv 8) Xd)) rfl)
    Xe)
    Xe)
   (Xb (XU (Xk Do (Xl K (Xl K (pv 1) (pv 8)) (Xl K (pv 2) (pv 5))) (pv 9) (Xr _))
    (Xb (Xu Up)
    Xe)
    Xe)
   Xe))))
  (Xb (Xu Up)
  Xe)),λac ae aD aq aB bR=>(Fm K (λO (x1:Option V×Option V×Option V×Option V×Option V×Option V×Option V)=>[]) (λs x1=>[some ac,some ae,some aD,x1.1,x1.2.1,x1.2.2.1,x1.2.2.2.1,x1.2.2.2.2.1,x1.2.2.2.2.2.1,x1.2.2.2.2.2.2]) (λS (g2:Unit) x1=>S) (λ_=>tg5 3 4 5 6 7) ((none),(none),(none),(none),(none),(none),(none)) () qw rfl rfl (λ_ s=>s) (λg3 x4 a5 v6=>(EO (K:=K) 8 9 qS qS λgy a12 fg eI=>(Y4 (λO (bG:V×V)=>[]) (λs bG=>[some ac,some ae,some aD,some v6.1,some v6.2.1,some v6.2.2.1,some v6.2.2.2.1,some v6.2.2.2.2,some bG.1,some bG.2]) (λS (gv:Int×Int) bG=>(SC.add (SC.add S K Xf bG.1 gv.1) K Xf bG.2 gv.2)) (X2 (qt K) (EO (K:=K) 8 9 qS qS λa20 dX fU hZ=>(XS (fU,hZ) (a20,dX) rfl rfl)) (XS (fg,eI) (gy,a12) rfl rfl)) λfW bD=>(Qi (qt K) (Xw qM) (ZY (XS ((some v6.1),(some v6.2.1),(some v6.2.2.1),(some v6.2.2.2.1),(some v6.2.2.2.2),(some bD.1),(some bD.2)) () rfl rfl)))))) λiP x38=>(Xw qM))⟩⟩
def Fu:=Bz.1
theorem Vl:FnScope ["_law_drawing","_law_table","_law_meetings","_law_found","_law_k","_law_ready","_law_longer","_law_colours","_law_colour"] ["_law_drawing","_law_table"] (Xg NZ):={}
abbrev Pm (m:QDr->QLs->Rs QLs):Prop:=Fn P w K mg base 3 "_law_all" ["_law_drawing","_law_table"] (sp2 rDr rVV oLL m K)
def S1:{m // Pq λP w K mg base=>Def K mg "_law_all" NZ ["_law_drawing","_law_table"]->Kj P w K mg base Qy->FD P w K mg base VU->D0 P w K mg base Fu->Pm P w K mg base m}:=⟨_, @λP w K mg base Z D bJ br cH=>go2 D Vl 7 2 rfl rfl λhr hu ar=>⟨_,(Xb (psn Vl 2 (pef bJ hr (Xa (pv 0) Xd)))
  (Xb (psn Vl 3 (Xt (Xa (Xt Xd) Xd XX)))
  (Xb (psf (Xy rfl Z.b_range (Xa (pef br hr (Xa (pv 0) Xd)) Xd)) (XC (i:=4) Vl.nd rfl (Or.inr rfl))
   (Xb (J0 5 (Xg NZ) ["_law_drawing","_law_table","_law_meetings","_law_found","_law_k","_law_ready","_law_longer","_law_colours","_law_colour"] ["_law_one"] [(4,"_law_k")] rfl Vl.nd rfl rfl (Xq (K:=K) rfl (pv 2)) (Yc (by decide)) (λcl C s H ex E=>⟨XC (i:=0) (show List.Nodup (["_law_one","_law_k"]:List Str) by decide+kernel) rfl (Or.inl rfl),(QD (Xk YT (XG (VE K rfl rfl) rfl Z.b_max PyProof.Rows.boot_max (Xa (XI (YQ K rfl) (pv 0) (XJ Xc) Yd) Xd)) (pv 1) (Xr _))),(pv 0)⟩))
   (Xb (psn Vl 6 (Xt Xd))
   (Xb (psf (Xq (K:=K) rfl (pv 3)) (pgn Vl 7)
    (Xb (psf (Xy rfl Z.b_range (Xa (Ys K Z.b_len (Xa (pv 1) Xd)) Xd)) (pgn Vl 8)
     (Xb (XU (Ja (pef cH hr (Xa (pv 5) (Xa (pv 1) (Xa (Xj Qg (pv 7) (Xt (Xa (pv 8) Xd))) Xd)))))
      (Xb (XA (Ze PySem.F.plainAttrs_list PySem.F.slot_list_append PySem.F.type_list_append XE (pv 6) (Xa (Xj Qg (pv 7) (Xt (Xa (pv 8) Xd))) Xd)))
      Xe)
      Xe)
     Xe))
    Xe))
   (Xb (psn Vl 3 (pv 6))
   Xe)))))
  (Xb (Xu (pv 3))
  Xe)))),λac ae aq aB=>(X6 K qS λa1 v2=>(YE K (o:=oLL) 0 (Ji (Yw (ZZ (o:=(oF Xf))) λ_=>Qf)) λa5 v6 C7=>(Qr K (λO (ca:Option V×Option V×Option V×Option V×V×Option V×List XD)=>[ca.2.2.2.2.2.2,[]]) (λs ca=>[some ac,some ae,some v2,some ca.2.2.2.2.1,ca.1,ca.2.1,ca.2.2.1,ca.2.2.2.1,ca.2.2.2.2.2.1]) (λS (db:QLs) ca=>(SC.addO S K oLL ca.2.2.2.2.1 db ca.2.2.2.2.2.2)) (λ_=>tg1 4) ((none),(none),(none),(none),v6,(none),C7) (a5) qw rfl rfl (λ_ s=>(SC.i s s.r)) (λg16 dm fC eK=>(X6 K (r:=(rV (rP5 Xf Xf Xf Xf Xf))) (Ev.sh (Z4 (λ_=>tg1 0) qw (λjC hX v24=>(XT (K:=K) (JN (UC (Ye (S0 qB) (qp K) (qp K))) qB))) (λjC hX v24=>qM))) λa20 v21=>(YE K (o:=oLL) 1 (ZZ (o:=oLi)) λkd v34 C35=>(MT (K:=K) (o:=oLL) 0 rfl (λ_ s=>s.l.l.l.r) (Qr K (λO (c9:Option V×Option V×V×List XD)=>[[],c9.2.2.2]) (λs c9=>[some ac,some ae,some v2,some dm.2.2.2.2.1,some eK,some v21,some c9.2.2.1,c9.1,c9.2.1]) (λS (iP:QLs) c9=>(SC.addO S K oLL c9.2.2.1 iP c9.2.2.2)) (λ_=>tg1 7) ((dm.2.2.2.1),(dm.2.2.2.2.2.1),v34,C35) (kd) qw rfl rfl (λ_ s=>(SC.i s s.l.r)) (λg38 bC iN ke=>(Qr K (λO (cr:Option V×V×List XD)=>[[],cr.2.2]) (λs cr=>[some ac,some ae,some v2,some dm.2.2.2.2.1,some eK,some v21,some cr.2.1,some ke,cr.1]) (λS (fY:QLs) cr=>(SC.addO S K oLL cr.2.1 fY cr.2.2)) (λ_=>tg1 8) ((bC.2.1),bC.2.2.1,bC.2.2.2) (g38) qw rfl rfl (λ_ s=>(SC.i s s.l.r)) (λg46 bL a48 gD=>(Y4 (λO (iU:V×List XD)=>[[],iU.2]) (λs iU=>[some ac,some ae,some v2,some dm.2.2.2.2.1,some eK,some v21,some iU.1,some ke,some gD]) (λS (g61:QLs) iU=>(SC.addO S K oLL iU.1 g61 iU.2)) (X2 (qt K) (K7 K qN λa69 C68=>(XS (bL.2.1,C68) (a69) rfl rfl)) (XS (bL.2.1,bL.2.2) (g46) rfl rfl)) λg71 x70=>(XS ((some gD),x70.1,x70.2) (g71) rfl rfl))) λij x73=>(XS ((some ke),(x73.1),x73.2.1,x73.2.2) (ij) rfl rfl))) λg75 bZ=>(Md (K:=K) (o:=oLL) 3 0 ZO (Nat.le_of_ble_eq_true rfl) λjM jN C79=>(XS ((some eK),(some v21),(some bZ.2.2.1),(bZ.1),jN,(bZ.2.1),C79) (jM) rfl rfl))))))) λg81 x82=>(Xw ZO))))⟩⟩
def KA:=S1.1
theorem Y2:FnScope ["_law_drawings","_law_most","_law_greatest_here","_law_size","_law_tries","_law_k"] ["_law_drawings","_law_most"] (Xg JE):={}
abbrev VL (m:(List QDr)->Int->Rs Int):Prop:=Fn P w K mg base 3 "_law_greatest" ["_law_drawings","_law_most"] (sp2 (rV rDr) Xf (oF Xf) m K)
def VO:{m // Pq λP w K mg base=>Def K mg "_law_greatest" JE ["_law_drawings","_law_most"]->FD P w K mg base VU->VL P w K mg base m}:=⟨_, @λP w K mg base Z D br=>go2 D Y2 4 0 rfl rfl λhr hu ar=>⟨_,(Xb (psn Y2 2 Xc)
  (Xb (psf (Ki rfl Z.b_range (Xa Xc (Xa Xc Xd))) (pgn Y2 3)
   (Xb (psn Y2 4 Xc)
   (Xb (psf (Xy rfl Z.b_range (Xa (XG (KC K rfl rfl) rfl Z.b_max PyProof.Rows.boot_max (Xa (Yk (sc:=(Xg JE)) (N0:=["_law_drawings","_law_most","_law_greatest_here","_law_size","_law_tries","_law_k"]) (tns:=["_law_one"]) (caps:=[]) rfl (Xq (K:=K) rfl (pv 0)) (Yc (by decide)) (λcl C s H ex E=>⟨XC (i:=0) (show List.Nodup (["_law_one"]:List Str) by decide+kernel) rfl (Or.inl rfl),YJ,(pef br hr (Xa (pv 0) Xd))⟩)) Xd)) Xd)) (pgn Y2 5)
    (Xb (psn Y2 4 (XG (UR rfl) rfl Z.b_min PyProof.Rows.boot_min (Xa (Xj Ya (pv 4) (pv 3)) (Xa (Xj VC Xc Xc) Xd))))
    Xe))
   (Xb (XU (Xk Tp (pv 4) (pv 1) (Xr _))
    (Xb (psn Y2 2 (pv 3))
    Xe)
    Xe)
   Xe))))
  (Xb (Xu (pv 2))
  Xe))),λac ae aq aB=>(X6 K qS λa1 v2=>(Qr K (λO (x5:Option V×Option V×Option V×V)=>[]) (λs x5=>[some ac,some ae,some x5.2.2.2,x5.1,x5.2.1,x5.2.2.1]) (λS (g6:Int) x5=>(SC.add S K Xf x5.2.2.2 g6)) (λ_=>tg1 3) ((none),(none),(none),v2) (a1) qw rfl rfl (λ_ s=>(SC.i s s.r)) (λg7 x8 a9 fA=>(X6 K qS λgy hV=>(Qr K (λO (dW:Option V×V)=>[]) (λs dW=>[some ac,some ae,some x8.2.2.2,some fA,some dW.2,dW.1]) (λS (g21:Int) dW=>(SC.add S K Xf dW.2 g21)) (λ_=>tg1 5) ((x8.2.2.1),hV) (gy) (Kb (GG (Ev.toB (YL (λ_=>tg1 0) qw (λC13 cM eG=>qN))))) rfl rfl (λ_ s=>(SC.i s s.r)) (λgz bu a24 v25=>(X6 K qS λcq ia=>(XS ((some v25),ia) (cq) rfl rfl))) λg34 x35=>(Y4 (λO (bC:V)=>[]) (λs bC=>[some ac,some ae,some bC,some fA,some x35.2,x35.1]) (λS (iQ:Int) bC=>(SC.add S K Xf bC iQ)) (X2 (qt K) (X6 K qS λa41 v42=>(XS (v42) (a41) rfl rfl)) (XS (x8.2.2.2) (g7) rfl rfl)) λjI dr=>(XS ((some fA),(some x35.2),(x35.1),dr) (jI) rfl rfl))))) λg46 bL=>(Xw qM)))⟩⟩
def Qs:=VO.1
theorem Dl:FnScope ["_law_one","_law_other","_law_size","_law_each","_law_table","_law_first","_law_second"] ["_law_one","_law_other","_law_size"] (Xg RB):={}
abbrev SS (m:QDr->QDr->Int->Rs (Option (QLs×Int×Int))):Prop:=Fn P w K mg base 5 "_law_due" ["_law_one","_law_other","_law_size"] (sp3 rDr rDr Xf (Sd (oT3 oLL (oF Xf) (oF Xf))) m K)
def Pu:{m // Pq λP w K mg base=>Def K mg "_law_due" RB ["_law_one","_law_other","_law_size"]->Ut P w K mg base YZ->Pm P w K mg base KA->SS P w K mg base m}:=⟨_, @λP w K mg base Z D aP dO=>go3 D Dl 4 1 rfl rfl λhr hu ar=>⟨_,(Xb (psf (Ki rfl Z.b_range (Xa Xc (Xa (Xj Xz (pv 2) Xc) Xd))) (pgn Dl 3)
   (Xb (psf (Xq (K:=K) rfl (pef aP hr (Xa (pv 3) Xd))) (pgn Dl 4)
    (Xb (psn Dl 5 (Ys K Z.b_len (Xa (pef dO hr (Xa (pv 0) (Xa (pv 4) Xd))) Xd)))
    (Xb (psn Dl 6 (Ys K Z.b_len (Xa (pef dO hr (Xa (pv 1) (Xa (pv 4) Xd))) Xd)))
    (Xb (XU (Xk Do (pv 5) (pv 6) (Xr _))
     (Xb (Xu (Yn (Xa (pv 4) (Xa (pv 5) (Xa (pv 6) Xd)))))
     Xe)
     Xe)
    Xe))))
   Xe))
  (Xb (Xu Zr)
  Xe)),λac ae aD aq aB bR=>(Fm K (λO (x5:Option V×Option V×Option V×Option V)=>[[]]) (λs x5=>[some ac,some ae,some aD,x5.1,x5.2.1,x5.2.2.1,x5.2.2.2]) (λS (g6:Unit) x5=>S) (λ_=>tg1 3) ((none),(none),(none),(none)) () qw rfl rfl (λ_ s=>s) (λg7 x8 a9 fA=>(IT K (λO (aC:Option V×Option V×Option V)=>[[]]) (λs aC=>[some ac,some ae,some aD,some fA,aC.1,aC.2.1,aC.2.2]) (λS (dM:Unit) aC=>S) (λ_ _ _=>tg1 4) ((x8.2.1),(x8.2.2.1),(x8.2.2.2)) () qN rfl rfl (λ_ s=>s) (λxs19 as20 db ba cO bY=>(X6 K (r:=Xf) (EvB.sh (Bd (Ev.toB (Qa qB (El qB))))) λdX fU=>(X6 K (r:=Xf) (EvB.sh (Bd (Ev.toB (Qa qB (El qB))))) λfD gC=>(Qi (qt K) (Xw (Jx T5 (EvS.ev (Vz qS qS qS)))) (ZY (XS ((some bY),(some fU),(some gC)) () rfl rfl)))))) λg42 dr=>(ZY (XS ((some fA),(dr.1),(dr.2.1),(dr.2.2)) () rfl rfl)))) λg46 bL=>(Xw LJ))⟩⟩
def NS:=Pu.1
theorem HB:FnScope ["_law_found","_law_due_here","_law_one"] ["_law_found","_law_due_here"] (Xg LU):={}
abbrev Lj (m:(Option (QLs×Int×Int))->(Option (QLs×Int×Int))->Rs Bool):Prop:=Fn P w K mg base 1 "_law_same" ["_law_found","_law_due_here"] (sp2 (JI (rP3 rVV Xf Xf)) (JI (rP3 rVV Xf Xf)) (oF XO) m K)
def H9:{m // Pq λP w K mg base=>Def K mg "_law_same" LU ["_law_found","_law_due_here"]->Lj P w K mg base m}:=⟨_, @λP w K mg base Z D=>go2 D HB 1 0 rfl rfl λhr hu ar=>⟨_,(Xb (XU (PW.pt (Bg (Xk Ky (pv 1) Zr (Xr _)) (Gp (Xk Ky (pv 0) Zr (Xr _)))))
   (Xb (Xu (MH (Zg Ky (pv 1) Zr (Xr _)) (MR (Zg Ky (pv 0) Zr (Xr _)))))
   Xe)
   Xe)
  (Xb (XU (PW.pt (Bg (K9 (Ja (XG J8 rfl Z.b_isinstance PyProof.Rows.boot_isinstance (Xa (pv 0) (Xa (Ba (v:=V.ty "tuple") rfl Z.b_tuple PyProof.Rows.boot_tuple rfl) Xd))))) (Bg (Xk Do (Ys K Z.b_len (Xa (pv 0) Xd)) Xc (Xr _)) (Gp (Xk (CF K rfl (AM (Ov (Ov eq_int)) (eq_int.up (by decide)) (eq_int.up (by decide))) (Hi (by decide) hu)) (pv 0) (pv 1) (Xr _))))))
   (Xb (Xu Up)
   Xe)
   Xe)
  (Xb (psf (Sf (K:=K) rfl (Xj (Uv K rfl) (XI (YQ K rfl) (pv 0) (XJ Xc) Yd) (Yj (KU K rfl) rfl Z.b_tuple PyProof.Rows.boot_tuple (Xa (Xl K (Xx K (pv 0) Xc) Xc) Xd)))) (pgn HB 2)
   (Xb (XU (PW.pt (Bg (Ja (XG J8 rfl Z.b_isinstance PyProof.Rows.boot_isinstance (Xa (pv 2) (Xa (Ba (v:=V.ty "bool") rfl Z.b_bool PyProof.Rows.boot_bool rfl) Xd)))) (Gp (K9 (Ja (XG J8 rfl Z.b_isinstance PyProof.Rows.boot_isinstance (Xa (pv 2) (Xa (Ba (v:=V.ty "int") rfl Z.b_int PyProof.Rows.boot_int rfl) Xd))))))))
    (Xb (Xu Up)
    Xe)
    Xe)
   Xe))
  (Xb (Xu Up)
  Xe)))),λac ae aq aB=>(Jb (Ku (XT (K:=K) (JW (tb:=tC .non) qB)) (XT (K:=K) (JW (tb:=tC .non) qB))) (Xw (EvS.ev (EvB.sh (Gz (JW (tb:=tC .non) qB) (JW (tb:=tC .non) qB))))) (Lh (K:=K) (r:=(rP3 rVV Xf Xf)) (λ_ s=>s.r) λa6=>(Lh (K:=K) (r:=(rP3 rVV Xf Xf)) (λ_ s=>s.l.l.r) λa7=>(Jb (Ku (CC (E4 (K:=K) (VQ "tuple" true (Eb K "tuple") qB))) (Ku (XT (K:=K) (De (Iw qB) qB)) (qt K))) (Xw qM) (Fm K (λO (bu:Option V)=>[]) (λs bu=>[some ac,some ae,bu]) (λS (fV:Unit) bu=>S) (λ_=>tg1 2) ((none)) () (EM (EvB.sh (Ux (R0 qB) (Hu (OM (PU qB) qB))))) rfl rfl (λ_ s=>s) (λfW eJ fD gC=>(Qi (Ku (E4 (K:=K) (VQ "bool" false (DN K) qB)) (CC (E4 (K:=K) (VQ "int" true (Eb K "int") qB)))) (Xw qM) (ZY (XS ((some gC)) () rfl rfl)))) λg35 c9=>(Xw qM))))))⟩⟩
def B0:=H9.1
end
theorem Qx:FnScope ["_law_script","_law_one","_law_some","_law_other","_law_moves","_law_size","_law_handed","_law_due_here","_law_found","_law_turned_due"] ["_law_script"] (Xg KW):={}
def Sj:{m:(List Int)->Rs Bool // ∀{P:Program}{w:World}{K:W.Frag}{mg:Str->Option Value}{base:Heap}{f:Addr}{fd:FuncData} (D:Fun K "law" "law" KW f fd) (bA:Bw P w K mg base GN) (aQ:Hl P w K mg base GB) (c6:SS P w K mg base NS) (aT:Gx P w K mg base VH) (bK:Lj P w K mg base B0) (bT:BE P w K mg base GD) (aX:VL P w K mg base Qs) (b8:Ii P w K mg base B5) (Z:Blt mg),FnOk P w K mg base CX0 9 f fd ["_law_script"] (sp1 (rL Xf) (oF XO) m K)}:=⟨_, @λP w K mg base f fd D bA aQ c6 aT bK bT aX b8 Z=>goL D Qx 9 1 rfl rfl λhr hu ar=>⟨_,(Xb (psn Qx 1 (pef bA hr (Xa (pv 0) (Xa Xc Xd))))
  (Xb (psn Qx 2 (pef aQ hr (Xa (pv 0) (Xa Xc (Xa (Xt (Xa Xc (Xa Xc Xd))) Xd XX)))))
  (Xb (psn Qx 3 (pef bA hr (Xa (pv 0) (Xa Xc Xd))))
  (Xb (XU (Xk YT (Xl K (pv 2) Xc) Xc (Xr _))
   (Xb (Q1 (pef bT hr (Xa (pv 0) (Xa Xc (Xa (pv 1) (Xa (Xt (Xa Yy (Xa Yy (Xa Yy (Xa Yy Xd))))) Xd XX))))) (ZJ rfl (Xs (pgn Qx 3) (Xs (pgn Qx 4) YD))))
   Xe)
   Xe)
  (Xb (XU (Xk YT (Xl K (pv 2) Xc) Xc (Xr _))
   (Xb (psn Qx 3 (Yn (Xa (Xx K (pv 1) Xc) (Xa (Yk (sc:=(Xg KW)) (N0:=["_law_script","_law_one","_law_some","_law_other","_law_moves","_law_size","_law_handed","_law_due_here","_law_found","_law_turned_due"]) (tns:=["_law_name","_law_sign"]) (caps:=[]) rfl (Xq (K:=K) rfl (Xx K (pv 1) Xc)) (C0 (by decide) (by decide)) (λcl C s H ex E=>⟨GF K rfl rfl (Xs (XC (i:=0) (show List.Nodup (["_law_name","_law_sign"]:List Str) by decide+kernel) rfl (Or.inl rfl)) (Xs (XC (i:=1) (show List.Nodup (["_law_name","_law_sign"]:List Str) by decide+kernel) rfl (Or.inl rfl)) YD)),YJ,(Yn (Xa (pv 0) (Xa (ZE YG (pv 1)) Xd)))⟩)) Xd))))
   Xe)
   Xe)
  (Xb (psn Qx 5 (XG (UR rfl) rfl Z.b_min PyProof.Rows.boot_min (Xa (pef aX hr (Xa (Xt (Xa (pv 1) (Xa (pv 3) Xd))) (Xa Xc Xd) XX)) (Xa (Xj Xz Xc (Yj Qw rfl Z.b_int PyProof.Rows.boot_int (Xa (Zg YT (Xl K (pv 2) Xc) Xc (Xr _)) Xd))) Xd))))
  (Xb (psn Qx 6 (Xt (Xa (pef b8 hr (Xa (pv 1) Xd)) (Xa (pef b8 hr (Xa (pv 3) Xd)) Xd))))
  (Xb (psn Qx 7 (pef c6 hr (Xa (pv 1) (Xa (pv 3) (Xa (pv 5) Xd)))))
  (Xb (psn Qx 8 (pef aT hr (Xa (Xl K (pv 6) Xc) (Xa (Xl K (pv 6) Xc) (Xa (pv 5) Xd)))))
  (Xb (XU (PW.pt (Bg (K9 (Ja (pef bK hr (Xa (pv 8) (Xa (pv 7) Xd))))) (Gp (Xk (CF K rfl (Ov (SY (Ov (Ov eq_int)) (Ov (SY eq_int eq_int)))) (Hi (by decide) hu)) (pv 6) (Xt (Xa (pv 1) (Xa (pv 3) Xd))) (Xr _)))))
   (Xb (Xu Up)
   Xe)
   Xe)
  (Xb (psn Qx 9 Zr)
  (Xb (XU (Xk Bj (pv 7) Zr (Xr _))
   (Xb (psn Qx 9 (Yn (Xa (Xx K (pv 7) Xc) (Xa (Xx K (pv 7) Xc) (Xa (Xx K (pv 7) Xc) Xd)))))
   Xe)
   Xe)
  (Xb (XU (K9 (Ja (pef bK hr (Xa (pef aT hr (Xa (Xl K (pv 6) Xc) (Xa (Xl K (pv 6) Xc) (Xa (pv 5) Xd)))) (Xa (pv 9) Xd)))))
   (Xb (Xu Up)
   Xe)
   Xe)
  (Xb (XU (Xk Bj (pv 8) Zr (Xr _))
   (Xb (XA (Ze PySem.F.plainAttrs_list PySem.F.slot_list_append PySem.F.type_list_append XE (Xx K (pv 8) Xc) (Xa (Xt Xd) Xd XX)))
   (Xb (XA (Ze PySem.F.plainAttrs_list PySem.F.slot_list_append PySem.F.type_list_append XE (Xl K (Xx K (pv 8) Xc) Xc) (Xa Xc Xd)))
   Xe))
   Xe)
  (Xb (Xu (pef bK hr (Xa (pef aT hr (Xa (Xl K (pv 6) Xc) (Xa (Xl K (pv 6) Xc) (Xa (pv 5) Xd)))) (Xa (pef c6 hr (Xa (pv 1) (Xa (pv 3) (Xa (pv 5) Xd)))) Xd))))
  Xe))))))))))))))),λac aq=>(X6 K qS λa1 v2=>(X6 K qS λa6 v7=>(X6 K qS λcO bY=>(Y4 (λO (bM:V×Option V)=>[[]]) (λs bM=>[some ac,some v2,some v7,some bM.1,bM.2,none,none,none,none,none]) (λS (jE:QDr) bM=>(SC.add S K rDr bM.1 jE)) (X2 (qt K) (MS (K:=K) 3 4 (Ev.sh (Mk qS qS qS qS)) λa43 v44 v45=>(XS (v44,(some v45)) (a43.1) rfl rfl)) (XS (bY,(none)) (cO) rfl rfl)) λg47 fZ=>(Y4 (λO (dZ:V)=>[[]]) (λs dZ=>[some ac,some v2,some v7,some dZ,fZ.2,none,none,none,none,none]) (λS (g54:QDr) dZ=>(SC.add S K rDr dZ g54)) (X2 (qt K) (X6 K (r:=rDr) (Uu qS (Ev.sh (YL (λ_=>tg2 0 1) qw (λC59 a60 v61=>qM)))) λa55 v56=>(XS (v56) (a55) rfl rfl)) (XS (fZ.1) (g47) rfl rfl)) λg69 x68=>(X6 K (r:=Xf) (EvB.sh (Be (Ev.toB (Qa (Ev.toB (Ji (Yw qM λ_=>(Yw qM λ_=>Qf)))) qB)) qB)) λa70 v71=>(X6 K (r:=(rV rDr)) (Ev.sh (Ji (Yw qN λ_=>(Yw qN λ_=>Qf)))) λa89 v90=>(X6 K qS λa100 v101=>(YE K 0 qN λig v107 C108=>(Jb (Ku (qt K) (XT (K:=K) (Cv qB (Ev.toB (Ji (Yw qM λ_=>(Yw qM λ_=>Qf))))))) (Xw qM) (X6 K (r:=(JI (rP3 rVV Xf Xf))) (Ev.sh (o:=(oI3 oLL Xf Xf)) LJ) λa129 v130=>(Y4 (λO (gb:V)=>[C108]) (λs gb=>[some ac,some v2,some v7,some x68,fZ.2,some v71,some v90,some v101,some v107,some gb]) (λS (g134:(Option (QLs×Int×Int))) gb=>(SC.add S K (JI (rP3 rVV Xf Xf)) gb g134)) (X2 (XT (K:=K) (Ex (tb:=tC .non) qB)) (X6 K (r:=(JI (rP3 rVV Xf Xf))) (IH (Vz (Pl (IX qS)) (SU (IX qS)) (R5 (IX qS)))) λa141 v142=>(XS (v142) (a141) rfl rfl)) (XS (v130) (a129) rfl rfl)) λg145 x144=>(Jb (qt K) (Xw qM) (Mp (K:=K) 8 0 rfl rfl (λ_ s=>s.l.l.r) λC159=>(Xw qN)))))))))))))))⟩⟩
def Ip:=Sj.1
end My
namespace L2
open PySem
section
variable {M L B ρ:Type}
def Rs.okb (a:M)(f:M->Rs L):(Rs.ok a).bind f=f a:=(Eq.refl (f a)).symm.symm
def CK {f:M->Rs L}{h:M->L}:∀{as:List M},(∀a∈as,f a= .ok (h a))->Ek as f= .ok (as.map h)
 | [],_=>rfl
 |a::as,hf=>by
  show(f a).bind _=_
  rw[hf a (by simp),Rs.ok_bind,CK λb hb=>hf b (by simp[hb])];rfl
def QN {f:M->Rs L}{h:M->L}{as:List M}(hl:as.length<=sizeLine)(hf:∀a∈as,f a= .ok (h a)):OB as f= .ok (as.map h):=by
 unfold OB;rw[Xi hl];exact CK hf
def HU {c:M->Rs Bool}{f:M->Rs L}{p:M->Bool}{h:M->L}:∀{as:List M},(∀a∈as,c a= .ok (p a))->(∀a∈as,p a=true->f a= .ok (h a))->KP as c f= .ok ((as.filter p).map h)
 | [],_,_=>rfl
 |a::as,hc,hf=>by
  show(c a).bind _=_
  rw[hc a (by simp),Rs.ok_bind]
  have ih:=HU (as:=as) (λb hb=>hc b (by simp[hb])) λb hb=>hf b (by simp[hb])
  cases hp:p a with
  |false=>rw[if_neg (by simp),ih,List.filter_cons,hp];rfl
  |true=>rw[if_pos rfl,hf a (by simp) hp,Rs.ok_bind,ih,List.filter_cons,hp];rfl
def GI {c:M->Rs Bool}{f:M->Rs L}{p:M->Bool}{h:M->L}{as:List M}(hl:as.length<=sizeLine)(hc:∀a∈as,c a= .ok (p a))(hf:∀a∈as,p a=true->f a= .ok (h a)):T6 as c f= .ok ((as.filter p).map h):=by
 unfold T6;rw[Xi hl];exact HU hc hf
def Di {f:B->M->Rs B}(P:Nat->B->Prop):∀(as:List M) (k:Nat) (g:B),P k g->(∀i a g,as[i]?=some a->P (k+i) g->∃g',f g a= .ok g'/\P (k+i+1) g')->∃g',forN as g f= .ok g'/\P (k+as.length) g'
 | [],k,g,h0,_=>⟨g,rfl,h0⟩
 |a::as,k,g,h0,hs=>by
  obtain⟨g1,e1,p1⟩:=hs 0 a g rfl h0
  obtain⟨g2,e2,p2⟩:=Di P as (k+1) g1 p1 λi b g hb hp=>by
   obtain⟨g',e',p'⟩:=hs (i+1) b g (by simpa using hb) (by rw[show k+(i+1)=k+1+i by omega];exact hp)
   exact⟨g',e',by rw[show k+1+i+1=k+(i+1)+1 by omega];exact p'⟩
  refine⟨g2,?_,by rw[List.length_cons,show k+(as.length+1)=k+1+as.length by omega];exact p2⟩
  show(f g a).bind _=_
  rw[e1,Rs.ok_bind];exact e2
def Fw {f:B->M->Rs B}(P:Nat->B->Prop){as:List M}{g:B}(h0:P 0 g)(hs:∀i a g,as[i]?=some a->P i g->∃g',f g a= .ok g'/\P (i+1) g'):∃g',forN as g f= .ok g'/\P as.length g':=by
 have:=Di P as 0 g h0 (by simpa using hs)
 simpa using this
def Kz {f:List L->M->Rs (List L)}{h:M->L}:∀{as:List M}{g:List L},g.length+as.length<=sizeLine->(∀g:List L,g.length<sizeLine->∀a∈as,f g a= .ok (g++[h a]))->forN as g f= .ok (g++as.map h)
 | [],g,_,_=>by simp[forN]
 |a::as,g,hl,hf=>by
  show(f g a).bind _=_
  rw[List.length_cons] at hl
  rw[hf g (by omega) a (by simp),Rs.ok_bind,Kz (by simp;omega) λg hg b hb=>hf g hg b (by simp[hb])]
  simp
def ET {f:B->M->Rs (Ctl ρ B)}:∀{as:List M}{g:B},(∀a∈as,f g a= .ok (.nx g))->JO as g f= .ok (.nx g)
 | [],_,_=>rfl
 |a::as,g,hf=>by
  show(f g a).bind _=_
  rw[hf a (by simp),Rs.ok_bind]
  exact ET λb hb=>hf b (by simp[hb])
def Yx {a b:Int}(h:0<b):Wt a b= .ok (a % b):=Xi h
def Zy {a b:Int}(h1: -(2^64)<a)(h2:a<2^64):MZ a b= .ok (a*b):=Xi (.inl ⟨h1,h2⟩)
def QH {a b:Int}(h1: -(2^64)<b)(h2:b<2^64):MZ a b= .ok (a*b):=Xi (.inr ⟨h1,h2⟩)
def LX {a b:Int}(h:0<b)(h2:b<2^250):AF a b= .ok (a/b):=Xi ⟨h,by
 have h3:b.natAbs<2^250:=by omega
 rcases Nat.eq_zero_or_pos b.natAbs with h0 |h0
 ·omega
 ·have:=(Nat.log2_lt (by omega)).mpr h3
  omega⟩
def K6 {a b:Int}(h0:0<=b)(h1:b<=1000000)(h2: -(2^64)<a)(h3:a<2^64):W5 a b= .ok (a^b.toNat):=Xi ⟨h0,h1,by omega⟩
def Yp {as:List M}{i:Nat}{a:M}(h:as[i]?=some a):atR as (i:Int)= .ok a:=by
 have ah:=(List.getElem?_eq_some_iff.mp h).1
 unfold atR atI ixN
 rw[if_pos (by omega),if_pos (by omega)]
 simp[h]
def Jg {as:List M}{i:Int}{a:M}(h0:0<=i)(h:as[i.toNat]?=some a):atR as i= .ok a:=by
 have:i=(i.toNat:Int):=by omega
 rw[this];exact Yp h
def Y5 {n:Nat}(h:n<2^62):MY 0 (n:Int)= .ok ((List.range n).map λ(i:Nat)=>(i:Int)):=by
 unfold MY
 rw[Xi (by omega)]
 unfold VA
 congr 1
 rw[Int.sub_zero,Int.toNat_natCast]
 exact List.map_congr_left λi _=>by omega
def X8 {n i:Nat}{a:Int}(h:((List.range n).map λ(i:Nat)=>(i:Int))[i]?=some a):a=(i:Int)/\i<n:=by
 have ah:=(List.getElem?_eq_some_iff.mp h).1
 simp only[List.length_map,List.length_range] at ah
 rw[List.getElem?_map,List.getElem?_range ah] at h
 exact⟨(Option.some.inj h).symm,ah⟩
def UN {n:Nat}{a:Int}(h:a∈(List.range n).map λ(i:Nat)=>(i:Int)):∃i:Nat,i<n/\a=(i:Int):=by
 obtain⟨i,hi,rfl⟩:=List.mem_map.mp h
 exact⟨i,List.mem_range.mp hi,rfl⟩
def X1 {n:Nat}:((List.range n).map λ(i:Nat)=>(i:Int)).length=n:=by simp
def HF {a:Bool}{b:Rs Bool}{c:Bool}(h:a=true->b= .ok c):Pe (.ok a) b= .ok (a&&c):=by
 cases a with
 |false=>rfl
 |true=>
  show(if true=true then b else Rs.ok false)=_
  rw[if_pos rfl,h rfl];rfl
def sz {n:Nat}(h:n<=100000):n<=sizeLine:=Nat.le_trans h (by decide)
def Gg {n:Nat}(h:n<=100000):n<sizeLine:=Nat.lt_of_le_of_lt h (by decide)
def Ok (m:Rs L)(R:L->Prop):Prop:=∃ r,m= .ok r/\R r
def Ok.bind {m:Rs M}{f:M->Rs L}{R:M->Prop}{T:L->Prop}(h:Ok m R)(hf:∀a,R a->Ok (f a) T):Ok (m.bind f) T:=by
 obtain⟨a,e,ha⟩:=h
 rw[e];exact hf a ha
def Ok.imp {m:Rs M}{R T:M->Prop}(h:Ok m R)(hf:∀a,R a->T a):Ok m T:=by
 obtain⟨a,e,ha⟩:=h
 exact⟨a,e,hf a ha⟩
def Ok.noE {m:Rs M}{R:M->Prop}(h:Ok m R):Ok (noE m) R:=by
 obtain⟨a,e,ha⟩:=h
 rw[e];exact⟨a,rfl,ha⟩
def Ok.ite {b:Bool}{m n:Rs M}{R:M->Prop}(h1:b=true->Ok m R)(h2:b=false->Ok n R):Ok (if b=true then m else n) R:=by
 cases b with
 |true=>rw[if_pos rfl];exact h1 rfl
 |false=>rw[if_neg Bool.false_ne_true];exact h2 rfl
def Ok.forN {f:B->M->Rs B}(P:Nat->B->Prop){as:List M}{g:B}(h0:P 0 g)(hs:∀i a g,as[i]?=some a->P i g->Ok (f g a) (P (i+1))):Ok (forN as g f) (P as.length):=Fw P h0 hs
def Ur {f:B->Rs ρ}(g:B):Kg f (.nx g)=f g:=(Eq.refl (f g)).symm.symm
def Kh {f:B->Rs ρ}(r:ρ):Kg f (.ret r)= .ok r:=(Eq.refl (Rs.ok r)).symm.symm
def Xo (a:M):noE (Rs.ok a)= .ok a:=(Eq.refl (Rs.ok a)).symm.symm
def Ok.eq {m:Rs M}{a:M}(h:Ok m (λb=>b=a)):m= .ok a:=by
 obtain⟨b,e,rfl⟩:=h
 exact e
end
end L2
namespace My
open PySem L2
theorem Lu (ns:List Int){p:Int}(hp:0<=p):∃c,B9 ns p= .ok c:=by
 unfold B9 Io;dsimp only
 simp only[Rs.okb]
 by_cases h:p<(ns.length:Int)
 ·rw[decide_eq_true h,if_pos rfl]
  have hl:p.toNat<ns.length:=by omega
  exact⟨ns[p.toNat],Jg hp (by simp[hl])⟩
 ·rw[decide_eq_false h,if_neg Bool.false_ne_true]
  obtain⟨g,e,_⟩:=Fw (as:=KR ns none (some 63)) (g:=(5:Int)) (f:=λdb cO=>(Rs.bind (Rs.bind (Rs.bind (Rs.bind (MZ db 48271) λx25=>(Rs.bind (Wt cO 1000003) λeJ=>(Rs.ok (x25+eJ)))) λbM=>Rs.ok (bM+1)) λx29=>Wt x29 2147483647) λjD=>(Rs.ok (jD)))) (λ_ _=>True) True.intro λi a g _ _=>by
   rw[QH (by decide) (by decide),Rs.ok_bind,Yx (by decide),Rs.ok_bind,Rs.ok_bind,Rs.ok_bind,Yx (by decide),Rs.ok_bind]
   exact⟨_,rfl,True.intro⟩
  rw[e,Rs.ok_bind,Zy (by decide) (by decide),Rs.ok_bind,Rs.ok_bind,Yx (by decide)]
  exact⟨_,rfl⟩
theorem OZ (c:Int){k:Int}(h0:0<=k)(h1:k<=100000):∃y,Oo c k= .ok y/\0<=y:=by
 unfold Oo Sr;dsimp only
 simp only[Rs.okb]
 have hm:0<=c % 2147483629/\c % 2147483629<2147483629:=⟨Int.emod_nonneg _ (by decide),Int.emod_lt_of_pos _ (by decide)⟩
 rw[Yx (by decide),Rs.ok_bind,Zy (by decide) (by decide),Rs.ok_bind,Rs.ok_bind,Rs.ok_bind,K6 (by decide) (by decide) (by omega) (by omega),Rs.ok_bind,Yx (by decide),Rs.ok_bind]
 rw[QH (by decide) (by decide),Rs.ok_bind,Zy (by decide) (by decide),Rs.ok_bind,QH (by omega) (by omega),Rs.ok_bind,Rs.ok_bind,Rs.ok_bind,Yx (by decide),Rs.ok_bind,LX (by decide) (by decide)]
 exact⟨_,rfl,Int.ediv_nonneg (Int.emod_nonneg _ (by decide)) (by decide)⟩
theorem EE (ns:List Int){p:Int}(hp:0<=p)(aM:List Int)(hl:aM.length<=100000)(hs:∀x∈aM,0<x/\x<2^250):
  Ok (GB ns p aM) λr=>r.length=aM.length/\∀(i:Nat) x s,r[i]?=some x->aM[i]?=some s->0<=x/\x<s:=by
 obtain⟨c,ec⟩:=Lu ns hp
 unfold GB SO;dsimp only
 simp only[Rs.okb]
 rw[ec,show noE (Rs.ok c)= .ok c from rfl,Rs.ok_bind,Y5 (by omega),Rs.ok_bind,K6 (by decide) (by decide) (by decide) (by decide)]
 simp only[Rs.okb]
 have key:∀(i:Nat) (a:Int) (g:List Int×Int),((List.range aM.length).map λ(i:Nat)=>(i:Int))[i]?=some a->(g.1.length=i/\∀(j:Nat) x s,g.1[j]?=some x->aM[j]?=some s->0<=x/\x<s)->∀y z:Int,∀s,aM[i]?=some s->0<=y/\y<s->((g.1++[y],z).1.length=i+1/\∀(j:Nat) x s,(g.1++[y],z).1[j]?=some x->aM[j]?=some s->0<=x/\x<s):=by
  intro i a g ha ⟨hg,hq⟩ y z s hs1 hy
  refine⟨by simp[hg],λj x s' hx dP=>?_⟩
  have hx:(g.1++[y])[j]?=some x:=hx
  rcases Nat.lt_trichotomy j i with hj |hj |hj
  ·rw[List.getElem?_append_left (by omega)] at hx;exact hq j x s' hx dP
  ·subst hj
   rw[List.getElem?_append_right (by omega),hg,Nat.sub_self] at hx
   have:y=x:=by simpa using hx
   rw[hs1] at dP
   cases dP
   rw[←this];exact hy
  ·rw[List.getElem?_eq_none (by simp;omega)] at hx;cases hx
 refine Ok.bind (Ok.forN (λi (g:List Int×Int)=>g.1.length=i/\∀(j:Nat) x s,g.1[j]?=some x->aM[j]?=some s->0<=x/\x<s) ⟨rfl,λj x s h _=>by simp at h⟩ λi a g ha hg=>?_) (T:=λ(r:List Int)=>r.length=aM.length/\∀(i:Nat) x s,r[i]?=some x->aM[i]?=some s->0<=x/\x<s) λg ⟨hg,hq⟩=>?_
 ·obtain⟨rfl,hi⟩:=X8 ha
  have hsz:aM[i]?=some aM[i]:=by simp[hi]
  have cS:=hs _ (List.getElem_mem hi)
  have hgl:g.1.length<sizeLine:=Gg (by have:=hg.1;omega)
  by_cases hc:c<10^(18:Int).toNat
  ·rw[decide_eq_true hc,if_pos rfl]
   obtain⟨y,ey,hy⟩:=OZ c (k:=(i:Int)) (by omega) (by omega)
   rw[ey,show noE (Rs.ok y)= .ok y from rfl,Rs.ok_bind,Yp hsz,Rs.ok_bind,Yx cS.1,Rs.ok_bind,Xi hgl]
   exact⟨_,rfl,key i _ g ha hg _ _ _ hsz ⟨Int.emod_nonneg _ (by omega),Int.emod_lt_of_pos _ cS.1⟩⟩
  ·rw[decide_eq_false hc,if_neg Bool.false_ne_true]
   by_cases hq:0<g.2
   ·rw[decide_eq_true hq,if_pos rfl,Yp hsz,Rs.ok_bind,Yx cS.1,Rs.ok_bind,Xi hgl]
    simp only[Rs.okb]
    rw[LX cS.1 cS.2]
    exact⟨_,rfl,key i _ g ha hg _ _ _ hsz ⟨Int.emod_nonneg _ (by omega),Int.emod_lt_of_pos _ cS.1⟩⟩
   ·rw[decide_eq_false hq,if_neg Bool.false_ne_true,Yx (by decide),Rs.ok_bind]
    obtain⟨c2,ec2⟩:=Lu ns (p:=(p+1+(i:Int)) % 63) (Int.emod_nonneg _ (by decide))
    obtain⟨y,ey,hy⟩:=OZ c2 (k:=(i:Int)) (by omega) (by omega)
    rw[ec2,show noE (Rs.ok c2)= .ok c2 from rfl,Rs.ok_bind,ey,show noE (Rs.ok y)= .ok y from rfl,Rs.ok_bind,Yp hsz,Rs.ok_bind,Yx cS.1,Rs.ok_bind,Xi hgl]
    exact⟨_,rfl,key i _ g ha hg _ _ _ hsz ⟨Int.emod_nonneg _ (by omega),Int.emod_lt_of_pos _ cS.1⟩⟩
 ·rw[X1] at hg
  exact⟨g.1,rfl,hg,hq⟩
end My
namespace My
def Vm (n:Nat)(f:Nat->Nat->Nat)(a:Nat):List Int:=(List.range n).map λb=>(f a b:Int)
def Q2 (n:Nat)(f:Nat->Nat->Nat):QLs:=(List.range n).map (Vm n f)
theorem Db (n:Nat)(f:Nat->Nat->Nat)(a:Nat):(Vm n f a).length=n:=by simp[Vm]
theorem Zs (n:Nat)(f:Nat->Nat->Nat):(Q2 n f).length=n:=by simp[Q2]
theorem Dy {n:Nat}{f:Nat->Nat->Nat}{a b:Nat}(h:b<n):(Vm n f a)[b]?=some (f a b:Int):=by
 unfold Vm;rw[List.getElem?_map,List.getElem?_range h];rfl
theorem U5 {n:Nat}{f:Nat->Nat->Nat}{a:Nat}(h:a<n):(Q2 n f)[a]?=some (Vm n f a):=by
 unfold Q2;rw[List.getElem?_map,List.getElem?_range h];rfl
structure Col (n:Nat)(f:Nat->Nat->Nat):Prop where
 lt:∀a b,a<n->b<n->f a b<n
 r2:∀x y b,x<n->y<n->b<n->f x b=f y b->x=y
structure GoodF (n:Nat)(f:Nat->Nat->Nat):Prop extends Col n f where
 r1:∀a,a<n->f a a=a
 r3:∀a b c,a<n->b<n->c<n->f (f a b) c=f (f a c) (f b c)
theorem GoodF.congr {n:Nat}{f g:Nat->Nat->Nat}(h:GoodF n f)(e:∀a b,a<n->b<n->g a b=f a b):GoodF n g where
 lt a b ha hb:=by rw[e a b ha hb];exact h.lt a b ha hb
 r2 x y b hx hy hb q:=by rw[e x b hx hb,e y b hy hb] at q;exact h.r2 x y b hx hy hb q
 r1 a ha:=by rw[e a a ha ha];exact h.r1 a ha
 r3 a b c ha hb hc:=by
  rw[e a b ha hb,e a c ha hc,e b c hb hc,e _ c (h.lt a b ha hb) hc,e _ _ (h.lt a c ha hc) (h.lt b c hb hc)]
  exact h.r3 a b c ha hb hc
end My
namespace My
open PySem L2
theorem Mz {n:Nat}{f:Nat->Nat->Nat}{a:Nat}(h:a<n):atR (Q2 n f) (a:Int)= .ok (Vm n f a):=Yp (U5 h)
theorem LV {n:Nat}{f:Nat->Nat->Nat}{a b:Nat}(h:b<n):atR (Vm n f a) (b:Int)= .ok (f a b:Int):=Yp (Dy h)
theorem Zz {M:Type}{as:List M}{i:Nat}{a:M}(h:i<as.length):JK as (i:Int) a= .ok (as.set i a):=by
 unfold JK ixN
 rw[if_pos (by omega),if_pos (by omega)]
 simp
theorem Tx {as:List Int}{i:Nat}(h:i<as.length)(hl:as.length<=100000):NG as (i:Int)= .ok (as[i],as.eraseIdx i):=by
 unfold NG
 rw[Xi (by omega)]
 have e:seqIndex? (i:Int) as.length=some i:=by
  unfold seqIndex?
  have h0:¬((i:Int)<0):=by omega
  simp[h0,h]
 rw[e]
 simp[h]
end My
namespace My
theorem Ju (names:List Int):(names.flatMap λx=>[x,-x]).length=2*names.length:=by
 induction names with
 |nil=>rfl
 |cons x r ih=>rw[List.flatMap_cons,List.length_append,ih];simp;omega
theorem VR {M:Type}:∀{l:List M}{k:Nat}{y:M},l[k]?=some y->(y::l.eraseIdx k).Perm l
 | [],_,_,e=>by simp at e
 |a::r,0,y,e=>by
  have e':a=y:=by simpa using e
  subst e';exact List.Perm.refl _
 |a::r,k+1,y,e=>by
  have e':r[k]?=some y:=by simpa using e
  show(y::a::r.eraseIdx k).Perm (a::r)
  exact(List.Perm.swap a y _).trans (List.Perm.cons a (VR e'))
theorem FY {M:Type}{l:List M}{k:Nat}{y:M}(e:l[k]?=some y):(l.eraseIdx k).length+1=l.length:=by
 have:=(VR e).length_eq
 simpa using this
theorem EQ {M:Type}:∀{ws:List (List M)}{j:Nat}{w:List M}{y:M},ws[j]?=some w->((ws.set j (w++[y])).flatten).Perm (y::ws.flatten)
 | [],_,_,_,e=>by simp at e
 |a::r,0,w,y,e=>by
  have e':a=w:=by simpa using e
  subst e'
  show((a++[y])++r.flatten).Perm (y::(a++r.flatten))
  rw[List.append_assoc]
  exact List.perm_middle
 |a::r,j+1,w,y,e=>by
  have e':r[j]?=some w:=by simpa using e
  show(a++(r.set j (w++[y])).flatten).Perm (y::(a++r.flatten))
  exact(List.Perm.append_left a (EQ e')).trans List.perm_middle
theorem HA {M:Type}{ws:List (List M)}{j k:Nat}{w l:List M}{y:M}(e:ws[j]?=some w)(e3:l[k]?=some y):((ws.set j (w++[y])).flatten++l.eraseIdx k).Perm (ws.flatten++l):=by
 refine((EQ (y:=y) e).append_right _).trans ?_
 rw[List.cons_append]
 refine List.perm_middle.symm.trans ?_
 exact List.Perm.append_left _ (VR e3)
theorem mem_set {M:Type}:∀{l:List M}{j:Nat}{v x:M},x∈l.set j v->x∈l∨x=v
 | [],_,_,_,h=>by simp at h
 |a::r,0,v,x,h=>by
  rw[List.set_cons_zero] at h
  rcases List.mem_cons.mp h with h |h
  ·exact .inr h
  ·exact .inl (List.mem_cons_of_mem _ h)
 |a::r,j+1,v,x,h=>by
  rw[List.set_cons_succ] at h
  rcases List.mem_cons.mp h with h |h
  ·exact .inl (by rw[h];exact List.mem_cons_self)
  ·rcases mem_set h with h |h
   ·exact .inl (List.mem_cons_of_mem _ h)
   ·exact .inr h
theorem F0:∀{l:List Bool}{j:Nat},l[j]?=some false->(l.set j true).count false+1=l.count false
 | [],_,e=>by simp at e
 |a::r,0,e=>by
  have e':a=false:=by simpa using e
  subst e';simp
 |a::r,j+1,e=>by
  have e':r[j]?=some false:=by simpa using e
  have ih:=F0 e'
  rw[List.set_cons_succ,List.count_cons,List.count_cons]
  omega
end My
namespace My
def Cb (r:Int×Int)(at':Int):List Int:=if at'=r.1 then[r.2] else if at'=r.1+1 then[-r.2] else[]
def Ga (r:Int×Int)(at':Int):Int:=if at'=r.1 then r.1+1 else if at'=r.1+1 then r.1 else at'
def ND:QPs->Int->Int
 | [],a=>a
 |r::rs,a=>ND rs (Ga r a)
def Bc:QPs->Int->List Int
 | [],_=>[]
 |r::rs,a=>Cb r a++Bc rs (Ga r a)
theorem IU (rs:QPs)(r:Int×Int):∀a,ND (rs++[r]) a=Ga r (ND rs a):=by
 induction rs with
 |nil=>intro a;rfl
 |cons q rs ih=>intro a;exact ih _
theorem LY (rs:QPs)(r:Int×Int):∀a,Bc (rs++[r]) a=Bc rs a++Cb r (ND rs a):=by
 induction rs with
 |nil=>intro a;simp[Bc,ND]
 |cons q rs ih=>intro a;simp[Bc,ND,ih]
theorem BM {S:Int}{r:Int×Int}{a:Int}(h0:0<=r.1)(h1:r.1+1<S)(a0:0<=a)(a1:a<S):0<=Ga r a/\Ga r a<S:=by
 unfold Ga
 split
 ·omega
 ·split<;> omega
def E2 (S:Nat):List Int:=(List.range S).map λ(k:Nat)=>(k:Int)
theorem Jy {S:Nat}{x:Int}:x∈E2 S↔0<=x/\x<(S:Int):=by
 unfold E2
 rw[List.mem_map]
 constructor
 ·rintro⟨k,hk,rfl⟩
  have:=List.mem_range.mp hk
  omega
 ·rintro⟨h0,h1⟩
  exact⟨x.toNat,List.mem_range.mpr (by omega),by omega⟩
theorem QL {M L:Type}{f:M->L}:∀{l:List M},(∀a b,a∈l->b∈l->f a=f b->a=b)->l.Nodup->(l.map f).Nodup
 | [],_,_=>List.nodup_nil
 |a::r,h,nd=>by
  rw[List.map_cons,List.nodup_cons]
  refine⟨λm=>?_,QL (λx y hx hy=>h x y (List.mem_cons_of_mem _ hx) (List.mem_cons_of_mem _ hy)) (List.nodup_cons.mp nd).2⟩
  obtain⟨b,hb,e⟩:=List.mem_map.mp m
  have:=h b a (List.mem_cons_of_mem _ hb) List.mem_cons_self e
  exact(List.nodup_cons.mp nd).1 (by rw[←this];exact hb)
theorem JF (S:Nat):(E2 S).Nodup:=QL (λa b _ _ e=>by omega) List.nodup_range
theorem VX {M:Type}[DecidableEq M]:∀{l m:List M},l.Nodup->m.Nodup->(∀x,x∈l↔x∈m)->l.Perm m
 | [],m,_,_,h=>by
  cases m with
  |nil=>exact List.Perm.refl _
  |cons a r=>exact absurd ((h a).mpr List.mem_cons_self) (by simp)
 |a::r,m,nl,nm,h=>by
  have ha:a∈m:=(h a).mp List.mem_cons_self
  have hp:m.Perm (a::m.erase a):=List.perm_cons_erase ha
  refine List.Perm.trans (List.Perm.cons a ?_) hp.symm
  have fu:(a::m.erase a).Nodup:=hp.nodup_iff.mp nm
  refine VX (List.nodup_cons.mp nl).2 (List.nodup_cons.mp fu).2 λx=>?_
  constructor
  ·intro hx
   have kg:x≠a:=λe=>(List.nodup_cons.mp nl).1 (by rw[←e];exact hx)
   have:x∈a::m.erase a:=hp.mem_iff.mp ((h x).mp (List.mem_cons_of_mem _ hx))
   exact(List.mem_cons.mp this).resolve_left kg
  ·intro hx
   have kg:x≠a:=λe=>(List.nodup_cons.mp fu).1 (e▸hx)
   have:x∈a::r:=(h x).mpr (hp.mem_iff.mpr (List.mem_cons_of_mem _ hx))
   exact(List.mem_cons.mp this).resolve_left kg
theorem Ls {S:Nat}{r:Int×Int}(h0:0<=r.1)(h1:r.1+1<(S:Int)):((E2 S).map (Ga r)).Perm (E2 S):=by
 refine VX (QL (λa b _ _ e=>?_) (JF S)) (JF S) λx=>?_
 ·unfold Ga at e
  split at e<;> split at e<;> (try split at e)<;> (try split at e)<;> omega
 ·rw[List.mem_map,Jy]
  constructor
  ·rintro⟨a,ha,rfl⟩
   have:=Jy.mp ha
   exact BM h0 h1 this.1 this.2
  ·rintro⟨x0,x1⟩
   refine⟨Ga r x,Jy.mpr (BM h0 h1 x0 x1),?_⟩
   unfold Ga
   split<;> (try split)<;> (try split)<;> omega
theorem Jo {M L:Type}(f:M->List L){l m:List M}(h:l.Perm m):(l.flatMap f).Perm (m.flatMap f):=by
 induction h with
 |nil=>exact List.Perm.refl _
 |cons x _ ih=>rw[List.flatMap_cons,List.flatMap_cons];exact List.Perm.append_left _ ih
 |swap x y l=>
  rw[List.flatMap_cons,List.flatMap_cons,List.flatMap_cons,List.flatMap_cons, ←List.append_assoc, ←List.append_assoc]
  exact List.Perm.append_right _ List.perm_append_comm
 |trans _ _ ih1 ih2=>exact ih1.trans ih2
theorem U6 {M L:Type}(f g:M->List L):∀l:List M,(l.flatMap λx=>f x++g x).Perm (l.flatMap f++l.flatMap g)
 | []=>List.Perm.refl _
 |a::r=>by
  rw[List.flatMap_cons,List.flatMap_cons,List.flatMap_cons]
  refine(List.Perm.append_left _ (U6 f g r)).trans ?_
  rw[List.append_assoc,List.append_assoc]
  refine List.Perm.append_left _ ?_
  rw[←List.append_assoc, ←List.append_assoc]
  exact List.Perm.append_right _ List.perm_append_comm
theorem Vc {M L:Type}(f:M->List L):∀{l:List M},(∀x∈l,f x=[])->l.flatMap f=[]
 | [],_=>rfl
 |a::r,h=>by rw[List.flatMap_cons,h a List.mem_cons_self,Vc f λx hx=>h x (List.mem_cons_of_mem _ hx)];rfl
theorem M2 {S:Nat}{r:Int×Int}(h0:0<=r.1)(h1:r.1+1<(S:Int)):((E2 S).flatMap (Cb r)).Perm [r.2,-r.2]:=by
 have ha:r.1∈E2 S:=Jy.mpr ⟨h0,by omega⟩
 have hp:=List.perm_cons_erase ha
 have nd:=hp.nodup_iff.mp (JF S)
 have hb:r.1+1∈(E2 S).erase r.1:=by
  have:r.1+1∈r.1::(E2 S).erase r.1:=hp.mem_iff.mp (Jy.mpr ⟨by omega,h1⟩)
  exact(List.mem_cons.mp this).resolve_left (by omega)
 have hq:=List.perm_cons_erase hb
 have fu:=hq.nodup_iff.mp (List.nodup_cons.mp nd).2
 refine(Jo _ (hp.trans (List.Perm.cons _ hq))).trans ?_
 rw[List.flatMap_cons,List.flatMap_cons,Vc]
 ·unfold Cb
  rw[if_pos rfl,if_neg (by omega),if_pos rfl]
  exact List.Perm.refl _
 ·intro x hx
  have x2:x≠r.1+1:=λe=>(List.nodup_cons.mp fu).1 (e▸hx)
  have x1:x≠r.1:=λe=>(List.nodup_cons.mp nd).1 (e▸hq.mem_iff.mpr (List.mem_cons_of_mem _ hx))
  unfold Cb
  rw[if_neg x1,if_neg x2]
theorem flatMap_map {M L B:Type}(f:M->L)(g:L->List B)(l:List M):(l.map f).flatMap g=l.flatMap λx=>g (f x):=by
 induction l with
 |nil=>rfl
 |cons a r ih=>rw[List.map_cons,List.flatMap_cons,List.flatMap_cons,ih]
theorem BZ {S:Nat}:∀{rs:QPs},(∀r∈rs,0<=r.1/\r.1+1<(S:Int))->((E2 S).flatMap (Bc rs)).Perm (rs.flatMap λr=>[r.2,-r.2])
 | [],_=>by rw[Vc (Bc []) (λx _=>rfl)];exact List.Perm.refl _
 |r::rs,h=>by
  obtain⟨h0,h1⟩:=h r List.mem_cons_self
  rw[List.flatMap_cons]
  refine(U6 (Cb r) (λa=>Bc rs (Ga r a)) (E2 S)).trans ?_
  refine List.Perm.append (M2 h0 h1) ?_
  rw[←flatMap_map (Ga r) (Bc rs)]
  exact(Jo _ (Ls h0 h1)).trans (BZ λq hq=>h q (List.mem_cons_of_mem _ hq))
theorem PX {x s:Int}(h:s=1∨s= -1): [x*s,-(x*s)].Perm [x,-x]:=by
 rcases h with h |h
 ·subst h;simp
 ·subst h
  have e1:x* -1= -x:=by omega
  have e2: -(-x)=x:=by omega
  rw[e1,e2]
  exact List.Perm.swap _ _ _
theorem VB {M L:Type}{f g:M->List L}:∀{l:List M},(∀x∈l,(f x).Perm (g x))->(l.flatMap f).Perm (l.flatMap g)
 | [],_=>List.Perm.refl _
 |a::r,h=>by
  rw[List.flatMap_cons,List.flatMap_cons]
  exact List.Perm.append (h a List.mem_cons_self) (VB λx hx=>h x (List.mem_cons_of_mem _ hx))
end My
namespace My
theorem Sn {r:Int×Int}{a:Int}(h:a=r.1):Cb r a=[r.2]:=by unfold Cb;rw[if_pos h]
theorem Pj {r:Int×Int}{a:Int}(h:a=r.1+1):Cb r a=[-r.2]:=by unfold Cb;rw[if_neg (by omega),if_pos h]
theorem SJ {r:Int×Int}{a:Int}(h:¬a=r.1)(h2:¬a=r.1+1):Cb r a=[]:=by unfold Cb;rw[if_neg h,if_neg h2]
theorem P8 {r:Int×Int}{a:Int}(h:a=r.1):Ga r a=r.1+1:=by unfold Ga;rw[if_pos h]
theorem S7 {r:Int×Int}{a:Int}(h:a=r.1+1):Ga r a=r.1:=by unfold Ga;rw[if_neg (by omega),if_pos h]
theorem SI {r:Int×Int}{a:Int}(h:¬a=r.1)(h2:¬a=r.1+1):Ga r a=a:=by unfold Ga;rw[if_neg h,if_neg h2]
structure Done (S:Int)(seen:List Bool)(ps:List Int):Prop where
 nd:ps.Nodup
 at':∀p∈ps,0<=p/\p<S/\seen[p.toNat]?=some true
 of:∀q:Nat,seen[q]?=some true->(q:Int)∈ps
theorem Done.none (S:Int)(n:Nat):Done S (List.replicate n false) []:=
 ⟨List.nodup_nil,λp h=>by simp at h,λq h=>by
  rw[List.getElem?_replicate] at h
  split at h<;> cases h⟩
theorem GS {l:List Bool}{j q:Nat}(h:l[q]?=some true):(l.set j true)[q]?=some true:=by
 by_cases e:j=q
 ·subst e
  rw[List.getElem?_set_self (List.getElem?_eq_some_iff.mp h).1]
 ·rw[List.getElem?_set_ne e];exact h
theorem Done.snoc {S:Int}{seen:List Bool}{ps:List Int}{a:Int}(h:Done S seen ps)(a0:0<=a)(a1:a<S)(e:seen[a.toNat]?=some false):Done S (seen.set a.toNat true) (ps++[a]):=by
 have hl:a.toNat<seen.length:=(List.getElem?_eq_some_iff.mp e).1
 have hn:a∉ps:=λm=>by
  have:=(h.at' a m).2.2
  rw[e] at this;cases this
 refine⟨?_,λp hp=>?_,λq hq=>?_⟩
 ·rw[List.nodup_append]
  refine⟨h.nd,by simp,λx hx y hy=>?_⟩
  rw[List.mem_singleton.mp hy]
  exact λe=>hn (e▸hx)
 ·rcases List.mem_append.mp hp with hp |hp
  ·obtain⟨h1,h2,h3⟩:=h.at' p hp
   exact⟨h1,h2,GS h3⟩
  ·rw[List.mem_singleton.mp hp]
   exact⟨a0,a1,by rw[List.getElem?_set_self hl]⟩
 ·by_cases hqa:a.toNat=q
  ·exact List.mem_append_right _ (List.mem_singleton.mpr (by omega))
  ·rw[List.getElem?_set_ne hqa] at hq
   exact List.mem_append_left _ (h.of q hq)
theorem Done.all {S:Int}{seen:List Bool}{ps:List Int}(h:Done S seen ps)(hl:seen.length=S.toNat)(h0:0<=S)(ha:∀q:Nat,q<S.toNat->seen[q]?=some true):ps.Perm (E2 S.toNat):=by
 refine VX h.nd (JF _) λx=>?_
 rw[Jy]
 constructor
 ·intro hx
  obtain⟨h1,h2,_⟩:=h.at' x hx
  omega
 ·rintro⟨x0,x1⟩
  have:=h.of x.toNat (ha x.toNat (by omega))
  rw[show((x.toNat:Nat):Int)=x by omega] at this
  exact this
theorem Es {seen:List Bool}{i:Nat}(h:∀q:Nat,q<i->seen[q]?=some true)(hi:seen[i]?=some true):∀q:Nat,q<i+1->seen[q]?=some true:=λq hq=>by
 by_cases e:q=i
 ·subst e;exact hi
 ·exact h q (by omega)
end My
namespace My
open PySem L2
theorem Yq {M:Type}{r:List M}{k:Int}{n:Nat}(e:k=(n:Int))(h:n<r.length):atR r k= .ok r[n]:=by
 subst e;exact Yp (by simp[h])
theorem G9 {B:Type}{c:B->Rs Bool}{f:B->Rs B}(P:B->Prop)(μ:B->Nat)(hs:∀g,P g->∃b,c g= .ok b/\(b=true->Ok (f g) λg'=>P g'/\μ g'<μ g)):∀(n:Nat) (g:B),P g->μ g<n->Ok (Kf n g c f) λg'=>P g'/\c g'= .ok false
 |0,_,_,h=>by omega
 |n+1,g,hp,hm=>by
  obtain⟨b,hb,h⟩:=hs g hp
  show Ok ((c g).bind _) _
  rw[hb,Rs.okb]
  cases b with
  |false=>rw[if_neg Bool.false_ne_true];exact⟨g,rfl,hp,hb⟩
  |true=>
   rw[if_pos rfl]
   exact Ok.bind (h rfl) λg' h'=>G9 P μ hs n g' h'.1 (by omega)
def Sg (l:QPs):Prop:=l.Pairwise (λx y=>x.1<y.1)/\∀e∈l,1<=e.1
def kys (l:QPs):List Int:=l.map (·.1)
theorem Sg.kn {l:QPs}(h:Sg l):(kys l).Nodup:=by
 unfold kys
 exact List.Pairwise.map _ (λa b z e=>by omega) h.1
theorem C8 {l:QPs}(h:(kys l).Nodup):l.Nodup:=List.Pairwise.of_map _ (λa b z e=>z (congrArg _ e)) h
theorem Sg.rise {l:QPs}(h:Sg l):l.Pairwise λx y=>ltP x y=true:=
 h.1.imp fun {a b} z=>by unfold ltP;rw[if_neg (by omega)];simpa using z
theorem Sg.sort {l:QPs}(h:Sg l):Zt ltP l=l:=(G6 F7 (C8 h.kn) (List.Perm.refl _) h.rise).symm
theorem Ar {l:QPs}(h:(kys l).Nodup)(h1:∀e∈l,1<=e.1):Sg (Zt ltP l):=by
 have hp:=YC ltP l
 have hk:(kys (Zt ltP l)).Nodup:=((List.Perm.map (λe:Int×Int=>e.1) hp).nodup_iff).mpr h
 refine⟨?_,λe he=>h1 e (hp.mem_iff.mp he)⟩
 have r:=V2 F7 (C8 h)
 have dL:(Zt ltP l).Pairwise λx y=>x.1≠y.1:=List.Pairwise.of_map (·.1) (λa b z=>z) hk
 refine(r.and dL).imp fun {a b} z=>?_
 have z1:=z.1
 unfold ltP at z1
 rw[if_neg z.2] at z1
 simpa using z1
theorem Sg.sub {l m:QPs}(h:Sg l)(s:m.Sublist l):Sg m:=⟨h.1.sublist s,λe he=>h.2 e (s.mem he)⟩
theorem Sg.del {l:QPs}(h:Sg l)(k:Int):Sg (GJ l k):=h.sub List.filter_sublist
theorem GH {l:QPs}{k v:Int}(h:k∉kys l):UM l k v=l++[(k,v)]:=by
 unfold UM
 rw[if_neg λz=>h ?_]
 obtain⟨e,he,z⟩:=List.any_eq_true.mp z
 exact List.mem_map.mpr ⟨e,he,by simpa using z⟩
theorem DJ:∀{ps acc:QPs},(kys (acc++ps)).Nodup->Ho acc ps=acc++ps
 | [],acc,_=>by simp[Ho]
 |p::ps,acc,h=>by
  have hn:p.1∉kys acc:=λz=>by
   unfold kys at h z
   rw[List.map_append,List.nodup_append] at h
   exact h.2.2 _ z p.1 (by simp) rfl
  have e:acc++p::ps=(acc++[p])++ps:=by simp
  show Ho (UM acc p.1 p.2) ps=_
  rw[GH hn,e]
  exact DJ (by rw[←e];exact h)
theorem Sg.dict {l:QPs}(h:Sg l):Ho [] l=l:=DJ (acc:=[]) (by simpa using h.kn)
theorem Vw {l:QPs}{k:Int}:(Q3 l k).isSome=true↔k∈kys l:=by
 unfold Q3 kys
 rw[Option.isSome_map,List.find?_isSome]
 simp only[List.mem_map,decide_eq_true_eq]
theorem Lw {l:QPs}{k:Int}(h:(Q3 l k).isSome=false):k∉kys l:=λz=>by rw[Vw.mpr z] at h;cases h
theorem Iz {l:QPs}{e:Int×Int}(h:(kys l).Nodup)(he:e∈l):Q3 l e.1=some e.2:=by
 induction l with
 |nil=>cases he
 |cons a l ih=>
  unfold Q3
  unfold kys at h
  rw[List.map_cons,List.nodup_cons] at h
  rcases List.mem_cons.mp he with rfl |he
  ·simp
  ·have aL:a.1≠e.1:=λz=>h.1 (z▸List.mem_map.mpr ⟨e,he,rfl⟩)
   rw[List.find?_cons_of_neg (by simpa using aL)]
   exact ih h.2 he
theorem Mc {l:QPs}{k v:Int}(h:Sg l)(hk:k∉kys l)(h1:1<=k):(kys (l++[(k,v)])).Nodup/\(∀e∈l++[(k,v)],1<=e.1)/\Sg (Zt ltP (l++[(k,v)])):=by
 have a:(kys (l++[(k,v)])).Nodup:=by
  unfold kys at hk⊢
  rw[List.map_append,List.nodup_append]
  refine⟨h.kn,by simp,λx hx y hy e=>hk ?_⟩
  have z:y=k:=by simpa using hy
  rw[←z, ←e]
  exact hx
 have b:∀e∈l++[(k,v)],1<=e.1:=λe he=>by
  rcases List.mem_append.mp he with he |he
  ·exact h.2 e he
  ·rw[List.mem_singleton.mp he];exact h1
 exact⟨a,b,Ar a b⟩
theorem Ep {l:QPs}{e:Int×Int}:e∈Zt ltP l↔e∈l:=(YC ltP l).mem_iff
theorem NT {l:QPs}:(Zt ltP l).length=l.length:=(YC ltP l).length_eq
theorem WU {d:QPs}{n:Int}:Ok (ID d n) λk=>n<=k/\k∉kys d:=by
 unfold ID Pz;dsimp only
 simp only[Rs.okb]
 refine Ok.bind (G9 (λg=>n<=g) (λg=>(d.filter λe=>decide (g<=e.1)).length) (λg hg=>⟨_,rfl,λhb=>⟨_,rfl,by omega,?_⟩⟩) (d.length+2) n (Int.le_refl _) ?_) λg hg=>⟨_,rfl,hg.1,?_⟩
 ·obtain⟨e,he,ek⟩:=List.mem_map.mp (Vw.mp hb)
  have s:(d.filter λe=>decide (g+1<=e.1)).Sublist ((d.filter λe=>decide (g<=e.1)).filter λe=>decide (g+1<=e.1)):=by
   rw[List.filter_filter]
   have:(λa:Int×Int=>decide (g+1<=a.1)&&decide (g<=a.1))=λe=>decide (g+1<=e.1):=by
    funext a;rw[Bool.eq_iff_iff];simp;omega
   rw[this];exact List.Sublist.refl _
  refine Nat.lt_of_le_of_lt s.length_le ?_
  refine Nat.lt_of_le_of_ne List.filter_sublist.length_le λz=>?_
  have:=List.length_filter_eq_length_iff.mp z e (List.mem_filter.mpr ⟨he,by simp;omega⟩)
  simp at this;omega
 ·exact Nat.lt_of_le_of_lt List.filter_sublist.length_le (by omega)
 ·have:=hg.2
  exact Lw (Rs.ok.inj this)
theorem ar0 {M:Type}{x0:M}{l:List M}:atR (x0::l) 0= .ok x0:=Jg (by decide) rfl
theorem ar1 {M:Type}{x0 x1:M}{l:List M}:atR (x0::x1::l) 1= .ok x1:=Jg (by decide) rfl
theorem ar2 {M:Type}{x0 x1 x2:M}{l:List M}:atR (x0::x1::x2::l) 2= .ok x2:=Jg (by decide) rfl
theorem ar3 {M:Type}{x0 x1 x2 x3:M}{l:List M}:atR (x0::x1::x2::x3::l) 3= .ok x3:=Jg (by decide) rfl
theorem ar4 {M:Type}{x0 x1 x2 x3 x4:M}{l:List M}:atR (x0::x1::x2::x3::x4::l) 4= .ok x4:=Jg (by decide) rfl
theorem ar5 {M:Type}{x0 x1 x2 x3 x4 x5:M}{l:List M}:atR (x0::x1::x2::x3::x4::x5::l) 5= .ok x5:=Jg (by decide) rfl
theorem ar6 {M:Type}{x0 x1 x2 x3 x4 x5 x6:M}{l:List M}:atR (x0::x1::x2::x3::x4::x5::x6::l) 6= .ok x6:=Jg (by decide) rfl
theorem ar7 {M:Type}{x0 x1 x2 x3 x4 x5 x6 x7:M}{l:List M}:atR (x0::x1::x2::x3::x4::x5::x6::x7::l) 7= .ok x7:=Jg (by decide) rfl
theorem ar8 {M:Type}{x0 x1 x2 x3 x4 x5 x6 x7 x8:M}{l:List M}:atR (x0::x1::x2::x3::x4::x5::x6::x7::x8::l) 8= .ok x8:=Jg (by decide) rfl
theorem Ck:decide (("turn":Str)= "curl")=false:=rfl
theorem Fa:decide (("turn":Str)= "uncurl")=false:=rfl
theorem E7:decide (("turn":Str)= "lay")=false:=rfl
theorem Dh:decide (("turn":Str)= "unlay")=false:=rfl
theorem Cg:decide (("turn":Str)= "pass")=false:=rfl
theorem OS:decide (("turn":Str)= "turn")=true:=rfl
theorem UZ:decide (("curl":Str)= "turn")=false:=rfl
theorem Vp:decide (("curl":Str)= "uncurl")=false:=rfl
theorem K4:decide (("curl":Str)= "lay")=false:=rfl
theorem Ul:decide (("curl":Str)= "unlay")=false:=rfl
theorem Kv:decide (("curl":Str)= "pass")=false:=rfl
theorem We:decide (("curl":Str)= "curl")=true:=rfl
theorem VJ:decide (("uncurl":Str)= "turn")=false:=rfl
theorem G7:decide (("uncurl":Str)= "curl")=false:=rfl
theorem Ub:decide (("uncurl":Str)= "lay")=false:=rfl
theorem JM:decide (("uncurl":Str)= "unlay")=false:=rfl
theorem Vi:decide (("uncurl":Str)= "pass")=false:=rfl
theorem En:decide (("uncurl":Str)= "uncurl")=true:=rfl
theorem UO:decide (("pass":Str)= "turn")=false:=rfl
theorem Cn:decide (("pass":Str)= "curl")=false:=rfl
theorem Vs:decide (("pass":Str)= "uncurl")=false:=rfl
theorem K1:decide (("pass":Str)= "lay")=false:=rfl
theorem Uc:decide (("pass":Str)= "unlay")=false:=rfl
theorem Wn:decide (("pass":Str)= "pass")=true:=rfl
theorem okf {M:Type}{m n:Rs M}:(if false=true then m else n)=n:=if_neg Bool.false_ne_true
theorem okt {M:Type}{m n:Rs M}:(if true=true then m else n)=m:=if_pos rfl
theorem W2 {m:Rs Bool}:Pe (.ok false) m= .ok false:=rfl
theorem W7 {m:Rs Bool}:Pe (.ok true) m=m:=rfl
theorem orF {m:Rs Bool}:orR (.ok false) m=m:=rfl
theorem orT {m:Rs Bool}:orR (.ok true) m= .ok true:=rfl
def ins (w:List Int)(k:Nat)(p:List Int):List Int:=w.take k++p++w.drop k
def AA (w:List Int)(k:Nat):List Int:=w.take k++w.drop (k+2)
def gw (ws:QLs)(i:Nat):List Int:=ws.getD i []
def MW (ws:QLs)(i k:Nat)(p:List Int):QLs:=ws.set i (ins (gw ws i) k p)
def W6 (ws:QLs)(i k:Nat):QLs:=ws.set i (AA (gw ws i) k)
theorem HP {ws:QLs}{i:Nat}(h:i<ws.length):ws[i]?=some (gw ws i):=by simp[gw,h]
theorem Dd {ws:QLs}{i:Nat}(h:i<ws.length):atR ws (i:Int)= .ok (gw ws i):=Yp (HP h)
theorem Ee {ws:QLs}{i:Nat}(h:i<ws.length):gw ws i∈ws:=List.mem_of_getElem? (HP h)
theorem MF {M:Type}(as:List M){k:Nat}(h:k<=as.length):KR as none (some (k:Int))=as.take k:=by
 unfold KR
 rw[HT.sIx_nat,HT.sIx_none,Nat.min_eq_left h,List.drop_zero,Nat.sub_zero]
theorem Kd {M:Type}(as:List M){k:Nat}:KR as (some (k:Int)) none=as.drop k:=by
 unfold KR
 rw[HT.sIx_nat,HT.sIx_none]
 by_cases h:k<=as.length
 ·rw[Nat.min_eq_left h];exact List.take_of_length_le (by simp)
 ·rw[Nat.min_eq_right (by omega),Nat.sub_self,List.take_zero,List.drop_of_length_le (by omega)]
theorem Ke {M:Type}{l:List M}(h:l.length<=100):OB l (λa=>Rs.ok a)= .ok l:=by
 rw[QN (h:=λa=>a) (sz (by omega)) λ_ _=>rfl,List.map_id']
section
variable {ws:QLs}{i k:Nat}{p:List Int}
theorem IL {a b:Int}(hi:i<ws.length)(hk:k<=(gw ws i).length)(hl:(gw ws i).length<=100):UE ws (i:Int) (k:Int) a b= .ok (MW ws i k [a,b]):=by
 unfold UE Gy;dsimp only
 simp only[Rs.okb,Dd hi,MF _ hk,Kd]
 rw[Xi (show[a,b].length<=sizeLine from sz (by simp))]
 simp only[Rs.okb]
 rw[show NC ((gw ws i).take k) [a,b]= .ok ((gw ws i).take k++[a,b]) from Xi (sz (by simp;omega))]
 simp only[Rs.okb]
 rw[show NC ((gw ws i).take k++[a,b]) ((gw ws i).drop k)= .ok ((gw ws i).take k++[a,b]++(gw ws i).drop k) from Xi (sz (by simp;omega))]
 simp only[Rs.okb]
 rw[Zz hi]
 rfl
theorem Hc (hi:i<ws.length)(hk:k<=(gw ws i).length)(hl:(gw ws i).length<=100):Vg ws (i:Int) (k:Int)= .ok (W6 ws i k):=by
 unfold Vg UX;dsimp only
 simp only[Rs.okb,Dd hi,MF _ hk]
 rw[show(k:Int)+2=((k+2:Nat):Int) by omega,Kd,show NC ((gw ws i).take k) ((gw ws i).drop (k+2))= .ok ((gw ws i).take k++(gw ws i).drop (k+2)) from Xi (sz (by simp;omega))]
 simp only[Rs.okb]
 rw[Zz hi]
 rfl
theorem GK:(MW ws i k p).length=ws.length:=by simp[MW]
theorem Iu (hi:i<ws.length):gw (MW ws i k p) i=ins (gw ws i) k p:=by simp[MW,gw,hi]
theorem WB {w:List Int}{a b:Int}(h:k<=w.length):(ins w k [a,b])[k]?=some a/\(ins w k [a,b])[k+1]?=some b:=by
 unfold ins
 rw[List.append_assoc]
 constructor
 ·rw[List.getElem?_append_right (by simp;omega),List.length_take,Nat.min_eq_left h,Nat.sub_self];rfl
 ·rw[List.getElem?_append_right (by simp;omega),List.length_take,Nat.min_eq_left h,show k+1-k=1 by omega];rfl
theorem SH {w:List Int}{a b:Int}(h:k<=w.length):AA (ins w k [a,b]) k=w:=by
 unfold AA ins
 rw[List.append_assoc,List.take_append_of_le_length (by simp;omega),List.take_take,Nat.min_self,List.drop_append,List.drop_of_length_le (by simp;omega),List.length_take,Nat.min_eq_left h,show k+2-k=2 by omega]
 simp
end
def pm (xs:List Int):List Int:=xs.flatMap λx=>[x,-x]
structure Dr (n:Nat)(ws:QLs)(sg:QPs):Prop where
 n4:n<=5
 ne:1<=ws.length
 lw:ws.length<=4
 gs:Sg sg
 ls:sg.length<=6+n
 pe:ws.flatten.Perm (pm (kys sg))
 sn:∀e∈sg,e.2=1∨e.2= -1
theorem OF {xs:List Int}{x:Int}(h:x∈pm xs)(h1:∀y∈xs,1<=y):(x.natAbs:Int)∈xs:=by
 obtain⟨y,hy,hx⟩:=List.mem_flatMap.mp h
 have:=h1 y hy
 have e:x=y∨x= -y:=by simpa using hx
 rw[show(x.natAbs:Int)=y by omega]
 exact hy
section
variable {n:Nat}{ws:QLs}{sg:QPs}
theorem Dr.k1 (d:Dr n ws sg):∀y∈kys sg,1<=y:=λy hy=>by
 obtain⟨e,he,rfl⟩:=List.mem_map.mp hy
 exact d.gs.2 e he
theorem Dr.ky (d:Dr n ws sg):∀w∈ws,∀p∈w,(p.natAbs:Int)∈kys sg:=λw hw p hp=>
 OF (d.pe.mem_iff.mp (List.mem_flatten.mpr ⟨w,hw,hp⟩)) d.k1
theorem Dr.ll (d:Dr n ws sg):∀w∈ws,w.length<=2*sg.length:=λw hw=>by
 have h1:=d.pe.length_eq
 unfold pm kys at h1
 rw[Ju,List.length_map] at h1
 have h2:=(List.sublist_flatten_of_mem hw).length_le
 omega
theorem Dr.l {i:Nat}(d:Dr n ws sg)(h:i<ws.length):(gw ws i).length<=42:=by
 have:=d.ll _ (Ee h);have:=d.n4;have:=d.ls;omega
theorem Dr.lw' (d:Dr n ws sg):ws.length<=20:=by have:=d.lw;omega
theorem Dr.fin (d:Dr n ws sg):chk (sg.length<64/\sg.Nodup) (Rs.ok (Zt ltP sg))= .ok sg:=by
 rw[Xi ⟨by have:=d.ls;have:=d.n4;omega,C8 d.gs.kn⟩,d.gs.sort]
def rot (w:List Int)(s:Int):List Int:=if w.length=0 then w else w.drop (s % (w.length:Int)).toNat++w.take (s % (w.length:Int)).toNat
theorem Az {w:List Int}{s:Int}(h:w.length≠0):∃c:Nat,s % (w.length:Int)=(c:Int)/\c<w.length/\rot w s=w.drop c++w.take c:=by
 have h1:=Int.emod_nonneg s (show(w.length:Int)≠0 by omega)
 have h2:=Int.emod_lt_of_pos s (show(0:Int)<(w.length:Int) by omega)
 refine⟨(s % (w.length:Int)).toNat,by omega,by omega,?_⟩
 unfold rot
 rw[if_neg h]
def Rw (ws:QLs)(i:Nat)(s:Int):QLs:=ws.set i (rot (gw ws i) s)
theorem Pd {i:Nat}(h:i<ws.length):ws.set i (gw ws i)=ws:=by
 apply List.ext_getElem?
 intro j
 by_cases e:i=j
 ·subst e;rw[List.getElem?_set_self h,HP h]
 ·rw[List.getElem?_set_ne e]
theorem JD {p v:List Int}:∀{ws:QLs}{i:Nat},i<ws.length->v.Perm (p++gw ws i)->((ws.set i v).flatten).Perm (p++ws.flatten)
 |w::ws,0,_,h=>by
  show(v++ws.flatten).Perm (p++(w++ws.flatten))
  rw[←List.append_assoc]
  exact h.append_right _
 |w::ws,i+1,hi,h=>by
  show(w++(ws.set i v).flatten).Perm (p++(w++ws.flatten))
  refine((JD (Nat.lt_of_succ_lt_succ hi) h).append_left w).trans ?_
  rw[←List.append_assoc, ←List.append_assoc]
  exact List.perm_append_comm.append_right _
theorem RF (d:Dr n ws sg){i:Nat}(hi:i<ws.length){s:Int}:EY (ws,sg) [.s "turn", .i i, .i s]= .ok (Rw ws i s,sg):=by
 have hl:=d.l hi
 unfold EY Tf;dsimp only
 simp only[Rs.okb,decide_true,if_true,Bool.not_true,ar0,ar1,ar2,ar3,ar4,ar5,ar6,ar7,ar8,mxS,mxI,mxB,okf,okt,W2,W7,orF,orT,Xo,Ck,Fa,E7,Dh,Cg,OS]
 rw[Ke (by have:=d.lw';omega)]
 simp only[Rs.okb,Dd hi,d.gs.dict]
 by_cases h:(gw ws i).length=0
 ·rw[show decide ((0:Int)<((gw ws i).length:Int))=false by rw[h];rfl]
  simp only[okf,Rs.okb]
  rw[d.fin]
  simp only[Rs.okb]
  unfold Rw rot
  rw[if_pos h,Pd hi]
 ·obtain⟨c,ec,hc,er⟩:=Az (s:=s) h
  rw[show decide ((0:Int)<((gw ws i).length:Int))=true by simpa using Nat.pos_of_ne_zero h]
  simp only[okt,Rs.okb]
  rw[Yx (by omega)]
  simp only[Rs.okb]
  rw[ec,Kd,MF _ (Nat.le_of_lt hc),show NC ((gw ws i).drop c) ((gw ws i).take c)= .ok (rot (gw ws i) s) from(Xi (sz (by simp;omega))).trans (by rw[er])]
  simp only[Rs.okb]
  rw[Zz hi]
  simp only[Rs.okb]
  rw[d.fin]
  rfl
end
section
variable {n:Nat}{ws:QLs}{sg:QPs}
def ovw (o:Bool):Str:=if o=true then "over" else "under"
def prc (c:Int)(o:Bool):List Int:=if o=true then[c,-c] else[-c,c]
def Mv (i k:Nat)(c:Int)(o:Bool)(s:Int):List Mx:=[.s "curl", .i i, .i k, .i c, .s (ovw o), .i s]
def sgC (sg:QPs)(c s:Int):QPs:=Zt ltP (sg++[(c,s)])
theorem Dr.fin' (d:Dr n ws sg){l:QPs}(h:(kys l).Nodup)(hl:l.length<=40):chk (l.length<64/\l.Nodup) (Rs.ok (Zt ltP l))= .ok (Zt ltP l):=Xi ⟨by omega,C8 h⟩
theorem LL (d:Dr n ws sg){i k:Nat}{c s:Int}{o:Bool}(hi:i<ws.length)(hk:k<=(gw ws i).length)(hc:c∉kys sg)(h1:1<=c):EY (ws,sg) (Mv i k c o s)= .ok (MW ws i k (prc c o),sgC sg c s):=by
 have hl:=d.l hi
 have h3:=d.n4
 have h4:=d.ls
 have hp:prc c o=[c*(if o=true then 1 else-1),-(c*(if o=true then 1 else-1))]:=by cases o<;> simp[prc]
 unfold Mv
 unfold EY Tf;dsimp only
 simp only[Rs.okb,decide_true,if_true,Bool.not_true,ar0,ar1,ar2,ar3,ar4,ar5,ar6,ar7,ar8,mxS,mxI,mxB,okf,okt,W2,W7,orF,orT,Xo,UZ,Vp,K4,Ul,Kv,We]
 rw[Ke (by have:=d.lw';omega),Xi (show[(-1:Int),1].length<=sizeLine from sz (by simp))]
 simp only[Rs.okb,d.gs.dict,GH hc]
 rw[show atR [(-1:Int),1] (if decide (ovw o=("over":Str))=true then 1 else 0)= .ok (if o=true then 1 else-1) by cases o<;> exact Jg (by decide) rfl]
 simp only[Rs.okb]
 rw[QH (by split<;> decide) (by split<;> decide)]
 simp only[Rs.okb]
 rw[IL hi hk (by omega)]
 simp only[Rs.okb,Xo]
 rw[Xi (Gg (by omega))]
 simp only[Rs.okb]
 rw[d.fin' (Mc d.gs hc h1).1 (by simp;omega),hp]
 rfl
theorem NX {w p:List Int}{k:Nat}:(ins w k p).Perm (p++w):=by
 unfold ins
 refine(List.perm_append_comm.append_right _).trans ?_
 rw[List.append_assoc,List.take_append_drop]
theorem pmp {a b:List Int}(h:a.Perm b):(pm a).Perm (pm b):=h.flatMap_right _
theorem M4 {c:Int}{o:Bool}:(prc c o).Perm [c,-c]:=by
 cases o with
 |true=>exact List.Perm.refl _
 |false=>exact List.Perm.swap ..
theorem M8 (sg:QPs)(c s:Int):(kys (sgC sg c s)).Perm (c::kys sg):=by
 refine((YC ltP _).map (·.1)).trans ?_
 rw[List.map_append]
 exact List.perm_append_comm
theorem Dr.curl (d:Dr n ws sg)(hn:n<=4){i k:Nat}{c s:Int}{o:Bool}(hi:i<ws.length)(hk:k<=(gw ws i).length)(hc:c∉kys sg)(h1:1<=c)(hs:s=1∨s= -1):Dr (n+1) (MW ws i k (prc c o)) (sgC sg c s) where
 n4:=by omega
 ne:=by rw[GK];exact d.ne
 lw:=by rw[GK];exact d.lw
 gs:=(Mc d.gs hc h1).2.2
 ls:=by unfold sgC;rw[NT];have:=d.ls;simp;omega
 pe:=(JD hi NX).trans ((M4.append d.pe).trans (pmp (M8 sg c s)).symm)
 sn:=λe he=>by
  rcases List.mem_append.mp (Ep.mp he) with z |z
  ·exact d.sn e z
  ·rw[List.mem_singleton.mp z];exact hs
theorem L9 (d:Dr n ws sg){i k:Nat}{x:Int}(hi:i<ws.length)(hx:(gw ws i)[k]?=some x)(hy:(gw ws i)[k+1]?=some (-x)):EY (ws,sg) [.s "uncurl", .i i, .i k]= .ok (W6 ws i k,GJ sg (x.natAbs:Int)):=by
 have hl:=d.l hi
 have h3:=d.n4
 have h4:=d.ls
 have hk:=(List.getElem?_eq_some_iff.mp hy).1
 have hm:(x.natAbs:Int)∈kys sg:=d.ky _ (Ee hi) x (List.mem_of_getElem? hx)
 unfold EY Tf;dsimp only
 simp only[Rs.okb,decide_true,if_true,Bool.not_true,ar0,ar1,ar2,ar3,ar4,ar5,ar6,ar7,ar8,mxS,mxI,mxB,okf,okt,W2,W7,orF,orT,Xo,VJ,G7,Ub,JM,Vi,En]
 rw[Ke (by have:=d.lw';omega)]
 simp only[Rs.okb,d.gs.dict,Dd hi]
 rw[Yp hx]
 simp only[Rs.okb]
 rw[Xi (Vw.mpr hm),Hc hi (by omega) (by omega)]
 simp only[Rs.okb,Xo]
 have hs:=d.gs.del (x.natAbs:Int)
 have hle:(GJ sg (x.natAbs:Int)).length<=sg.length:=List.filter_sublist.length_le
 rw[d.fin' hs.kn (by omega),hs.sort]
 rfl
end
section
variable {n:Nat}{ws:QLs}{sg:QPs}
def swp (w:List Int)(k:Nat):List Int:=(w.set k (w.getD (k+1) 0)).set (k+1) (w.getD k 0)
def swW (ws:QLs)(i k:Nat):QLs:=ws.set i (swp (gw ws i) k)
def At2 (ws:QLs)(i k:Nat):Prop:=i<ws.length/\k+1<(gw ws i).length
theorem RQ {i k:Nat}:(swW ws i k).length=ws.length:=by simp[swW]
theorem SF {w:List Int}{k:Nat}:(swp w k).length=w.length:=by simp[swp]
theorem TN {i k j:Nat}:(gw (swW ws i k) j).length=(gw ws j).length:=by
 unfold swW gw
 simp only[List.getD_eq_getElem?_getD]
 by_cases e:i=j
 ·subst e
  by_cases h:i<ws.length
  ·rw[List.getElem?_set_self h];simp[SF,h]
  ·rw[List.getElem?_eq_none (by simp;omega),List.getElem?_eq_none (by omega)]
 ·rw[List.getElem?_set_ne e]
theorem At2.sw {i k j l:Nat}(h:At2 ws j l):At2 (swW ws i k) j l:=⟨by rw[RQ];exact h.1,by rw[TN];exact h.2⟩
theorem T2 {i k:Nat}(h:At2 ws i k):((atR ws (i:Int)).bind λx=>atR x (k:Int))= .ok ((gw ws i).getD k 0)/\((atR ws (i:Int)).bind λx=>atR x ((k:Int)+1))= .ok ((gw ws i).getD (k+1) 0):=by
 obtain⟨hi,hk⟩:=h
 rw[Dd hi,Rs.okb,Rs.okb,show(k:Int)+1=((k+1:Nat):Int) by omega]
 exact⟨Yp (by simp[Nat.lt_of_succ_lt hk]),Yp (by simp[hk])⟩
theorem Wp {i k:Nat}{x y:Int}(h:At2 ws i k):((atR ws (i:Int)).bind λr=>(JK r (k:Int) x).bind λr'=>(JK ws (i:Int) r').bind λw=>(atR w (i:Int)).bind λr2=>(JK r2 ((k:Int)+1) y).bind λr3=>(JK w (i:Int) r3).bind λz=>Rs.ok z)= .ok (ws.set i (((gw ws i).set k x).set (k+1) y)):=by
 obtain⟨hi,hk⟩:=h
 rw[Dd hi]
 simp only[Rs.okb]
 rw[Zz (by omega)]
 simp only[Rs.okb]
 rw[Zz hi]
 simp only[Rs.okb]
 rw[Yp (as:=ws.set i ((gw ws i).set k x)) (List.getElem?_set_self hi)]
 simp only[Rs.okb]
 rw[show(k:Int)+1=((k+1:Nat):Int) by omega,Zz (by simp;omega)]
 simp only[Rs.okb]
 rw[Zz (by simp;exact hi)]
 simp only[Rs.okb,List.set_set]
def TQ (i k j l u v:Nat):List Mx:=[.s "pass", .i i, .i k, .i j, .i l, .i u, .i v]
def RX (ws:QLs)(i k j l u v:Nat):QLs:=swW (swW (swW ws i k) j l) u v
variable {i k j l u v:Nat}
theorem AO {f:QLs->Int×Int->Rs QLs}(hf:∀{ws:QLs}{i k:Nat},At2 ws i k->f ws ((i:Int),(k:Int))= .ok (swW ws i k))(h1:At2 ws i k)(h2:At2 ws j l)(h3:At2 ws u v):
  forN [((i:Int),(k:Int)),((j:Int),(l:Int)),((u:Int),(v:Int))] ws f= .ok (RX ws i k j l u v):=by
 unfold forN
 rw[hf h1,Rs.okb]
 unfold forN
 rw[hf h2.sw,Rs.okb]
 unfold forN
 rw[hf h3.sw.sw,Rs.okb]
 rfl
theorem At {l:List Mx}{lo hi a b:Int}(h:¬(HT.sIx l.length 0 (some lo)=0/\HT.sIx l.length l.length (some hi)=l.length))(e:KR l (some lo) (some hi)=[.i a, .i b]):(chk (¬(HT.sIx l.length 0 (some lo)=0/\HT.sIx l.length l.length (some hi)=l.length)) (Rs.ok (KR l (some lo) (some hi)))).bind mx2= .ok (a,b):=by
 rw[Xi h,e];rfl
theorem Si (d:Dr n ws sg)(h1:At2 ws i k)(h2:At2 ws j l)(h3:At2 ws u v):EY (ws,sg) (TQ i k j l u v)= .ok (RX ws i k j l u v,sg):=by
 unfold TQ
 unfold EY Tf;dsimp only
 simp only[Rs.okb,decide_true,if_true,Bool.not_true,ar0,ar1,ar2,ar3,ar4,ar5,ar6,ar7,ar8,mxS,mxI,mxB,okf,okt,W2,W7,orF,orT,Xo,UO,Cn,Vs,K1,Uc,Wn]
 rw[Ke (by have:=d.lw';omega)]
 simp only[Rs.okb,d.gs.dict]
 rw[At (l:=[Mx.s "pass", .i i, .i k, .i j, .i l, .i u, .i v]) (lo:=1) (hi:=3) (a:=i) (b:=k) (show ¬(HT.sIx 7 0 (some 1)=0/\HT.sIx 7 7 (some 3)=7) by decide) rfl,At (l:=[Mx.s "pass", .i i, .i k, .i j, .i l, .i u, .i v]) (lo:=3) (hi:=5) (a:=j) (b:=l) (show ¬(HT.sIx 7 0 (some 3)=0/\HT.sIx 7 7 (some 5)=7) by decide) rfl,At (l:=[Mx.s "pass", .i i, .i k, .i j, .i l, .i u, .i v]) (lo:=5) (hi:=7) (a:=u) (b:=v) (show ¬(HT.sIx 7 0 (some 5)=0/\HT.sIx 7 7 (some 7)=7) by decide) rfl]
 simp only[Rs.okb]
 rw[Xi (show[((i:Int),(k:Int)),((j:Int),(l:Int)),((u:Int),(v:Int))].length<=sizeLine from sz (by simp))]
 simp only[Rs.okb]
 rw[AO (fun {ws i k} h=>?_) h1 h2 h3]
 ·simp only[Rs.okb]
  rw[d.fin]
  rfl
 ·obtain⟨e1,e2⟩:=T2 h
  simp only
  rw[e1,e2]
  simp only[Rs.okb]
  exact Wp h
theorem BY:∀{w:List Int}{k:Nat},k+1<w.length->(swp w k).Perm w
 |x::y::r,0,_=>List.Perm.swap ..
 |x::w,k+1,h=>(BY (w:=w) (k:=k) (Nat.lt_of_succ_lt_succ h)).cons x
theorem Dr.put (d:Dr n ws sg){i:Nat}{w:List Int}(hi:i<ws.length)(h:w.Perm (gw ws i)):Dr n (ws.set i w) sg:=
 ⟨d.n4,by rw[List.length_set];exact d.ne,by rw[List.length_set];exact d.lw,d.gs,d.ls,(JD (p:=[]) hi h).trans d.pe,d.sn⟩
theorem Dr.sw (d:Dr n ws sg)(h:At2 ws i k):Dr n (swW ws i k) sg:=d.put h.1 (BY h.2)
theorem Dr.pass (d:Dr n ws sg)(h1:At2 ws i k)(h2:At2 ws j l)(h3:At2 ws u v):Dr n (RX ws i k j l u v) sg:=((d.sw h1).sw h2.sw).sw h3.sw.sw
theorem Dr.turn (d:Dr n ws sg)(hi:i<ws.length){s:Int}:Dr n (Rw ws i s) sg:=d.put hi (by
 unfold rot
 split
 ·exact List.Perm.refl _
 ·exact List.perm_append_comm.trans (by rw[List.take_append_drop]))
theorem Dr.up (d:Dr n ws sg)(h:n<=4):Dr (n+1) ws sg:=⟨by omega,d.ne,d.lw,d.gs,by have:=d.ls;omega,d.pe,d.sn⟩
end
abbrev Q4:=Int×Int×Int×Int
section
variable {n:Nat}{ws:QLs}{sg:QPs}
structure PQ (ws:QLs)(q:Q4):Prop where
 ex:∃i k:Nat,q.1=(i:Int)/\q.2.1=(k:Int)/\i<ws.length/\(gw ws i)[k]?=some q.2.2.1/\(gw ws i)[k+1]?=some q.2.2.2
theorem c4 {x y z w:Int}:chk (¬(HT.sIx [x,y,z,w].length 0 (some 2)=0/\HT.sIx [x,y,z,w].length [x,y,z,w].length none=[x,y,z,w].length)) (Rs.ok (KR [x,y,z,w] (some 2) none))= .ok [z,w]:=Xi (show ¬(HT.sIx 4 0 (some 2)=0/\HT.sIx 4 4 none=4) by decide)
theorem d4 {x y z w:Int}:chk (¬(HT.sIx [x,y,z,w].length 0 none=0/\HT.sIx [x,y,z,w].length [x,y,z,w].length (some 2)=[x,y,z,w].length)) (Rs.ok (KR [x,y,z,w] none (some 2)))= .ok [x,y]:=Xi (show ¬(HT.sIx 4 0 none=0/\HT.sIx 4 4 (some 2)=4) by decide)
theorem qU {x y:Int}:A5 [x,y]= .ok (min x y):=Xi (by simp)
theorem qz {x y:Int}:Nb [x,y]= .ok (max x y):=Xi (by simp)
theorem NO (w:List Int):MY 0 ((w.length:Int)-1)= .ok ((List.range (w.length-1)).map λ(i:Nat)=>(i:Int))∨1000<w.length:=by
 by_cases h:1000<w.length
 ·exact .inr h
 ·left
  by_cases h0:w.length=0
  ·rw[h0];rfl
  ·rw[show(w.length:Int)-1=((w.length-1:Nat):Int) by omega]
   exact Y5 (by omega)
theorem Oj (d:Dr n ws sg):Ok (FG ws) λl=>l.length<=168/\∀q∈l,PQ ws q:=by
 unfold FG BN;dsimp only
 simp only[Rs.okb]
 rw[Y5 (by have:=d.lw;omega)]
 simp only[Rs.okb]
 refine Ok.bind (Ok.forN (λi (g:List Q4)=>g.length<=42*i/\∀q∈g,PQ ws q) ⟨Nat.le_refl _,λq hq=>by cases hq⟩ λi a g ha hg=>?_) λg hg=>?_
 ·obtain⟨rfl,hi⟩:=X8 ha
  have hl:=d.l hi
  have h4:=d.lw
  simp only[Dd hi,Rs.okb]
  rcases NO (gw ws i) with e |e
  ·rw[e]
   simp only[Rs.okb]
   refine Ok.bind (Ok.forN (λk (q:List Q4)=>q.length<=42*i+k/\∀x∈q,PQ ws x) ⟨by have:=hg.1;omega,hg.2⟩ λk b q hb hq=>?_) λq hq=>?_
   ·obtain⟨rfl,hk⟩:=X8 hb
    have z1:(gw ws i)[k]?=some ((gw ws i).getD k 0):=by simp[show k<(gw ws i).length by omega]
    have z2:(gw ws i)[k+1]?=some ((gw ws i).getD (k+1) 0):=by simp[show k+1<(gw ws i).length by omega]
    rw[Yp z1,show(k:Int)+1=((k+1:Nat):Int) by omega,Yp z2]
    simp only[Rs.okb]
    rw[Xi (Gg (by have:=hq.1;omega))]
    refine⟨_,rfl,by have:=hq.1;simp;omega,λx hx=>?_⟩
    rcases List.mem_append.mp hx with hx |hx
    ·exact hq.2 x hx
    ·rw[List.mem_singleton.mp hx]
     exact⟨i,k,rfl,rfl,hi,z1,z2⟩
   ·rw[X1] at hq
    exact⟨_,rfl,by have:=hq.1;omega,hq.2⟩
  ·omega
 ·rw[X1] at hg
  have:=d.lw
  exact⟨_,rfl,by have:=hg.1;omega,hg.2⟩
def sv (sg:QPs)(k:Int):Int:=(Q3 sg k).getD 0
theorem LW {k:Int}(h:k∈kys sg):Fs sg k= .ok (sv sg k):=by
 have:=Vw.mpr h
 unfold Fs sv
 cases e:Q3 sg k with
 |none=>rw[e] at this;cases this
 |some v=>rfl
def pa (q:Q4):Int:=-(min q.2.2.1 q.2.2.2)
def pc (q:Q4):Int:=max q.2.2.1 q.2.2.2
def pb (p q:Q4):Int:=p.2.2.1+p.2.2.2-pa q
def ord (x y:Int):Int:=if x=y then 1 else-1
theorem IG {x y:Int}:((MZ 2 (if decide (x=y)=true then 1 else 0)).bind λz=>Rs.ok (z-1))= .ok (ord x y):=by
 unfold ord
 by_cases h:x=y
 ·rw[if_pos h,show decide (x=y)=true by simpa using h];rfl
 ·rw[if_neg h,show decide (x=y)=false by simpa using h];rfl
structure StC (sg:QPs)(p q r:Q4):Prop where
 a1:pa q∈[p.2.2.1,p.2.2.2]
 c1:pc q∉ [p.2.2.1,p.2.2.2]
 so:J3 [-r.2.2.1,-r.2.2.2]=J3 [pb p q,pc q]
 e1:ord p.2.2.1 (pa q)*sv sg (pb p q)=ord q.2.2.1 (-(pa q))*sv sg (pc q)
 e2:ord q.2.2.1 (-(pa q))*sv sg (pa q)=ord r.2.2.1 (-(pb p q))*sv sg (pb p q)
theorem RO {x y z:Int}:MZ (ord x y) z= .ok (ord x y*z):=Zy (by unfold ord;split<;> decide) (by unfold ord;split<;> decide)
theorem Br {p q r:Q4}(ka:pa q∈kys sg)(kc:pc q∈kys sg)(kb:pa q∈[p.2.2.1,p.2.2.2]->pb p q∈kys sg):Ok (JA sg p q r) λb=>b=true->StC sg p q r:=by
 unfold JA VS;dsimp only
 simp only[Rs.okb,c4]
 rw[show-(min q.2.2.1 q.2.2.2)=pa q from rfl,show max q.2.2.1 q.2.2.2=pc q from rfl,show p.2.2.1+p.2.2.2-pa q=pb p q from rfl]
 by_cases h1:pa q∈[p.2.2.1,p.2.2.2]
 ·rw[show decide (pa q∈[p.2.2.1,p.2.2.2])=true by simpa using h1]
  simp only[Bool.not_true,orF,Rs.okb]
  by_cases h2:pc q∈[p.2.2.1,p.2.2.2]
  ·rw[show decide (pc q∈[p.2.2.1,p.2.2.2])=true by simpa using h2]
   exact⟨false,rfl,λz=>by cases z⟩
  ·rw[show decide (pc q∈[p.2.2.1,p.2.2.2])=false by simpa using h2,okf,Xi (show[-r.2.2.1,-r.2.2.2].length<=sizeLine from sz (by simp)),Xi (show[pb p q,pc q].length<=sizeLine from sz (by simp))]
   simp only[Rs.okb]
   rw[Xi (show[-r.2.2.1,-r.2.2.2].length<64 by simp),Xi (show[pb p q,pc q].length<64 by simp)]
   simp only[Rs.okb]
   by_cases h3:J3 [-r.2.2.1,-r.2.2.2]=J3 [pb p q,pc q]
   ·rw[show decide (J3 [-r.2.2.1,-r.2.2.2]=J3 [pb p q,pc q])=true by simpa using h3]
    simp only[Bool.not_true,okf]
    rw[IG,Rs.okb,IG,Rs.okb,IG,Rs.okb,LW ka,LW kc,LW (kb h1)]
    simp only[Rs.okb,RO]
    rw[HF (c:=decide (ord q.2.2.1 (-(pa q))*sv sg (pa q)=ord r.2.2.1 (-(pb p q))*sv sg (pb p q))) λ_=>rfl]
    refine⟨_,rfl,λz=>?_⟩
    simp only[Bool.and_eq_true,decide_eq_true_eq] at z
    exact⟨h1,h2,h3,z.1,z.2⟩
   ·rw[show decide (J3 [-r.2.2.1,-r.2.2.2]=J3 [pb p q,pc q])=false by simpa using h3]
    exact⟨false,rfl,λz=>by cases z⟩
 ·rw[show decide (pa q∈[p.2.2.1,p.2.2.2])=false by simpa using h1]
  exact⟨false,rfl,λz=>by cases z⟩
structure PassC (ws:QLs)(sg:QPs)(p q r:Q4):Prop where
 hp:PQ ws p
 hq:PQ ws q
 hr:PQ ws r
 p0:0<min p.2.2.1 p.2.2.2
 q0:min q.2.2.1 q.2.2.2<0/\0<max q.2.2.1 q.2.2.2
 st:StC sg p q r
def O0 (p q r:Q4):List Mx:=[.s "pass", .i p.1, .i p.2.1, .i q.1, .i q.2.1, .i r.1, .i r.2.1]
theorem OV (d:Dr n ws sg){q:Q4}(h:PQ ws q):(q.2.2.1.natAbs:Int)∈kys sg/\(q.2.2.2.natAbs:Int)∈kys sg:=by
 obtain⟨i,k,_,_,hi,z1,z2⟩:=h.ex
 exact⟨d.ky _ (Ee hi) _ (List.mem_of_getElem? z1),d.ky _ (Ee hi) _ (List.mem_of_getElem? z2)⟩
theorem LP (d:Dr n ws sg){p q:Q4}(hp:PQ ws p)(hq:PQ ws q)(p0:0<min p.2.2.1 p.2.2.2)(q0:min q.2.2.1 q.2.2.2<0/\0<max q.2.2.1 q.2.2.2):pa q∈kys sg/\pc q∈kys sg/\(pa q∈[p.2.2.1,p.2.2.2]->pb p q∈kys sg):=by
 obtain⟨k1,k2⟩:=OV d hp
 obtain⟨k3,k4⟩:=OV d hq
 have a:∀{x y:Int},(x.natAbs:Int)∈kys sg->y=(x.natAbs:Int)->y∈kys sg:=λh e=>e▸h
 unfold pa pc pb pa
 refine⟨?_,?_,λh=>?_⟩
 ·rcases Int.le_total q.2.2.1 q.2.2.2 with z |z
  ·exact a k3 (by omega)
  ·exact a k4 (by omega)
 ·rcases Int.le_total q.2.2.1 q.2.2.2 with z |z
  ·exact a k4 (by omega)
  ·exact a k3 (by omega)
 ·have: -(min q.2.2.1 q.2.2.2)=p.2.2.1∨ -(min q.2.2.1 q.2.2.2)=p.2.2.2:=by simpa using h
  rcases this with z |z
  ·exact a k2 (by omega)
  ·exact a k1 (by omega)
def PG (ws:QLs)(sg:QPs)(n:Nat)(l:List (List Mx)):Prop:=l.length<=n/\∀m∈l,∃p q r,m=O0 p q r/\PassC ws sg p q r
theorem PG.mono {n m:Nat}{l:List (List Mx)}(h:PG ws sg n l)(z:n<=m):PG ws sg m l:=⟨Nat.le_trans h.1 z,h.2⟩
theorem Lg {l:List Q4}{c:Q4->Rs Bool}{f:Q4->Rs Q4}(p:Q4->Bool)(hl:l.length<=168)(hc:∀a,c a= .ok (p a))(hf:∀a,f a= .ok a):∃m:List Q4,T6 l c f= .ok m/\m.length<=168/\∀a∈m,a∈l/\p a=true:=
 ⟨l.filter p,by rw[GI (p:=p) (h:=λe=>e) (sz (by omega)) (λa _=>hc a) λa _ _=>hf a,List.map_id'],Nat.le_trans (List.length_filter_le ..) hl,λ_ ha=>List.mem_filter.mp ha⟩
theorem IJ (d:Dr n ws sg):Ok (UA (ws,sg)) (PG ws sg 5000000):=by
 obtain⟨l,el,hl,hq⟩:=Oj d
 unfold UA Gs;dsimp only
 simp only[Rs.okb,d.gs.dict,el,Xo,c4,d4,qU,qz]
 obtain⟨l1,e1,n1,h1⟩:=Lg (c:=λcM=>Rs.ok (decide ((0:Int)<min cM.2.2.1 cM.2.2.2))) (f:=λcM=>Rs.ok cM) (λcM=>decide ((0:Int)<min cM.2.2.1 cM.2.2.2)) hl (λ_=>rfl) λ_=>rfl
 obtain⟨l2,e2,n2,h2⟩:=Lg (c:=λdY=>if decide (min dY.2.2.1 dY.2.2.2<0)=true then Rs.ok (decide (0<max dY.2.2.1 dY.2.2.2)) else Rs.ok false) (f:=Rs.ok) (λdY=>decide (min dY.2.2.1 dY.2.2.2<0)&&decide (0<max dY.2.2.1 dY.2.2.2)) hl (λa=>by cases decide (min a.2.2.1 a.2.2.2<0)<;> rfl) λ_=>rfl
 obtain⟨l3,e3,n3,h3⟩:=Lg (c:=λgE=>Rs.ok (decide (max gE.2.2.1 gE.2.2.2<0))) (f:=Rs.ok) (λgE=>decide (max gE.2.2.1 gE.2.2.2<0)) hl (λ_=>rfl) λ_=>rfl
 rw[e1,Rs.okb,e2,e3]
 refine Ok.bind (Ok.forN (λi g=>PG ws sg (28224*i) g) ⟨Nat.le_refl _,λm hm=>by cases hm⟩ λi p g hp hg=>?_) λg hg=>⟨g,rfl,hg.mono (by omega)⟩
 have hp:=h1 p (List.mem_of_getElem? hp)
 have i1:i<l1.length:=(List.getElem?_eq_some_iff.mp ‹_›).1
 rw[Rs.okb]
 refine Ok.bind (Ok.forN (λj g=>PG ws sg (28224*i+168*j) g) (hg.mono (Nat.le_refl _)) λj q g gm hg=>?_) λg hg=>⟨g,rfl,hg.mono (by omega)⟩
 have j1:j<l2.length:=(List.getElem?_eq_some_iff.mp gm).1
 have gm:=h2 q (List.mem_of_getElem? gm)
 rw[Rs.okb]
 refine Ok.bind (Ok.forN (λk g=>PG ws sg (28224*i+168*j+k) g) (hg.mono (Nat.le_refl _)) λk r g hr hg=>?_) λg hg=>⟨g,rfl,hg.mono (by omega)⟩
 have k1:k<l3.length:=(List.getElem?_eq_some_iff.mp hr).1
 have hr:=h3 r (List.mem_of_getElem? hr)
 have p0:0<min p.2.2.1 p.2.2.2:=by simpa using hp.2
 have q0:min q.2.2.1 q.2.2.2<0/\0<max q.2.2.1 q.2.2.2:=by simpa using gm.2
 obtain⟨ka,kc,kb⟩:=LP d (hq p hp.1) (hq q gm.1) p0 q0
 obtain⟨b,eb,hb⟩:=Br (r:=r) ka kc kb
 rw[eb,Xo,Rs.okb]
 cases b with
 |false=>exact⟨g,rfl,hg.mono (by omega)⟩
 |true=>
  have zz:∀{n:Nat},n<=5000000->n<sizeLine:=λh=>Nat.lt_of_le_of_lt h (by decide)
  simp only[if_true,List.length_cons,List.length_nil,List.map_cons,List.map_nil,List.length_append]
  rw[Xi (sz (by omega)),Rs.okb,Xi ⟨by omega,sz (by simp)⟩,Rs.okb,Xi ⟨by omega,sz (by simp)⟩,Rs.okb,Xi ⟨by omega,sz (by simp)⟩,Rs.okb,Xi (zz (by have:=hg.1;omega))]
  refine⟨_,rfl,by have:=hg.1;simp;omega,λm hm=>?_⟩
  rcases List.mem_append.mp hm with hm |hm
  ·exact hg.2 m hm
  ·rw[List.mem_singleton.mp hm]
   exact⟨p,q,r,rfl,hq p hp.1,hq q gm.1,hq r hr.1,p0,q0,hb rfl⟩
end
def nm (m:Nat):List Int:=(List.range m).map λ(k:Nat)=>(k:Int)+1
structure WkP (m:Nat)(ws:QLs):Prop where
 ne:1<=ws.length
 lw:ws.length<=4
 perm:ws.flatten.Perm (pm (nm m))
theorem OX (m:Nat):(nm m).length=m:=by simp[nm]
theorem WkP.tot {m:Nat}{ws:QLs}(h:WkP m ws):ws.flatten.length=2*m:=by
 have:=h.perm.length_eq
 unfold pm at this
 rw[Ju,OX] at this
 exact this
theorem WkP.short {m:Nat}{ws:QLs}(h:WkP m ws){w:List Int}(hw:w∈ws):w.length<=2*m:=by
 have:=h.tot
 have:=(List.sublist_flatten_of_mem hw).length_le
 omega
def Co (bo cu:List Int):QPs:=(List.range bo.length).map λ(k:Nat)=>(bo.getD k 0,((k:Int)+1)*cu.getD k 0)
theorem BJ:∀(rs:QPs) (a:Int),(Bc rs a).length<=rs.length
 | [],_=>Nat.le_refl _
 |r::rs,a=>by
  show(Cb r a++Bc rs (Ga r a)).length<=_
  have h1:(Cb r a).length<=1:=by
   unfold Cb
   split
   ·simp
   ·split<;> simp
  have:=BJ rs (Ga r a)
  simp only[List.length_append,List.length_cons]
  omega
theorem L5 {S:Int}:∀{rs:QPs}{x:Int},(∀r∈rs,0<=r.1/\r.1+1<S)->0<=x->x<S->0<=ND rs x/\ND rs x<S
 | [],_,_,h0,h1=>⟨h0,h1⟩
 |r::rs,x,h,h0,h1=>by
  have:=BM (h r List.mem_cons_self).1 (h r List.mem_cons_self).2 h0 h1
  exact L5 (rs:=rs) (λq hq=>h q (.tail _ hq)) this.1 this.2
theorem Lf {bo cu:List Int}{m S:Nat}(h1:bo.length=m)(h2:cu.length=m)(hm:m<=6)(hS:2<=S)(hS4:S<=4)(hl:∀x∈bo,0<=x/\x+1<(S:Int))(hs:∀x∈cu,x=1∨x= -1):Ok (UB bo cu (S:Int)) (WkP m):=by
 have hrs:∀q∈Co bo cu,0<=q.1/\q.1+1<(S:Int):=λq hq=>by
  obtain⟨k,hk,rfl⟩:=List.mem_map.mp hq
  have hk:=List.mem_range.mp hk
  have:bo.getD k 0∈bo:=by simp[hk]
  exact hl _ this
 have ff:∀k (hk:k<bo.length) (dL:k<cu.length),(Co bo cu)[k]?=some (bo[k],((k:Int)+1)*cu[k]):=λk hk dL=>by
  unfold Co
  rw[List.getElem?_map,List.getElem?_range hk]
  simp[hk,dL]
 have kh:(Co bo cu).length=m:=by simp[Co,h1]
 unfold UB FH;dsimp only
 simp only[Rs.okb]
 rw[Xi (show[false].length<=sizeLine from sz (by simp)),Rs.okb,show Iv [false] (S:Int)= .ok (List.replicate S false) from ?_]
 rotate_left
 ·unfold Iv
  rw[Xi ⟨by omega,by omega,sz (by simp;omega)⟩,Int.toNat_natCast]
  congr 1
  clear hS hS4 hl hrs
  induction S with
  |zero=>rfl
  |succ n ih=>rw[List.replicate_succ,List.flatten_cons,ih,List.replicate_succ];rfl
 rw[Rs.okb,Y5 (by omega),Rs.okb]
 generalize hR:Co bo cu=rs at hrs kh ff
 refine Ok.bind (Ok.forN (λi (g:List Bool×QLs)=>g.1.length=S/\g.2.length<=i/\(∀q:Nat,q<i->g.1[q]?=some true)/\∃ps,Done (S:Int) g.1 ps/\g.2.flatten=ps.flatMap (Bc rs)/\(g.2=[]->ps=[])) ⟨by simp,Nat.le_refl _,λq hq=>by omega,[],Done.none _ _,rfl,λ_=>rfl⟩ λi a g ha hg=>?_) λg hg=>?_
 ·obtain⟨rfl,hi⟩:=X8 ha
  obtain⟨g1,g2,g3,ps,g4,g5,g6⟩:=hg
  have jm:i<g.1.length:=by omega
  rw[Yq (n:=i) rfl jm]
  simp only[Rs.okb]
  cases hb:g.1[i] with
  |true=>
   rw[show(!true)=false from rfl,if_neg Bool.false_ne_true]
   simp only[Rs.okb]
   exact⟨_,rfl,g1,by show g.2.length<=_;omega,Es g3 (by simp[jm,hb]),ps,g4,g5,g6⟩
  |false=>
   rw[show(!false)=true from rfl,if_pos rfl]
   refine Ok.bind (R:=λg':List Bool×QLs=>g'.1.length=S/\g'.2.length<=i+1/\(∀q:Nat,q<i+1->g'.1[q]?=some true)/\∃ps,Done (S:Int) g'.1 ps/\g'.2.flatten=ps.flatMap (Bc rs)/\(g'.2=[]->ps=[])) (Ok.bind (G9 (λg':List Bool×Int×List Int=>g'.1.length=S/\0<=g'.2.1/\g'.2.1<(S:Int)/\(∀q:Nat,g.1[q]?=some true->g'.1[q]?=some true)/\((g'.2.1=(i:Int)/\g'.1[i]?=some false)∨g'.1[i]?=some true)/\g'.2.2.length+100*g'.1.count false<=100*S/\∃qs,Done (S:Int) g'.1 (ps++qs)/\g'.2.2=qs.flatMap (Bc rs)) (λg'=>g'.1.count false) (λg' gc=>?_) _ (g.1,(i:Int),[]) ⟨g1,by show(0:Int)<=(i:Int);omega,by show(i:Int)<(S:Int);omega,λq h=>h, .inl ⟨rfl,by simp[jm,hb]⟩,by
    have:g.1.count false<=g.1.length:=List.count_le_length
    show 0+100*g.1.count false<=100*S
    omega,[],by rw[List.append_nil];exact g4,rfl⟩ ?_) λg' gc=>?_) λg' gc=>?_
   ·obtain⟨w1,w2,w3,w4,w5,w8,qs,w6,w7⟩:=gc
    obtain⟨p,hp⟩:∃p:Nat,g'.2.1=(p:Int):=⟨g'.2.1.toNat,by omega⟩
    have hpl:p<g'.1.length:=by omega
    rw[Yq hp hpl]
    refine⟨_,rfl,λhf=>?_⟩
    have hf':g'.1[p]=false:=by simpa using hf
    have hfs:g'.1[p]?=some false:=by simp[hpl,hf']
    rw[hp,Zz hpl]
    simp only[Rs.okb]
    rw[Y5 (by omega)]
    simp only[Rs.okb]
    refine Ok.bind (Ok.forN (λk (h:Int×List Int)=>h.1=ND (rs.take k) (p:Int)/\h.2=g'.2.2++Bc (rs.take k) (p:Int)) ⟨rfl,by rw[List.take_zero];exact(List.append_nil _).symm⟩ λk b h eD hh=>?_) λh hh=>?_
    ·obtain⟨rfl,hk⟩:=X8 eD
     obtain⟨e1,e2⟩:=hh
     have dL:k<cu.length:=by omega
     have hq:=ff k hk dL
     have hts:rs.take (k+1)=rs.take k++[(bo[k],((k:Int)+1)*cu[k])]:=by rw[List.take_add_one,hq];rfl
     rw[hts,IU,LY, ←e1]
     have hsg:=hs _ (List.getElem_mem dL)
     rw[Yq (r:=bo) (n:=k) rfl hk]
     simp only[Rs.okb]
     rw[Yq (r:=cu) (n:=k) rfl dL]
     simp only[Rs.okb]
     rw[QH (a:=(k:Int)+1) (by omega) (by omega),QH (a:=-((k:Int)+1)) (by omega) (by omega)]
     simp only[Rs.okb]
     have af:h.2.length<sizeLine:=Gg (by
      have:=BJ (rs.take k) (p:Int)
      rw[List.length_take] at this
      rw[e2,List.length_append];omega)
     rw[Xi af,Xi af]
     generalize bo[k]=low
     by_cases c1:h.1=low
     ·rw[if_pos (decide_eq_true c1)]
      simp only[Rs.okb]
      refine⟨_,rfl,?_,?_⟩
      ·rw[P8 c1,c1]
      ·rw[Sn c1,e2,List.append_assoc]
     ·rw[if_neg (by rw[decide_eq_false c1];exact Bool.false_ne_true)]
      by_cases c2:h.1=low+1
      ·rw[if_pos (decide_eq_true c2)]
       simp only[Rs.okb]
       refine⟨_,rfl,?_,?_⟩
       ·rw[S7 c2,c2];show low+1-1=low;omega
       ·rw[Pj c2,e2,List.append_assoc,Int.neg_mul]
      ·rw[if_neg (by rw[decide_eq_false c2];exact Bool.false_ne_true)]
       simp only[Rs.okb]
       refine⟨_,rfl,?_,?_⟩
       ·rw[SI c1 c2]
       ·rw[SJ c1 c2,List.append_nil,e2]
    ·rw[X1,h1, ←kh,List.take_length] at hh
     obtain⟨e1,e2⟩:=hh
     have gX:=L5 hrs (show(0:Int)<=(p:Int) by omega) (show(p:Int)<(S:Int) by omega)
     have hct:=F0 hfs
     have hcl':=BJ rs (p:Int)
     refine⟨_,rfl,⟨?_,?_,?_,?_,?_,?_,qs++[(p:Int)],?_,?_⟩,?_⟩
     ·show(g'.1.set p true).length=S
      rw[List.length_set];exact w1
     ·show 0<=h.1
      rw[e1];exact gX.1
     ·show h.1<_
      rw[e1];exact gX.2
     ·exact λq hq=>GS (w4 q hq)
     ·refine .inr ?_
      show(g'.1.set p true)[i]?=some true
      rcases w5 with⟨h1,_⟩ |h1
      ·have:p=i:=by omega
       subst this
       rw[List.getElem?_set_self hpl]
      ·exact GS h1
     ·show h.2.length+100*(g'.1.set p true).count false<=100*S
      rw[e2,List.length_append];omega
     ·rw[←List.append_assoc]
      have:=w6.snoc (a:=(p:Int)) (by omega) (by omega) (by rw[Int.toNat_natCast];exact hfs)
      rwa [Int.toNat_natCast] at this
     ·show h.2=_
      rw[e2,w7,List.flatMap_append]
      simp
     ·show(g'.1.set p true).count false<g'.1.count false
      omega
   ·have:g.1.count false<=g.1.length:=List.count_le_length
    show g.1.count false<(S:Int).natAbs+2
    omega
   ·obtain⟨⟨w1,w2,w3,w4,w5,w8,qs,w6,w7⟩,hc⟩:=gc
    obtain⟨p,hp⟩:∃p:Nat,g'.2.1=(p:Int):=⟨g'.2.1.toNat,by omega⟩
    have hpl:p<g'.1.length:=by omega
    rw[Yq hp hpl,Rs.okb] at hc
    have eM:g'.1[p]=true:=by
     have:=Rs.ok.inj hc
     simpa using this
    have h5:g'.1[i]?=some true:=by
     rcases w5 with⟨h1,h6⟩ |h1
     ·have:p=i:=by omega
      subst this
      rw[List.getElem?_eq_getElem hpl,eM] at h6
      cases h6
     ·exact h1
    rw[Xi (Gg (by omega))]
    refine⟨_,rfl,w1,?_,?_,ps++qs,w6,?_,λz=>by simp at z⟩
    ·show(g.2++[g'.2.2]).length<=_
     simp;omega
    ·exact Es (λq hq=>w4 q (g3 q hq)) h5
    ·show(g.2++[g'.2.2]).flatten=_
     rw[List.flatten_append,g5,List.flatMap_append,w7]
     simp
   ·exact⟨_,rfl,gc⟩
 ·obtain⟨g1,g2,g3,ps,g4,g5,g6⟩:=hg
  rw[X1] at g2 g3
  have pp:=g4.all (by rw[g1];rfl) (by omega) λq hq=>g3 q (by omega)
  refine⟨_,rfl,?_,by omega,?_⟩
  ·refine Nat.pos_of_ne_zero λz=>?_
   rw[g6 (List.length_eq_zero_iff.mp z)] at pp
   have:=pp.length_eq
   simp[E2] at this
   omega
  rw[g5]
  refine(Jo _ pp).trans ?_
  rw[Int.toNat_natCast]
  refine(BZ hrs).trans ?_
  rw[←hR]
  unfold Co pm nm
  rw[flatMap_map,flatMap_map,h1]
  refine VB λk hk=>PX ?_
  have bF:=List.mem_range.mp hk
  exact hs _ (by simp;rw[List.getElem?_eq_getElem (by omega)];exact List.getElem_mem _)
theorem BW:∀{ws:QLs}{i:Nat} (h:i<ws.length),((ws.set i ws[i].reverse).flatten).Perm ws.flatten
 | [],i,h=>by simp at h
 |w::ws,0,h=>by
  show(w.reverse++ws.flatten).Perm (w++ws.flatten)
  exact(List.reverse_perm w).append_right _
 |w::ws,i+1,h=>by
  have h':i<ws.length:=by simpa using h
  show(w++(ws.set i ws[i].reverse).flatten).Perm (w++ws.flatten)
  exact(BW h').append_left _
theorem Sy {M:Type}{l:List (Int×M)}{k:Int}{v:M}:(UM l k v).length<=l.length+1:=by
 unfold UM
 split
 ·simp
 ·simp
theorem WP {M:Type}{as:List M}{i:Int}(h0:0<=i)(h:i<(as.length:Int)):∃x,atR as i= .ok x/\x∈as:=
 ⟨as[i.toNat]'(by omega),Yq (by omega) (by omega),List.getElem_mem _⟩
theorem Dz {ws:QLs}{cu r:List Int}{m:Nat}(w:WkP m ws)(h2:cu.length=m)(hs:∀x∈cu,x=1∨x= -1)(hm:m<=6)(hr:20<=r.length)(hf:∃j:Int,0<=j/\j<3/\atR r (-1)= .ok j):Ok (QV ws cu r) λd=>Dr 0 d.1 d.2:=by
 unfold QV Ve;dsimp only
 simp only[Rs.okb]
 have hw4:=w.lw
 rw[Y5 (by omega),Rs.okb]
 refine Ok.bind (Ok.forN (λi (g:QLs×List (Int×Bool))=>WkP m g.1/\g.1.length=ws.length/\g.2.length<=30*i) ⟨w,rfl,Nat.le_refl _⟩ λi a g ha hg=>?_) λg hg=>?_
 ·obtain⟨rfl,hi⟩:=X8 ha
  obtain⟨g1,g2,g3⟩:=hg
  rw[Yq (r:=r) (n:=4+i) (by omega) (by omega)]
  simp only[Rs.okb]
  refine Ok.bind (R:=λg':QLs×List (Int×Bool)=>WkP m g'.1/\g'.1.length=ws.length/\g'.2.length<=30*(i+1)) (Ok.ite (λ_=>?_) λ_=>⟨_,rfl,g1,g2,by show g.2.length<=_;omega⟩) λg' gc=>⟨_,rfl,gc⟩
  have fz:i<g.1.length:=by omega
  have hl:=g1.short (List.getElem_mem fz)
  rw[Yq (r:=g.1) (n:=i) rfl fz]
  simp only[Rs.okb]
  rw[Xi trivial,Rs.okb,Zz fz]
  simp only[Rs.okb]
  rw[Yq (r:=g.1.set i _) (n:=i) rfl (by simpa using fz),List.getElem_set_self]
  simp only[Rs.okb]
  refine Ok.bind (Ok.forN (λk (h:List (Int×Bool))=>h.length<=30*i+k) g3 λk b h hb hh=>?_) λh hh=>?_
  ·rw[Xi (Gg (by
    have:=(List.getElem?_eq_some_iff.mp hb).1
    rw[List.length_reverse] at this
    omega))]
   exact⟨_,rfl,Nat.le_trans Sy (by omega)⟩
  ·rw[List.length_reverse] at hh
   refine⟨_,rfl,⟨by rw[List.length_set];exact g1.ne,by rw[List.length_set];exact g1.lw,(BW fz).trans g1.perm⟩,by rw[List.length_set];exact g2,by show h.length<=_;omega⟩
 obtain⟨g1,g2,-⟩:=hg
 generalize g.1=vs at g1 g2
 rw[Y5 (by omega),Rs.okb]
 refine Ok.bind (Ok.forN (λi (l:QPs)=>l.map Prod.fst=nm i/\∀e∈l,e.2=1∨e.2= -1) ⟨rfl,λe he=>nomatch he⟩ λi a l ha hl=>?_) λl hl=>?_
 ·obtain⟨rfl,hi⟩:=X8 ha
  obtain⟨hl,fr⟩:=hl
  have hsi:=hs _ (List.getElem_mem hi)
  rw[Yq (r:=cu) (n:=i) rfl hi]
  simp only[Rs.okb]
  have e:∀s:Int,(l++[((i:Int)+1,s)]).map Prod.fst=nm (i+1):=λs=>by
   unfold nm at hl⊢
   rw[List.map_append,hl,List.range_succ,List.map_append]
   rfl
  have hll:l.length=i:=by
   have:=congrArg List.length hl
   simpa[nm] using this
  refine Ok.bind (R:=λs:Int=>s=1∨s= -1) (Ok.ite (λ_=>⟨_,rfl,by omega⟩) λ_=>⟨_,rfl,hsi⟩) λs dP=>?_
  rw[Xi (Gg (by omega))]
  refine⟨_,rfl,e s,λx hx=>?_⟩
  rcases List.mem_append.mp hx with z |z
  ·exact fr x z
  ·rw[List.mem_singleton.mp z];exact dP
 rw[X1] at hl
 obtain⟨hl,fr⟩:=hl
 obtain⟨j,j0,j1,ej⟩:=hf
 rw[K6 (by decide) (by decide) (by decide) (by decide)]
 simp only[Rs.okb]
 rw[Xi (sz (by simp)),Rs.okb,ej,Rs.okb]
 obtain⟨f,ef,hfm⟩:=WP (as:=[(1:Int),7,10^(9:Int).toNat]) j0 j1
 have hff:0<f/\f<2^64:=by
  simp only[List.mem_cons,List.not_mem_nil,or_false] at hfm
  rcases hfm with rfl |rfl |rfl<;> decide
 obtain⟨f0,f1⟩:=hff
 rw[ef,Rs.okb]
 rw[QN (h:=λw=>w.map λx=>x*f) (sz (by omega)) λw' hw'=>QN (h:=λx=>x*f) (sz (by have:=g1.short hw';omega)) λx _=>QH (by omega) f1,Rs.okb]
 have hll:l.length=m:=by
  have:=congrArg List.length hl
  simp[nm] at this
  omega
 rw[QN (h:=λe:Int×Int=>(e.1*f,e.2)) (sz (by omega)) λe _=>by rw[QH (by omega) f1,Rs.okb],Rs.okb]
 have hk:(l.map λe:Int×Int=>(e.1*f,e.2)).map Prod.fst=(nm cu.length).map λx=>x*f:=by
  rw[List.map_map,show(Prod.fst∘λe:Int×Int=>(e.1*f,e.2))=(λx=>x*f)∘Prod.fst from rfl, ←List.map_map,hl]
 have bF:kys (l.map λe:Int×Int=>(e.1*f,e.2))=(List.range m).map λ(k:Nat)=>((k:Int)+1)*f:=by
  show(l.map λe:Int×Int=>(e.1*f,e.2)).map Prod.fst=_
  rw[hk,h2,nm,List.map_map]
  rfl
 refine⟨_,rfl,by omega,by show 1<=(vs.map _).length;rw[List.length_map];exact g1.ne,by show(vs.map _).length<=4;rw[List.length_map];exact g1.lw,⟨?_,λe he=>?_⟩,by show(l.map _).length<=_;rw[List.length_map];omega,?_,λe he=>?_⟩
 ·have:((l.map λe:Int×Int=>(e.1*f,e.2)).map λx:Int×Int=>x.1).Pairwise (· < ·):=by
   rw[show(l.map λe:Int×Int=>(e.1*f,e.2)).map (λx:Int×Int=>x.1)=_ from bF,List.pairwise_map]
   exact List.pairwise_lt_range.imp fun {a b} h=>Int.mul_lt_mul_of_pos_right (by omega) f0
  exact List.pairwise_map.mp this
 ·have:e.1∈kys (l.map λe:Int×Int=>(e.1*f,e.2)):=List.mem_map_of_mem he
  rw[bF] at this
  obtain⟨k,_,e1⟩:=List.mem_map.mp this
  rw[←e1]
  have:=Int.mul_le_mul_of_nonneg_right (show(1:Int)<=(k:Int)+1 by omega) (Int.le_of_lt f0)
  omega
 ·show(vs.map λw=>w.map λx=>x*f).flatten.Perm (pm (kys (l.map λe:Int×Int=>(e.1*f,e.2))))
  rw[show(vs.map λw=>w.map λx=>x*f).flatten=vs.flatten.map λx=>x*f by rw[List.map_flatten]]
  rw[show kys (l.map λe:Int×Int=>(e.1*f,e.2))=(nm m).map λx=>x*f from h2▸hk]
  refine(g1.perm.map _).trans ?_
  unfold pm
  rw[List.map_flatMap,List.flatMap_map]
  refine List.Perm.of_eq (congrArg (λg=>List.flatMap g (nm m)) (funext λx=>?_))
  show[x*f,-x*f]=[x*f,-(x*f)]
  rw[Int.neg_mul]
 ·obtain⟨e',he',rfl⟩:=List.mem_map.mp he
  exact fr e' he'
theorem RN {r:List Int}{n:Nat}(h:r.length=n+1):atR r (-1)= .ok (r[n]'(by omega)):=by
 unfold atR atI ixN
 rw[if_neg (by omega),if_pos (by omega)]
 simp only[h,Option.bind_some,show(-1+((n+1:Nat):Int)).toNat=n by omega]
 rw[List.getElem?_eq_getElem (by omega)]
theorem AR {l:List Int}(h:l.length<=6):(spl l none (some 3) (KR [0,1,0] none (some (l.length:Int)))).length=l.length/\(KR [(0:Int),1,0] none (some (l.length:Int))).length<=3/\∀x∈spl l none (some 3) (KR [0,1,0] none (some (l.length:Int))),x∈l∨x=0∨x=1:=by
 unfold spl KR
 rw[HT.sIx_none,HT.sIx_none,HT.sIx_nat,show HT.sIx l.length l.length (some 3)=min 3 l.length from HT.sIx_nat _ _ 3]
 refine⟨?_,?_,λx hx=>?_⟩
 ·simp;omega
 ·simp;omega
 ·rcases List.mem_append.mp hx with hx |hx
  ·rcases List.mem_append.mp hx with hx |hx
   ·exact .inl (List.mem_of_mem_take hx)
   ·have:=List.mem_of_mem_take hx
    simp at this
    omega
  ·exact .inl (List.mem_of_mem_drop hx)
theorem Ib {l:List Int}{n:Nat}(h:l.length*n<=1000)(hn:n<=1000):Iv l (n:Int)= .ok (List.replicate n l).flatten:=by
 unfold Iv
 rw[Xi ⟨by omega,by omega,by rw[Int.toNat_natCast];exact sz (by omega)⟩,Int.toNat_natCast]
theorem EJ {M:Type}{l m:List M}(h:l.length+m.length<=1000):NC l m= .ok (l++m):=Xi (sz (by omega))
def zs:List Int:=[7,3,3,3,2,2,2,2,4,2,60,60,4,4,4,2,60,60,4,4,4,2,60,60,4,4,4,2,60,60,4,4,4,2,60,60,4,4,4,2,60,60,4,4,3]
theorem zs9:∀k:Nat,k<6->zs[6*k+9]?=some 2:=by decide
theorem emd {y:Int}{n:Nat}(h:0<n):∃j:Nat,y % (n:Int)=(j:Int)/\j<n:=by
 have h1:=Int.emod_nonneg y (show(n:Int)≠0 by omega)
 have h2:=Int.emod_lt_of_pos y (show(0:Int)<n by omega)
 exact⟨(y % (n:Int)).toNat,by omega,by omega⟩
theorem P9 (i:Nat):pm (nm (i+1))=pm (nm i)++[(i:Int)+1,-(i:Int)-1]:=by
 unfold pm nm
 rw[List.range_succ,List.map_append,List.flatMap_append]
 congr 1
 show[(i:Int)+1,-((i:Int)+1)]=_
 congr 2
 omega
theorem Oy (i:Nat):(pm (nm i)).length=2*i:=by
 unfold pm
 rw[Ju,OX]
theorem BX (ns:List Int){p:Int}(hp:0<=p):Ok (GN ns p) λd=>Dr 0 d.1 d.2:=by
 unfold GN Cd;dsimp only
 simp only[Rs.okb]
 rw[Xi (sz (by simp)),Rs.okb,Xi (sz (by simp)),Rs.okb,show Iv [(2:Int)] 4= .ok [2,2,2,2] from Ib (n:=4) (by simp) (by omega),Rs.okb,EJ (by simp),Rs.okb,Xi (sz (by simp)),Rs.okb,show Iv [(4:Int),2,60,60,4,4] 6=_ from Ib (n:=6) (by simp) (by omega),Rs.okb,EJ (by simp),Rs.okb,Xi (sz (by simp)),Rs.okb,EJ (by simp),Rs.okb]
 obtain⟨r,er,rl,hr⟩:=EE ns hp zs (by decide) (by decide)
 rw[show([(7:Int),3,3,3]++[2,2,2,2]++(List.replicate 6 [(4:Int),2,60,60,4,4]).flatten++[3])=zs from rfl,er,Xo,Rs.okb]
 have rl:r.length=45:=rl
 have hb:∀(i:Nat) (h:i<45) (s:Int),zs[i]?=some s->0<=r[i]/\r[i]<s:=λi h s e=>hr i r[i] s (by simp[rl,h]) e
 obtain⟨b0,c0⟩:=hb 0 (by omega) 7 rfl
 obtain⟨b3,c3⟩:=hb 3 (by omega) 3 rfl
 rw[Yq (r:=r) (k:=3) (n:=3) rfl (by omega),Yq (r:=r) (k:=0) (n:=0) rfl (by omega),Yq (r:=r) (k:=1) (n:=1) rfl (by omega),Yq (r:=r) (k:=2) (n:=2) rfl (by omega)]
 simp only[Rs.okb]
 obtain⟨m,em⟩:∃m:Nat,r[0]=(m:Int):=⟨r[0].toNat,by omega⟩
 obtain⟨S,eS⟩:∃S:Nat,(2:Int)+r[3]=(S:Int):=⟨(2+r[3]).toNat,by omega⟩
 rw[em,eS,Y5 (by omega),Rs.okb]
 refine Ok.bind (Ok.forN (λi (g:List Int×List Int×List Int)=>g.1.length=i/\g.2.1.length=i/\g.2.2=pm (nm i)/\(∀x∈g.1,0<=x/\x+1<(S:Int))/\(∀x∈g.2.1,x=1∨x= -1)) ⟨rfl,rfl,rfl,λx hx=>(by cases hx),λx hx=>(by cases hx)⟩ λi a g ha hg=>?_) λg hg=>?_
 ·obtain⟨rfl,hi⟩:=X8 ha
  obtain⟨g1,g2,g3,g4,g5⟩:=hg
  have g3l:=Oy i
  rw[Zy (by decide) (by decide)]
  simp only[Rs.okb]
  rw[Yq (r:=r) (n:=6*i+8) (by omega) (by omega)]
  simp only[Rs.okb]
  rw[Yq (r:=r) (n:=6*i+9) (by omega) (by omega)]
  simp only[Rs.okb]
  obtain⟨d0,d1⟩:=hb (6*i+9) (by omega) 2 (zs9 i (by omega))
  obtain⟨j,ej,hj⟩:=emd (y:=r[6*i+8]) (n:=S-1) (by omega)
  rw[show((S-1:Nat):Int)=(S:Int)-1 by omega] at ej
  rw[Yx (by omega),Rs.okb,ej,Zy (by decide) (by decide)]
  simp only[Rs.okb]
  rw[Xi (Gg (by omega)),Xi (Gg (by omega)),Xi (sz (by simp)),Rs.okb,Xi (sz (by rw[g3];simp;omega))]
  refine⟨_,rfl,by simp[g1],by simp[g2],by rw[g3,P9],λx hx=>?_,λx hx=>?_⟩
  ·rcases List.mem_append.mp hx with z |z
   ·exact g4 x z
   ·rw[List.mem_singleton.mp z];omega
  ·rcases List.mem_append.mp hx with z |z
   ·exact g5 x z
   ·rw[List.mem_singleton.mp z];omega
 rw[X1] at hg
 obtain⟨g1,g2,g3,g4,g5⟩:=hg
 refine Ok.bind (R:=λl:List Int=>l.length=m/\∀x∈l,0<=x/\x+1<(S:Int)) ?_ λl hl=>?_
 ·rw[HF (c:=decide ((2:Int)<(S:Int))) λ_=>rfl,Rs.okb]
  refine Ok.ite (λhb=>?_) λ_=>⟨_,rfl,g1,g4⟩
  have h3:(2:Int)<(S:Int):=by
   simp only[Bool.and_eq_true,decide_eq_true_eq] at hb
   exact hb.2
  obtain⟨y1,y2,y3⟩:=AR (l:=g.1) (by omega)
  rw[Xi (sz (by simp)),Rs.okb,Rs.okb,Xi (sz (by omega))]
  refine⟨_,rfl,by omega,λx hx=>?_⟩
  rcases y3 x hx with z |z
  ·exact g4 x z
  ·omega
 obtain⟨ws,ew,hw⟩:=Lf hl.1 g2 (by omega) (by omega) (by omega) hl.2 g5
 rw[ew,Xo,Rs.okb]
 obtain⟨b44,c44⟩:=hb 44 (by omega) 3 rfl
 have e44:atR r (-1)= .ok r[44]:=RN (n:=44) rl
 refine Ok.bind (R:=WkP m) ?_ λvs hv=>(Dz hv g2 g5 (by omega) (by omega) ⟨r[44],b44,c44,e44⟩).noE
 refine Ok.ite (λ_=>?_) λ_=>⟨_,rfl,hw⟩
 rw[Y5 (by omega),Rs.okb,QN (h:=λ_=>([]:List Int)) (sz (by simp;omega)) λ_ _=>rfl]
 simp only[Rs.okb]
 rw[Zy (by decide) (by decide),Rs.okb,show(2:Int)*(m:Int)=((2*m:Nat):Int) by omega,Y5 (by omega)]
 simp only[Rs.okb]
 refine Ok.bind (Ok.forN (λi (g:List Int×QLs)=>g.2.length=S/\g.1.length+i=2*m/\(∀w∈g.2,w.length<=i)/\(g.2.flatten++g.1).Perm (pm (nm m))) ⟨by simp,by show g.2.2.length+0=_;rw[g3,Oy];rfl,λw hw=>?_,?_⟩ λi a g ha hg=>?_) λg hg=>?_
 ·obtain⟨_,_,rfl⟩:=List.mem_map.mp hw
  exact Nat.zero_le _
 ·have:∀l:List Int,(l.map λ_=>([]:List Int)).flatten=[]:=λl=>by simp
  rw[this,g3];exact List.Perm.refl _
 ·obtain⟨rfl,hi⟩:=X8 ha
  obtain⟨h1,h2,h3,h4⟩:=hg
  rw[LX (by decide) (by decide),Rs.okb,Zy (by decide) (by decide),Rs.okb,Yx (by decide)]
  simp only[Rs.okb]
  rw[Yq (r:=r) (n:=6*(i/2)+i % 2+10) (by omega) (by omega),Yq (r:=r) (n:=6*(i/2)+i % 2+12) (by omega) (by omega)]
  simp only[Rs.okb]
  obtain⟨j,ej,hj⟩:=emd (y:=r[6*(i/2)+i % 2+10]) (n:=g.1.length) (by omega)
  obtain⟨q,eq,hq⟩:=emd (y:=r[6*(i/2)+i % 2+12]) (n:=S) (by omega)
  rw[Yx (by omega),Rs.okb,ej,Tx hj (by omega),Rs.okb,Yx (by omega),Rs.okb,eq]
  have hq:q<g.2.length:=by omega
  have hw:=h3 g.2[q] (List.getElem_mem hq)
  rw[Yq (n:=q) rfl hq,Rs.okb,Xi (Gg (by omega)),Zz hq,Rs.okb]
  have hjs:g.1[j]?=some g.1[j]:=by simp[hj]
  have hqs:g.2[q]?=some g.2[q]:=by simp[hq]
  refine⟨_,rfl,by simp[h1],?_,λw hw'=>?_,(HA hqs hjs).trans h4⟩
  ·have:=FY hjs
   show(g.1.eraseIdx j).length+(i+1)=_
   omega
  ·rcases mem_set hw' with h |h
   ·have:=h3 w h;omega
   ·rw[h];simp;omega
 ·obtain⟨h1,h2,h3,h4⟩:=hg
  rw[X1] at h2
  have:g.1=[]:=List.length_eq_zero_iff.mp (by omega)
  rw[this,List.append_nil] at h4
  exact⟨_,rfl,by omega,by omega,h4⟩
section
variable {n:Nat}{ws:QLs}{sg:QPs}
structure Sm (x0 x1 x2 x3 x4 x5 x6 x7 x8:Int):Prop where
 h1:0<=x1/\x1<41
 h4:0<=x4/\x4<60
 h5:0<=x5/\x5<60
 h6:x6=0∨x6=1
 h7:x7=0∨x7=1
variable {x0 x1 x2 x3 x4 x5 x6 x7 x8:Int}
theorem WO {y:Int}:∃j:Nat,y % 4=(j:Int)/\∃f,atR [(1:Int),1,10^(9:Int).toNat,10^(40:Int).toNat] (j:Int)= .ok f/\1<=f:=by
 obtain⟨j,e,h⟩:=emd (y:=y) (n:=4) (by omega)
 refine⟨j,e,?_⟩
 rcases(show j=0∨j=1∨j=2∨j=3 by omega) with rfl |rfl |rfl |rfl
 ·exact⟨1,ar0,by decide⟩
 ·exact⟨1,ar1,by decide⟩
 ·exact⟨_,ar2,by decide⟩
 ·exact⟨_,ar3,by decide⟩
theorem MV (d:Dr n ws sg)(h:Sm x0 x1 x2 x3 x4 x5 x6 x7 x8):Ok (DS (ws,sg) [x0,x1,x2,x3,x4,x5,x6,x7,x8]) λm=>∃ (i k:Nat) (c:Int) (o:Bool) (s:Int),m=Mv i k c o s/\i<ws.length/\k<=(gw ws i).length/\c∉kys sg/\1<=c/\(s=1∨s= -1):=by
 unfold DS HN;dsimp only
 simp only[Rs.okb,ar0,ar1,ar4,ar6,ar7,ar8]
 obtain⟨i,ei,hi⟩:=emd (y:=x0) (n:=ws.length) (by have:=d.ne;omega)
 rw[Yx (by have:=d.ne;omega),Rs.okb,ei,Dd hi]
 simp only[Rs.okb]
 obtain⟨k,ek,hk⟩:=emd (y:=x1) (n:=(gw ws i).length+1) (by omega)
 rw[Yx (by omega),Rs.okb,show((gw ws i).length:Int)+1=(((gw ws i).length+1:Nat):Int) by omega,ek]
 rw[K6 (by decide) (by decide) (by decide) (by decide),K6 (by decide) (by decide) (by decide) (by decide)]
 simp only[Rs.okb]
 obtain⟨j,ej,f,ef,hf⟩:=WO (y:=x8)
 rw[Xi (sz (by simp)),Rs.okb,Yx (by decide),Rs.okb,ej,ef,Rs.okb]
 have h4:=h.h4
 rw[Zy (by omega) (by omega)]
 simp only[Rs.okb,d.gs.dict]
 obtain⟨c,ec,hc,eP⟩:=WU (d:=sg) (n:=1+x4*f)
 rw[ec,Xo,Rs.okb]
 rw[Xi (sz (by simp)),Rs.okb,Zy (by decide) (by decide)]
 simp only[Rs.okb]
 have e6:∃o:Bool,atR [("under":Str),"over"] x6= .ok (ovw o):=by
  rcases h.h6 with z |z
  ·rw[z];exact⟨false,ar0⟩
  ·rw[z];exact⟨true,ar1⟩
 obtain⟨o,eo⟩:=e6
 rw[eo]
 simp only[Rs.okb]
 rw[Xi (sz (by simp))]
 have:=Int.mul_nonneg h4.1 (show 0<=f by omega)
 exact⟨_,rfl,i,k,c,o,2*x7-1,rfl,hi,by omega,eP,by omega,by rcases h.h7 with z |z<;> omega⟩
end
theorem Sg.ext {l m:QPs}(h:Sg l)(h':Sg m)(e:∀x,x∈l↔x∈m):l=m:=by
 have:=G6 F7 (C8 h'.kn) ((List.perm_ext_iff_of_nodup (C8 h.kn) (C8 h'.kn)).mpr e) h.rise
 rw[h'.sort] at this
 exact this
section
variable {n:Nat}{ws:QLs}{sg:QPs}
theorem Wm {x:Int×Int}{c:Int}(hx:x∈sg)(hc:c∉kys sg):x.1≠c:=λe=>hc (e▸List.mem_map_of_mem hx)
theorem Rp {l:QPs}{c:Int}{x:Int×Int}:x∈GJ l c↔x∈l/\x.1≠c:=by unfold GJ;simp
theorem SR (h:Sg sg){c s:Int}(hc:c∉kys sg)(h1:1<=c):GJ (sgC sg c s) c=sg:=by
 refine Sg.ext ((Mc h hc h1).2.2.del c) h λx=>?_
 rw[Rp]
 unfold sgC
 rw[Ep,List.mem_append,List.mem_singleton]
 constructor
 ·rintro⟨z |rfl,y⟩
  ·exact z
  ·exact absurd rfl y
 ·exact λz=>⟨.inl z,Wm z hc⟩
theorem SV (d:Dr n ws sg)(hn:n<=4){i k:Nat}{c s:Int}{o:Bool}(hi:i<ws.length)(hk:k<=(gw ws i).length)(hc:c∉kys sg)(h1:1<=c)(hs:s=1∨s= -1):EY (MW ws i k (prc c o),sgC sg c s) [.s "uncurl", .i i, .i k]= .ok (ws,sg):=by
 have d':=d.curl (o:=o) hn hi hk hc h1 hs
 obtain⟨x,hx,kg⟩:∃x,prc c o=[x,-x]/\(x.natAbs:Int)=c:=by
  cases o with
  |true=>exact⟨c,rfl,by omega⟩
  |false=>exact⟨-c,by simp[prc],by omega⟩
 have hg:=WB (a:=x) (b:=-x) hk
 rw[←hx, ←Iu hi] at hg
 have ec:W6 (MW ws i k (prc c o)) i k=ws:=by
  unfold W6
  rw[Iu hi,hx,SH hk]
  unfold MW
  rw[List.set_set,Pd hi]
 have go:=L9 d' (by rw[GK];exact hi) hg.1 hg.2
 rwa [ec,kg,SR d.gs hc h1] at go
theorem qJ {l:List Int}(h:l.length=9):∃x0 x1 x2 x3 x4 x5 x6 x7 x8,l=[x0,x1,x2,x3,x4,x5,x6,x7,x8]:=
 ⟨l[0],l[1],l[2],l[3],l[4],l[5],l[6],l[7],l[8],List.ext_getElem h λi h1 h2=>by
  rcases(show i=0∨i=1∨i=2∨i=3∨i=4∨i=5∨i=6∨i=7∨i=8 by omega) with rfl |rfl |rfl |rfl |rfl |rfl |rfl |rfl |rfl<;> rfl⟩
theorem AN (ns:List Int){p:Int}(hp:0<=p):∃x0 x1 x2 x3 x4 x5 x6 x7 x8,GB ns p [12,41,12,41,60,60,2,2,60]= .ok [x0,x1,x2,x3,x4,x5,x6,x7,x8]/\Sm x0 x1 x2 x3 x4 x5 x6 x7 x8:=by
 obtain⟨r,er,rl,hr⟩:=EE ns hp [12,41,12,41,60,60,2,2,60] (by decide) (by decide)
 obtain⟨x0,x1,x2,x3,x4,x5,x6,x7,x8,rfl⟩:=qJ rl
 have h6:=hr 6 x6 2 rfl rfl
 have h7:=hr 7 x7 2 rfl rfl
 exact⟨x0,x1,x2,x3,x4,x5,x6,x7,x8,er,hr 1 x1 41 rfl rfl,hr 4 x4 60 rfl rfl,hr 5 x5 60 rfl rfl,by omega,by omega⟩
inductive Go:QDr->List (List Mx)->QDr->Prop
 |nil {D}:Go D [] D
 |cons {D D' D'' m ms} (h:EY D m= .ok D') (t:Go D' ms D''):Go D (m::ms) D''
theorem PQ.at2 {q:Q4}(h:PQ ws q):∃i k:Nat,q.1=(i:Int)/\q.2.1=(k:Int)/\At2 ws i k:=by
 obtain⟨i,k,h1,h2,h3,h4,h5⟩:=h.ex
 exact⟨i,k,h1,h2,h3,(List.getElem?_eq_some_iff.mp h5).1⟩
abbrev W4 (w:Str):Prop:=w= "turn" ∨w= "curl" ∨w= "uncurl" ∨w= "pass"
theorem Rj (ns:List Int){p:Int}(hp:0<=p)(d:Dr n ws sg)(hn:n<=4){w:Str}(hw:W4 w):Ok (FU ns p (ws,sg) w) λms=>ms.length<=2/\∃ip iq,Go (ws,sg) ms (ip,iq)/\Dr (n+1) ip iq:=by
 obtain⟨x0,x1,x2,x3,x4,x5,x6,x7,x8,er,h⟩:=AN ns hp
 have hc:Ok ((noE (DS (ws,sg) [x0,x1,x2,x3,x4,x5,x6,x7,x8])).bind λil=>chk ([il].length<=sizeLine) (Rs.ok [il])) λms=>ms.length<=2/\∃ip iq,Go (ws,sg) ms (ip,iq)/\Dr (n+1) ip iq:=by
  refine Ok.bind (MV d h).noE λm r9=>?_
  obtain⟨i,k,c,o,s,e,h1,h2,h3,h4,h5⟩:=r9
  subst e
  rw[Xi (sz (by simp))]
  exact⟨_,rfl,by simp,_,_, .cons (LL d h1 h2 h3 h4) .nil,d.curl hn h1 h2 h3 h4 h5⟩
 unfold FU LQ;dsimp only
 simp only[Rs.okb]
 rw[Xi (sz (by simp)),Rs.okb,er,Xo,Rs.okb]
 rcases hw with rfl |rfl |rfl |rfl
 ·rw[OS,okt]
  simp only[ar0,ar1,ar8,Rs.okb]
  rw[K6 (by decide) (by decide) (by decide) (by decide)]
  simp only[Rs.okb]
  obtain⟨i,ei,hi⟩:=emd (y:=x0) (n:=ws.length) (by have:=d.ne;omega)
  obtain⟨j,ej,hj⟩:=emd (y:=x8) (n:=3) (by omega)
  have e3:∃f,atR [(1:Int),1,10^(50:Int).toNat+7] (j:Int)= .ok f:=by
   rcases(show j=0∨j=1∨j=2 by omega) with rfl |rfl |rfl
   ·exact⟨_,ar0⟩
   ·exact⟨_,ar1⟩
   ·exact⟨_,ar2⟩
  obtain⟨f,ef⟩:=e3
  have h1:=h.h1
  rw[Xi (sz (by simp)),Rs.okb,Yx (by decide),Rs.okb,show x8 % 3=(j:Int) from ej,ef,Rs.okb,Zy (by omega) (by omega),Rs.okb,Yx (by have:=d.ne;omega),Rs.okb,ei]
  simp only[Rs.okb]
  rw[Xi (sz (by simp)),Rs.okb,Rs.okb,Xi (sz (by simp))]
  exact⟨_,rfl,by simp,_,_, .cons (RF d hi) .nil,(d.turn hi).up hn⟩
 ·simp only[UZ,Kv,K4,Ul,Vp,Bool.false_eq_true,if_false,Rs.okb,Ur,orF]
  exact hc
 ·simp only[VJ,Vi,Ub,JM,En,Bool.false_eq_true,if_false,if_true,Rs.okb,Ur,orF]
  refine Ok.bind (MV d h).noE λm r9=>?_
  obtain⟨i,k,c,o,s,e,h1,h2,h3,h4,h5⟩:=r9
  subst e
  have e1:atR (Mv i k c o s) 1= .ok (.i i):=ar1
  have e2:atR (Mv i k c o s) 2= .ok (.i k):=ar2
  rw[e1,e2]
  simp only[Rs.okb,mxI]
  rw[Xi (sz (by simp)),Rs.okb,Xi (sz (by simp))]
  exact⟨_,rfl,by simp,_,_, .cons (LL d h1 h2 h3 h4) (.cons (SV d hn h1 h2 h3 h4 h5) .nil),d.up hn⟩
 ·simp only[UO,decide_true,Bool.false_eq_true,if_false,if_true,K1,Uc,Vs,orF,Rs.okb]
  obtain⟨l,el,hl⟩:=IJ d
  rw[el,Xo,Rs.okb]
  cases l with
  |nil=>
   simp only[show decide ((0:Int)<(([]:List (List Mx)).length:Int))=false from rfl,Bool.false_eq_true,if_false,Rs.okb,Ur]
   exact hc
  |cons a t=>
   rw[show decide ((0:Int)<((a::t).length:Int))=true by simp,okt]
   obtain⟨u,eu,hu⟩:=emd (y:=x8) (n:=(a::t).length) (by simp)
   rw[ar8,Rs.okb,Yx (by simp),Rs.okb,eu,Yq (n:=u) rfl hu]
   simp only[Rs.okb]
   rw[Xi (sz (by simp)),Rs.okb,Rs.okb,Kh]
   obtain⟨p,q,r,em,hc⟩:=hl.2 _ (List.getElem_mem hu)
   obtain⟨i,k,a1,a2,a3⟩:=hc.hp.at2
   obtain⟨j,l,b1,b2,b3⟩:=hc.hq.at2
   obtain⟨u',v,c1,c2,c3⟩:=hc.hr.at2
   unfold O0 at em
   rw[a1,a2,b1,b2,c1,c2] at em
   rw[em]
   exact⟨_,rfl,by simp,_,_, .cons (Si d a3 b3 c3) .nil,(d.pass a3 b3 c3).up hn⟩
theorem Ay {D D':QDr}{ms:List (List Mx)}(h:Go D ms D'):∀{g:List (List Mx)},g.length+ms.length<=1000->forN ms (D,g) (λiJ a53=>chk (iJ.2.length<sizeLine) (Rs.bind (noE (EY iJ.1 a53)) λjU=>Rs.ok (jU,iJ.2++[a53])))= .ok (D',g++ms):=by
 induction h with
 |nil=>intro g _;rw[List.append_nil];rfl
 |cons h t ih=>
  intro g hg
  rw[List.length_cons] at hg
  unfold forN
  dsimp only
  rw[Xi (Gg (by show g.length<=_;omega)),h,Xo,Rs.okb,Rs.okb]
  refine(ih (by rw[List.length_append];simp;omega)).trans ?_
  rw[List.append_assoc]
  rfl
theorem Dr.mono {m:Nat}(d:Dr n ws sg)(h:n<=m)(h5:m<=5):Dr m ws sg:=⟨h5,d.ne,d.lw,d.gs,by have:=d.ls;omega,d.pe,d.sn⟩
theorem Nl (ns:List Int)(d:Dr 0 ws sg){wds:List Str}(h0:0<wds.length)(hw:∀w∈wds,W4 w):Ok (GD ns 1 (ws,sg) wds) λx=>Dr 5 x.1.1 x.1.2:=by
 unfold GD CZ;dsimp only
 simp only[Rs.okb]
 obtain⟨r,er,rl,hr⟩:=EE ns (show(0:Int)<=1 by decide) [5,60,60,60,60] (by decide) (by decide)
 have rl:r.length=5:=rl
 rw[Xi (sz (by simp)),Rs.okb,Xi (sz (by simp)),Rs.okb,show Iv [(60:Int)] 4= .ok [60,60,60,60] from Ib (n:=4) (by simp) (by omega),Rs.okb,EJ (by simp),Rs.okb,show GB ns 1 ([5]++[60,60,60,60])=_ from er,Xo,Rs.okb,Yq (r:=r) (k:=0) (n:=0) rfl (by omega),Rs.okb]
 have b0:=hr 0 r[0] 5 (by simp[rl]) rfl
 obtain⟨m,em⟩:∃m:Nat,r[0]=(m:Int):=⟨r[0].toNat,by omega⟩
 rw[em,Y5 (by omega),Rs.okb]
 refine Ok.bind (Ok.forN (λi (g:QDr×List (List Mx))=>g.2.length<=2*i/\Dr i g.1.1 g.1.2) ⟨Nat.le_refl _,d⟩ λi a g ha hg=>?_) λg hg=>?_
 ·obtain⟨rfl,hi⟩:=X8 ha
  obtain⟨g1,g2⟩:=hg
  rw[Yq (r:=r) (n:=1+i) (by omega) (by omega),Rs.okb]
  obtain⟨u,eu,hu⟩:=emd (y:=r[1+i]) (n:=wds.length) h0
  rw[Yx (by omega),Rs.okb,eu,Yq (n:=u) rfl hu,Rs.okb]
  obtain⟨ms,e,h2,ip,iq,e7,d'⟩:=Rj ns (p:=1+1+(i:Int)) (by omega) g2 (by omega) (hw _ (List.getElem_mem hu))
  rw[show FU ns (1+1+(i:Int)) g.1 wds[u]=_ from e,Xo,Rs.okb]
  refine⟨((ip,iq),g.2++ms),?_,by show(g.2++ms).length<=_;rw[List.length_append];omega,d'⟩
  have:=Ay e7 (g:=g.2) (by omega)
  exact(congrArg (λz=>Rs.bind z λfE=>Rs.ok (fE.1,fE.2)) this).trans rfl
 ·rw[X1] at hg
  exact⟨_,rfl,hg.2.mono (by omega) (by omega)⟩
end
end My
namespace My
def Yz (w:List Int):Nat:=(w.filter λx=>decide (x<0)).length
def QZ (w:List Int):Nat:=max (Yz w) 1
def Z1 (w:List Int)(first:Int):List Int:=(List.range (max w.length 1)).map λk=>first+(Yz (w.take k):Int) % (QZ w:Int)
def XV:QLs->Int->QLs
 | [],_=>[]
 |w::ws,f=>Z1 w f::XV ws (f+QZ w)
def XR (ws:QLs):Int:=(ws.map λw=>(QZ w:Int)).sum
def BO (ws:QLs):Nat:=(ws.filter λw=>decide (Yz w=0)).length
theorem Jz (a b:List Int):Yz (a++b)=Yz a+Yz b:=by unfold Yz;rw[List.filter_append,List.length_append]
theorem UF {x:Int}(h:x<0):Yz [x]=1:=by simp[Yz,h]
theorem UD {x:Int}(h:¬x<0):Yz [x]=0:=by simp[Yz,h]
theorem Zp {w:List Int}{i:Nat}{x:Int}(h:w[i]?=some x):Yz (w.take (i+1))=Yz (w.take i)+Yz [x]:=by
 rw[List.take_add_one,h,Jz];rfl
theorem Uh (w:List Int)(i j:Nat)(h:i<=j):Yz (w.take i)<=Yz (w.take j):=by
 have e:w.take j=w.take i++(w.take j).drop i:=by
  conv=>lhs;rw[←List.take_append_drop i (w.take j)]
  rw[List.take_take,Nat.min_eq_left h]
 rw[e,Jz];omega
theorem SK (w:List Int)(i:Nat):Yz (w.take i)<=Yz w:=by
 by_cases h:i<=w.length
 ·have:=Uh w i w.length h
  rw[List.take_length] at this;exact this
 ·rw[List.take_of_length_le (by omega)];exact Nat.le_refl _
theorem CU (w:List Int):Yz w<=w.length:=List.length_filter_le _ _
theorem Fj (w:List Int):0<QZ w:=by unfold QZ;omega
theorem ZF (w:List Int)(f:Int):(Z1 w f).length=max w.length 1:=by simp[Z1]
theorem Gd (w:List Int)(f:Int){k:Nat}(h:k<max w.length 1):(Z1 w f)[k]?=some (f+(Yz (w.take k):Int) % (QZ w:Int)):=by
 unfold Z1
 rw[List.getElem?_map,List.getElem?_range h];rfl
theorem Yi:∀(ws:QLs) (f:Int),(XV ws f).length=ws.length
 | [],_=>rfl
 |_::ws,f=>by show(XV ws _).length+1=_;rw[Yi ws];rfl
theorem QT (w:List Int)(ws:QLs):XR (w::ws)=QZ w+XR ws:=by simp[XR]
theorem Gc (a b:QLs):XR (a++b)=XR a+XR b:=by simp[XR,List.sum_append]
theorem E3 (w:List Int):XR [w]=QZ w:=by simp[XR]
theorem V5:∀(a b:QLs) (f:Int),XV (a++b) f=XV a f++XV b (f+XR a)
 | [],b,f=>by simp[XV,XR]
 |w::a,b,f=>by
  show Z1 w f::XV (a++b) (f+QZ w)=Z1 w f::(XV a (f+QZ w)++XV b (f+XR (w::a)))
  rw[V5 a b,QT,Int.add_assoc]
theorem Vd {ws:QLs}{i:Nat}{w:List Int}(h:ws[i]?=some w)(f:Int):XV (ws.take (i+1)) f=XV (ws.take i) f++[Z1 w (f+XR (ws.take i))]:=by
 rw[List.take_add_one,h,V5];rfl
theorem J7 {ws:QLs}{i:Nat}{w:List Int}(h:ws[i]?=some w):XR (ws.take (i+1))=XR (ws.take i)+QZ w:=by
 rw[List.take_add_one,h,Gc]
 show _+XR [w]=_
 rw[E3]
theorem VN {ws:QLs}{i:Nat}{w:List Int}(h:ws[i]?=some w)(f:Int):(XV ws f)[i]?=some (Z1 w (f+XR (ws.take i))):=by
 have hl:i<ws.length:=(List.getElem?_eq_some_iff.mp h).1
 have e:ws=ws.take (i+1)++ws.drop (i+1):=(List.take_append_drop _ _).symm
 rw[e,V5,Vd h,List.getElem?_append_left (by rw[List.length_append,Yi,List.length_take];simp;omega),
  List.getElem?_append_right (by rw[Yi,List.length_take];omega),Yi,List.length_take,Nat.min_eq_left (by omega),Nat.sub_self,List.take_append_of_le_length (by rw[List.length_take];omega),List.take_take,Nat.min_eq_left (by omega)]
 rfl
theorem Uf:∀ws:QLs,XR ws=(Yz ws.flatten:Int)+(BO ws:Int)
 | []=>rfl
 |w::ws=>by
  rw[QT,Uf ws,List.flatten_cons,Jz]
  unfold BO
  rw[List.filter_cons]
  by_cases h:Yz w=0
  ·simp[h,QZ];omega
  ·simp[h,QZ];omega
theorem IQ {a b:List Int}(h:a.Perm b):Yz a=Yz b:=(h.filter _).length_eq
theorem LR:∀{xs:List Int},(∀x∈xs,1<=x)->Yz (xs.flatMap λx=>[x,-x])=xs.length
 | [],_=>rfl
 |x::xs,h=>by
  have hx:=h x List.mem_cons_self
  rw[List.flatMap_cons,Jz,LR λy hy=>h y (List.mem_cons_of_mem _ hy)]
  have e:Yz [x,-x]=1:=by
   show Yz ([x]++[-x])=1
   rw[Jz,UD (by omega),UF (by omega)]
  rw[e,List.length_cons];omega
structure LastIs (w:List Int)(i:Nat)(ak:Int):Prop where
 lo: -1<=ak
 hi:ak<(i:Int)
 none:∀j:Nat,ak<(j:Int)->j<i->∀x,w[j]?=some x->¬x<0
 at':0<=ak->∃x,w[ak.toNat]?=some x/\x<0
theorem LastIs.zero (w:List Int):LastIs w 0 (-1):=⟨by omega,by omega,λj _ h=>by omega,λh=>by omega⟩
theorem LastIs.neg {w:List Int}{i:Nat}{x:Int}(e:w[i]?=some x)(hx:x<0):LastIs w (i+1) (i:Int):=
 ⟨by omega,by omega,λj h1 h2=>by omega,λ_=>⟨x,by simpa using e,hx⟩⟩
theorem LastIs.pos {w:List Int}{i:Nat}{x ak:Int}(h:LastIs w i ak)(e:w[i]?=some x)(hx:¬x<0):LastIs w (i+1) ak:=by
 have:=h.hi
 refine⟨h.lo,by omega,λj h1 h2 y hy=>?_,h.at'⟩
 by_cases hj:j=i
 ·subst hj;rw[e] at hy;cases hy;exact hx
 ·exact h.none j h1 (by omega) y hy
theorem JR {w:List Int}{ak:Int}(h:LastIs w w.length ak):∀j:Nat,ak<(j:Int)->Yz (w.take j)=Yz w:=by
 intro j hj
 have key:∀d:Nat,Yz (w.take (j+d))=Yz (w.take j):=λd=>by
  induction d with
  |zero=>rfl
  |succ d ih=>
   cases e:w[j+d]? with
   |none=>
    have:=List.getElem?_eq_none_iff.mp e
    rw[←ih,List.take_of_length_le (by omega),List.take_of_length_le (by omega)]
   |some x=>
    have hl:=(List.getElem?_eq_some_iff.mp e).1
    show Yz (w.take ((j+d)+1))=_
    rw[Zp e,ih,UD (h.none (j+d) (by omega) hl x e)];rfl
 by_cases hl:j<=w.length
 ·rw[←key (w.length-j),show j+(w.length-j)=w.length by omega,List.take_length]
 ·rw[List.take_of_length_le (by omega)]
theorem DK {w:List Int}{ak:Int}(h:LastIs w w.length ak)(h0:0<=ak):Yz (w.take ak.toNat)+1=Yz w:=by
 obtain⟨x,e,hx⟩:=h.at' h0
 have:=Zp e
 rw[UF hx] at this
 rw[←this,JR h (ak.toNat+1) (by omega)]
theorem Lq {w:List Int}{ak:Int}(h:LastIs w w.length ak)(h0:¬0<=ak):Yz w=0:=by
 have:=h.lo
 rw[←JR h 0 (by omega)];simp[Yz]
theorem Mf {w:List Int}{ak f:Int}(h:LastIs w w.length ak){j:Nat}(hj:(j:Int)<=ak):f+(Yz (w.take j):Int) % (QZ w:Int)=f+(Yz (w.take j):Int):=by
 have h0:0<=ak:=by omega
 have h1:=DK h h0
 have h2:=Uh w j ak.toNat (by omega)
 rw[Int.emod_eq_of_lt (by omega) (by unfold QZ;omega)]
theorem Nz {w:List Int}{ak f:Int}(h:LastIs w w.length ak){j:Nat}(hj:ak<(j:Int)):f+(Yz (w.take j):Int) % (QZ w:Int)=f:=by
 rw[JR h j hj]
 by_cases e:Yz w=0
 ·rw[e];simp
 ·have:(QZ w:Int)=(Yz w:Int):=by unfold QZ;omega
  rw[this,Int.emod_self];omega
theorem L8 {w:List Int}{ak:Int}(h:LastIs w w.length ak):(Yz (w.take ak.toNat):Int)+1=(QZ w:Int):=by
 by_cases h0:0<=ak
 ·have:=DK h h0
  unfold QZ;omega
 ·have e:=Lq h h0
  have:=SK w ak.toNat
  unfold QZ;omega
end My
namespace My
structure Spot (ws:QLs)(x:Int)(i j:Nat)(w:List Int):Prop where
 wi:ws[i]?=some w
 xj:w[j]?=some x
 first:∀m:Nat,m<j->w[m]?≠some x
 none:∀(i':Nat) (w':List Int),i'<i->ws[i']?=some w'->x∉w'
theorem Spot.row {ws:QLs}{x:Int}{i j:Nat}{w:List Int}(h:Spot ws x i j w):∃r,(XV ws 0)[i]?=some r/\r.length=w.length/\j<w.length:=by
 have hj:=(List.getElem?_eq_some_iff.mp h.xj).1
 exact⟨_,VN h.wi 0,by rw[ZF];omega,hj⟩
theorem Et:∀{w:List Int}{x:Int},x∈w->∃j:Nat,w[j]?=some x/\∀m:Nat,m<j->w[m]?≠some x
 | [],x,h=>by simp at h
 |y::t,x,h=>by
  by_cases e:y=x
  ·subst e
   exact⟨0,rfl,λm hm=>by omega⟩
  ·rcases List.mem_cons.mp h with z |z
   ·exact absurd z.symm e
   ·obtain⟨j,h1,h2⟩:=Et z
    refine⟨j+1,by simpa using h1,λm hm=>?_⟩
    cases m with
    |zero=>simpa using e
    |succ m=>simpa using h2 m (by omega)
end My
namespace My
open PySem L2
section
variable {M L B ρ:Type}
theorem Dg {f:B->M->Rs (Ctl ρ B)}{g:B}{v:ρ}:∀{as:List M}{i:Nat}{a:M},as[i]?=some a->(∀(k:Nat) b,k<i->as[k]?=some b->f g b= .ok (.nx g))->f g a= .ok (.ret v)->JO as g f= .ok (.ret v)
 | [],i,a,h,_,_=>by simp at h
 |b::as,0,a,h,_,hf=>by
  have:b=a:=by simpa using h
  subst this
  show(f g b).bind _=_
  rw[hf,Rs.okb]
 |b::as,i+1,a,h,hb,hf=>by
  show(f g b).bind _=_
  rw[hb 0 b (by omega) rfl,Rs.okb]
  exact Dg (i:=i) (by simpa using h) (λk c hk hc=>hb (k+1) c (by omega) (by simpa using hc)) hf
theorem Nm {as:List M}{i:Nat}{a:M}(h:as[i]?=some a):(CD as)[i]?=some ((i:Int),a):=by
 have hi:=(List.getElem?_eq_some_iff.mp h).1
 unfold CD
 rw[List.getElem?_zip_eq_some]
 exact⟨by rw[List.getElem?_map,List.getElem?_range hi];rfl,h⟩
theorem LM {w:List Int}{x:Int}{j:Nat}(h:w[j]?=some x)(hf:∀m:Nat,m<j->w[m]?≠some x):Ob w x= .ok (j:Int):=by
 obtain⟨hj,e⟩:=List.getElem?_eq_some_iff.mp h
 have:w.findIdx? (λb=>decide (b=x))=some j:=by
  rw[List.findIdx?_eq_some_iff_getElem]
  refine⟨hj,by simp[e],λm hm=>?_⟩
  have hml:m<w.length:=by omega
  have:=hf m hm
  rw[List.getElem?_eq_getElem hml] at this
  simpa using this
 unfold Ob
 rw[this]
theorem Ir {N k:Nat}{F G:Nat->M}{v:M}(hk:k<N)(hv:G k=v)(h:∀j,j<N->j≠k->F j=G j):((List.range N).map F).set k v=(List.range N).map G:=by
 refine List.ext_getElem (by simp) λj h1 h2=>?_
 have hj:j<N:=by simpa using h1
 rw[List.getElem_set]
 by_cases e:k=j
 ·subst e;rw[if_pos rfl];simp[hv]
 ·rw[if_neg e];simp[h j hj (λz=>e z.symm)]
theorem No (w:List M):KR w none (some (-1))=w.take (w.length-1):=by
 unfold KR
 rw[HT.sIx_none]
 have:HT.sIx w.length w.length (some (-1))=w.length-1:=by
  unfold HT.sIx
  simp
  omega
 rw[this];simp
end
theorem ZN {w:List Int}(hl:w.length<=1000):YB w= .ok (QZ w:Int):=by
 unfold YB Ql;dsimp only
 simp only[Rs.okb]
 rw[GI (p:=λx=>decide (x<0)) (h:=λx=>x) (sz (by omega)) (λ_ _=>rfl) λ_ _ _=>rfl,Rs.okb,List.map_id']
 congr 1
 show max ((Yz w:Nat):Int) 1=((max (Yz w) 1:Nat):Int)
 omega
theorem KH {w:List Int}{f:Int}(hl:w.length<=1000):Zn w f= .ok (Z1 w f):=by
 unfold Zn Qm;dsimp only
 simp only[Rs.okb]
 rw[ZN hl,Xo]
 simp only[Rs.okb]
 rw[Xi (sz (by simp)),No]
 simp only[Rs.okb]
 apply Ok.eq
 refine Ok.bind (Ok.forN (λi (g:Int×List Int)=>g=((Yz (w.take i):Int),(List.range (i+1)).map λk=>f+(Yz (w.take k):Int) % (QZ w:Int))) ?_ λi a g ha hg=>?_) λg hg=>?_
 ·simp[Yz]
 ·have hi:=(List.getElem?_eq_some_iff.mp ha).1
  rw[List.length_take] at hi
  have ha':w[i]?=some a:=by
   rw[List.getElem?_take_of_lt (by omega)] at ha
   exact ha
  subst hg
  have hn:=Zp ha'
  have hp:=Fj w
  have af:((List.range (i+1)).map λk=>f+(Yz (w.take k):Int) % (QZ w:Int)).length<sizeLine:=Gg (by simp;omega)
  refine Ok.bind (R:=λu=>u=(Yz (w.take (i+1)):Int)) (Ok.ite (λc=>⟨_,rfl,?_⟩) λc=>⟨_,rfl,?_⟩) λu hu=>?_
  ·rw[hn,UF (of_decide_eq_true c)]
   show(Yz (w.take i):Int)+1=_
   omega
  ·rw[hn,UD (of_decide_eq_false c)]
   show(Yz (w.take i):Int)=_
   omega
  ·subst hu
   rw[Yx (by omega),Rs.okb,Rs.okb,Xi af]
   refine⟨_,rfl,?_⟩
   rw[List.range_succ (n:=i+1),List.map_append];rfl
 ·subst hg
  refine⟨_,rfl,?_⟩
  rw[List.length_take,show min (w.length-1) w.length+1=max w.length 1 by omega]
  rfl
theorem RL {D:QDr}(hd:D.1.length<=1000)(hw:∀w∈D.1,w.length<=1000):Eu D= .ok (XV D.1 0):=by
 unfold Eu IY;dsimp only
 simp only[Rs.okb]
 apply Ok.eq
 refine Ok.bind (Ok.forN (λi (g:Int×QLs)=>g=(XR (D.1.take i),XV (D.1.take i) 0)) rfl λi a g ha hg=>?_) λg hg=>?_
 ·have hi:=(List.getElem?_eq_some_iff.mp ha).1
  subst hg
  have hal:=hw a (List.mem_of_getElem? ha)
  rw[KH hal,Xo,Rs.okb,ZN hal,Xo]
  rw[Xi (Gg (by rw[Yi,List.length_take];omega))]
  simp only[Rs.okb]
  refine⟨_,rfl,?_⟩
  rw[Vd ha,J7 ha,Int.zero_add]
 ·subst hg
  rw[List.take_length]
  exact⟨_,rfl,rfl⟩
theorem Jt {D:QDr}(hd:D.1.length<=1000)(hw:∀w∈D.1,w.length<=1000):ZQ D= .ok (XR D.1):=by
 unfold ZQ JY;dsimp only
 simp only[Rs.okb]
 rw[QN (h:=λw=>(QZ w:Int)) (sz (by omega)) λw h=>by rw[ZN (hw w h),Xo],Rs.okb]
 rfl
theorem MU {D:QDr}{x:Int}{i j:Nat}{w:List Int}(h:Spot D.1 x i j w):ED D x= .ok ((i:Int),(j:Int)):=by
 unfold ED IV;dsimp only
 simp only[Rs.okb]
 rw[Dg (v:=((i:Int),(j:Int))) (Nm h.wi) (λk b hk hb=>?_) ?_]
 ·rw[Rs.okb,Kh]
 ·rw[if_pos (decide_eq_true (List.mem_of_getElem? h.xj)),LM h.xj h.first]
  simp only[Rs.okb]
 ·obtain⟨_,h2⟩:=DM hb
  rw[if_neg]
  rw[decide_eq_true_eq]
  exact h.none k b.2 hk h2
def MG (N:Int)(m:Int×Int×Int×Int×Int):Prop:=(m.2.1=1∨m.2.1= -1)/\(0<=m.2.2.1/\m.2.2.1<N)/\(0<=m.2.2.2.1/\m.2.2.2.1<N)/\(0<=m.2.2.2.2/\m.2.2.2.2<N)
theorem DE {M B ρ:Type}{F:B->M->Rs (Ctl ρ B)}{p:M->Bool}{v:ρ}{g:B}:∀{as:List M},(∀a∈as,F g a= .ok (if p a=true then .ret v else .nx g))->JO as g F= .ok (if as.any p=true then .ret v else .nx g)
 | [],_=>rfl
 |a::as,h=>by
  show(F g a).bind _=_
  rw[h a (by simp),Rs.okb,List.any_cons]
  cases hp:p a with
  |true=>rw[if_pos rfl];rfl
  |false=>
   rw[if_neg Bool.false_ne_true,Bool.false_or]
   exact DE λb hb=>h b (by simp[hb])
def B3 (f:Nat->Nat->Nat)(cn:Int->Nat)(m:Int×Int×Int×Int×Int):Bool:=if m.2.1=1 then decide ((f (cn m.2.2.2.1) (cn m.2.2.1):Int)=cn m.2.2.2.2) else decide ((f (cn m.2.2.2.2) (cn m.2.2.1):Int)=cn m.2.2.2.1)
section
variable {n:Nat}{f:Nat->Nat->Nat}{c:List Int}{cn:Int->Nat}{N:Int}
theorem NQ {ms:List (Int×Int×Int×Int×Int)}(hc:∀k,0<=k->k<N->atR c k= .ok (cn k:Int)/\cn k<n)(hm:∀m∈ms,MG N m):Fu ms (Q2 n f) c= .ok (ms.all (B3 f cn)):=by
 unfold Fu Bz;dsimp only
 simp only[Rs.okb]
 rw[DE (p:=λm=>!(B3 f cn m)) (v:=false) λm h=>?_]
 ·rw[Rs.okb]
  have e:ms.any (λm=>!(B3 f cn m))=!ms.all (B3 f cn):=by
   rw[List.not_all_eq_any_not]
  rw[e]
  cases ms.all (B3 f cn) with
  |true=>rw[show(!true)=false from rfl,if_neg Bool.false_ne_true,Ur]
  |false=>rw[show(!false)=true from rfl,if_pos rfl,Kh]
 ·obtain⟨s,⟨o0,o1⟩,⟨a0,a1⟩,b0,b1⟩:=hm m h
  rw[(hc _ a0 a1).1,(hc _ b0 b1).1]
  simp only[Rs.okb]
  unfold B3
  rcases s with s |s
  ·rw[if_neg (show ¬decide (m.2.1<0)=true by rw[decide_eq_true_eq];omega),if_pos s]
   simp only[Rs.okb]
   rw[Mz (hc _ a0 a1).2]
   simp only[Rs.okb]
   rw[(hc _ o0 o1).1]
   simp only[Rs.okb]
   rw[LV (hc _ o0 o1).2]
   simp only[Rs.okb]
   cases(!decide ((f (cn m.2.2.2.1) (cn m.2.2.1):Int)=cn m.2.2.2.2))<;> rfl
  ·rw[if_pos (decide_eq_true (show m.2.1<0 by omega)),if_neg (show ¬m.2.1=1 by omega)]
   simp only[Rs.okb]
   rw[Mz (hc _ b0 b1).2]
   simp only[Rs.okb]
   rw[(hc _ o0 o1).1]
   simp only[Rs.okb]
   rw[LV (hc _ o0 o1).2]
   simp only[Rs.okb]
   cases(!decide ((f (cn m.2.2.2.2) (cn m.2.2.1):Int)=cn m.2.2.2.1))<;> rfl
def Vq (m:Int×Int×Int×Int×Int):Int×Int×Int:=if m.2.1=1 then(m.2.2.2.1,m.2.2.1,m.2.2.2.2) else(m.2.2.2.2,m.2.2.1,m.2.2.2.1)
theorem RT {D:QDr}{ms:List (Int×Int×Int×Int×Int)}(h:VM D= .ok ms)(hl:ms.length<=1000):ES D= .ok (ms.map Vq):=by
 unfold ES MD;dsimp only
 simp only[Rs.okb]
 rw[h,Xo]
 simp only[Rs.okb]
 rw[Kz (h:=Vq) (sz (by simp;omega)) λg hg e he=>?_]
 ·rw[Rs.okb,List.nil_append]
 ·unfold Vq
  by_cases s:e.2.1=1
  ·rw[if_pos (decide_eq_true s),if_pos s]
   simp only[Rs.okb]
   exact Xi hg
  ·rw[if_neg (by rw[decide_eq_true_eq];exact s),if_neg s]
   simp only[Rs.okb]
   exact Xi hg
theorem BL {ms:List (Int×Int×Int×Int×Int)}(hl:ms.length<=1000)(hc:∀k,0<=k->k<N->atR c k= .ok (cn k:Int)/\cn k<n)(hm:∀m∈ms,MG N m):JH (Q2 n f) c (ms.map Vq)= .ok (ms.all (B3 f cn)):=by
 unfold JH V4;dsimp only
 simp only[Rs.okb]
 rw[QN (h:=λt:Int×Int×Int=>decide ((f (cn t.1) (cn t.2.1):Int)=cn t.2.2)) (sz (by simp;omega)) λt ht=>?_]
 ·rw[Rs.okb,List.map_map]
  congr 1
  rw[List.all_map]
  refine congrArg (λF=>ms.all F) (funext λm=>?_)
  show decide _=B3 f cn m
  unfold B3 Vq
  by_cases s:m.2.1=1
  ·simp only[if_pos s]
  ·simp only[if_neg s]
 ·obtain⟨m,h,rfl⟩:=List.mem_map.mp ht
  obtain⟨s,⟨o0,o1⟩,⟨a0,a1⟩,b0,b1⟩:=hm m h
  have key:∀x y z:Int,0<=x->x<N->0<=y->y<N->0<=z->z<N->((((atR c x).bind λx9=>atR (Q2 n f) x9).bind λbQ=>(atR c y).bind λaC=>atR bQ aC).bind λba=>(atR c z).bind λdm=>(Rs.ok (decide (ba=dm)):Rs Bool))= .ok (decide ((f (cn x) (cn y):Int)=cn z)):=λx y z x0 x1 y0 y1 z0 z1=>by
   rw[(hc x x0 x1).1,(hc y y0 y1).1,(hc z z0 z1).1]
   simp only[Rs.okb]
   rw[Mz (hc x x0 x1).2]
   simp only[Rs.okb]
   rw[LV (hc y y0 y1).2]
   simp only[Rs.okb]
  unfold Vq
  by_cases s:m.2.1=1
  ·rw[if_pos s];exact key _ _ _ a0 a1 o0 o1 b0 b1
  ·rw[if_neg s];exact key _ _ _ b0 b1 o0 o1 a0 a1
end
theorem Ri {c:List Int}{n:Nat}{N:Int}(hN:(c.length:Int)=N)(hc:∀x∈c,0<=x/\x<(n:Int)):∀k,0<=k->k<N->atR c k= .ok (((c.getD k.toNat 0).toNat:Nat):Int)/\(c.getD k.toNat 0).toNat<n:=λk k0 k1=>by
 have hk:k.toNat<c.length:=by omega
 have hx:=hc c[k.toNat] (List.getElem_mem hk)
 have e:c.getD k.toNat 0=c[k.toNat]:=by simp[hk]
 rw[e]
 refine⟨?_,by omega⟩
 rw[Yq (n:=k.toNat) (by omega) hk]
 congr 1
 omega
theorem WY (o a b:Int):Q8 [o,a,b]=max (max o a) b:=rfl
theorem GY {n i j:Nat}(hn:0<n)(h:i<=j):n^i<=n^j:=Nat.pow_le_pow_right hn h
theorem Rr {c:List Int}{n k:Nat}(hl:c.length=k)(hc:∀x∈c,0<=x/\x<(n:Int)):∀j,0<=j->j<(k:Int)->atR c j= .ok (((c.getD j.toNat 0).toNat:Nat):Int)/\(c.getD j.toNat 0).toNat<n:=Ri (by omega) hc
theorem RC (a b:Bool):Pe (.ok a) (.ok b)= .ok (a&&b):=HF λ_=>rfl
theorem qO (f:Int)(n:Nat):(List.replicate n [f]).flatten=(List.range n).map λ_=>f:=by
 induction n with
 |zero=>rfl
 |succ n ih=>rw[List.replicate_succ,List.flatten_cons,ih,List.range_succ_eq_map,List.map_cons,List.map_map];rfl
theorem F6 {ws:QLs}(hd:ws.length<=1000)(hw:∀w∈ws,w.length<=1000):Vx ws= .ok (XV ws 0):=by
 unfold Vx GA;dsimp only
 simp only[Rs.okb]
 apply Ok.eq
 refine Ok.bind (Ok.forN (λi (g:Int×QLs)=>g=(XR (ws.take i),XV (ws.take i) 0)) rfl λi w g ha hg=>?_) λg hg=>?_
 ·have hi:=(List.getElem?_eq_some_iff.mp ha).1
  subst hg
  have hal:=hw w (List.mem_of_getElem? ha)
  generalize hf:XR (ws.take i)=f
  rw[Y5 (by omega),Rs.okb]
  refine Ok.bind (Ok.forN (λk (l:Int)=>LastIs w k l) (LastIs.zero w) λk b l hb hl=>?_) λak cv=>?_
  ·obtain⟨rfl,hk⟩:=X8 hb
   have gY:w[k]?=some w[k]:=by simp[hk]
   rw[Yp gY]
   simp only[Rs.okb]
   by_cases c:w[k]<0
   ·rw[if_pos (decide_eq_true c),Rs.okb]
    exact⟨_,rfl,LastIs.neg gY c⟩
   ·rw[if_neg (by rw[decide_eq_true_eq];exact c),Rs.okb]
    exact⟨_,rfl,hl.pos gY c⟩
  rw[X1] at cv
  rw[Xi (sz (by simp))]
  simp only[Rs.okb]
  rw[show max (w.length:Int) 1=((max w.length 1:Nat):Int) by omega]
  rw[show Iv [f] ((max w.length 1:Nat):Int)= .ok ((List.range (max w.length 1)).map λ_=>f) from by
   unfold Iv
   rw[Xi ⟨by omega,by omega,sz (by simp;omega)⟩,Int.toNat_natCast,qO]]
  simp only[Rs.okb]
  have hlb: -1<=ak/\ak<(w.length:Int):=⟨cv.lo,cv.hi⟩
  rw[show ak+1=(((ak+1).toNat:Nat):Int) by omega,Y5 (by omega),Rs.okb]
  refine Ok.bind (Ok.forN (λk (h:List Int×Int×Int)=>h.1=((List.range (max w.length 1)).map λj=>if j<k then f+(Yz (w.take j):Int) else f)/\h.2.1=f+(Yz (w.take (min k ak.toNat)):Int)/\h.2.2=f+(Yz (w.take (min k ak.toNat)):Int)) ⟨by simp,by simp[Yz],by simp[Yz]⟩ λk b h hb hh=>?_) λh hh=>?_
  ·obtain⟨rfl,hk⟩:=X8 hb
   obtain⟨h1,h2,h3⟩:=hh
   have gT:k<w.length:=by omega
   have gY:w[k]?=some w[k]:=by simp[gT]
   rw[Nat.min_eq_left (by omega)] at h2 h3
   rw[h1,Zz (by simp;omega),Rs.okb,Yp gY]
   simp only[Rs.okb,RC]
   have hset:(((List.range (max w.length 1)).map λj=>if j<k then f+(Yz (w.take j):Int) else f).set k h.2.2)=(List.range (max w.length 1)).map λj=>if j<k+1 then f+(Yz (w.take j):Int) else f:=Ir (by omega) (by rw[if_pos (by omega),h3]) λj hj aL=>by
    by_cases c:j<k
    ·rw[if_pos c,if_pos (by omega)]
    ·rw[if_neg c,if_neg (by omega)]
   rw[hset]
   have hn:=Zp gY
   by_cases c:w[k]<0/\(k:Int)<ak
   ·rw[if_pos (by rw[Bool.and_eq_true,decide_eq_true_eq,decide_eq_true_eq];exact c),Rs.okb]
    rw[UF c.1] at hn
    refine⟨_,rfl,rfl,?_,?_⟩
    ·show h.2.1+1=_
     rw[Nat.min_eq_left (by omega),hn,h2];omega
    ·show h.2.1+1=_
     rw[Nat.min_eq_left (by omega),hn,h2];omega
   ·rw[if_neg (by rw[Bool.and_eq_true,decide_eq_true_eq,decide_eq_true_eq];exact c),Rs.okb]
    have gj:Yz (w.take (min (k+1) ak.toNat))=Yz (w.take k):=by
     by_cases c2:(k:Int)<ak
     ·have c3:¬w[k]<0:=λz=>c ⟨z,c2⟩
      rw[UD c3] at hn
      rw[Nat.min_eq_left (by omega),hn,Nat.add_zero]
     ·rw[Nat.min_eq_right (by omega),show ak.toNat=k by omega]
    refine⟨_,rfl,rfl,?_,?_⟩
    ·show h.2.1=_
     rw[gj,h2]
    ·show h.2.2=_
     rw[gj,h3]
  ·rw[X1] at hh
   obtain⟨h1,h2,_⟩:=hh
   rw[Xi (Gg (by rw[Yi,List.length_take];omega))]
   have hce:=L8 cv
   rw[Nat.min_eq_right (by omega)] at h2
   refine⟨_,rfl,?_⟩
   rw[Vd ha,J7 ha,Int.zero_add,hf,h1,h2]
   have e1:f+(Yz (w.take ak.toNat):Int)+1=f+(QZ w:Int):=by omega
   have e2:((List.range (max w.length 1)).map λj=>if j<(ak+1).toNat then f+(Yz (w.take j):Int) else f)=Z1 w f:=by
    unfold Z1
    refine List.map_congr_left λj _=>?_
    by_cases c:j<(ak+1).toNat
    ·rw[if_pos c,Mf cv (by omega)]
    ·rw[if_neg c,Nz cv (by omega)]
   rw[e1,e2]
 ·subst hg
  rw[List.take_length]
  exact⟨_,rfl,rfl⟩
def tz (w r:List Int):QPs:=(List.range w.length).map λk=>(w.getD k 0,r.getD k 0)
def bz (w r:List Int):QPs:=(List.range w.length).map λk=>(w.getD k 0,r.getD ((k+1) % w.length) 0)
theorem Re (w:List Int)(g:Nat->Int):kys ((List.range w.length).map λk=>(w.getD k 0,g k))=w:=by
 unfold kys
 rw[List.map_map]
 refine List.ext_getElem (by simp) λi h1 h2=>?_
 simp[h2]
theorem WL {g:Nat->Int×Int}{n k:Nat}(h:k<n):((List.range n).map g).take (k+1)=((List.range n).map g).take k++[g k]:=by
 rw[List.take_add_one,List.getElem?_map,List.getElem?_range h];rfl
theorem Bl (a b:QPs):kys (a++b)=kys a++kys b:=List.map_append
theorem NH (a:QPs)(k:Nat):kys (a.take k)=(kys a).take k:=List.map_take
theorem Wz {T:QPs}{w:List Int}{g:Nat->Int}{k:Nat}(hk:k<w.length)(h:(kys T++w).Nodup):UM (T++((List.range w.length).map λk=>(w.getD k 0,g k)).take k) (w.getD k 0) (g k)=T++((List.range w.length).map λk=>(w.getD k 0,g k)).take (k+1):=by
 rw[WL hk, ←List.append_assoc]
 refine GH λz=>?_
 rw[Bl,NH,Re] at z
 obtain⟨_,h2,h3⟩:=List.nodup_append.mp h
 have hw:w.getD k 0∈w:=by simp[hk]
 rcases List.mem_append.mp z with z |z
 ·exact h3 _ z _ hw rfl
 ·obtain⟨j,hj,e⟩:=List.getElem_of_mem z
  rw[List.length_take] at hj
  rw[List.getElem_take] at e
  have:j=k:=(List.getElem_inj (h₀:=by omega) (h₁:=hk) h2).mp (by rw[e];simp[hk])
  omega
theorem WJ {i:Nat}{ws:QLs}{w:List Int}(h:ws.flatten.Nodup)(hw:ws[i]?=some w):((ws.take i).flatten++w).Nodup:=by
 have e:ws=ws.take (i+1)++ws.drop (i+1):=(List.take_append_drop ..).symm
 rw[e,List.flatten_append,List.nodup_append,List.take_add_one,hw,List.flatten_append] at h
 have:=h.1
 simpa using this
theorem EV {D:QDr}(few:D.1.length<=100)(short:∀w∈D.1,w.length<=100)(nd:D.1.flatten.Nodup)(hl:D.2.length<=1000){v:Int×Int->Int×Int×Int×Int×Int}(hv:∀e∈D.2,∃(i j k l:Nat) (w w' r r':List Int),Spot D.1 e.1 i j w/\Spot D.1 (-e.1) k l w'/\(XV D.1 0)[i]?=some r/\r[j]?=some (v e).2.2.1/\(XV D.1 0)[k]?=some r'/\r'.length=w'.length/\0<w'.length/\r'[l]?=some (v e).2.2.2.1/\r'[(l+1) % w'.length]?=some (v e).2.2.2.2/\(v e).1=e.1/\(v e).2.1=e.2):Qy D= .ok (D.2.map v):=by
 have kh:=Yi D.1 0
 have aU:∀(i:Nat) (w r:List Int),D.1[i]?=some w->(XV D.1 0)[i]?=some r->w.length<=r.length:=λi w r h1 h2=>by
  rw[VN h1] at h2
  cases h2
  rw[ZF];omega
 unfold Qy UT;dsimp only
 simp only[Rs.okb]
 rw[F6 (by omega) (λw hw=>by have:=short w hw;omega),Xo,Rs.okb,Rs.okb]
 generalize XV D.1 0=R at hv kh aU
 have hz:∀{i:Nat}{x:List Int×List Int},(D.1.zip R)[i]?=some x->D.1[i]?=some x.1/\R[i]?=some x.2:=λh=>List.getElem?_zip_eq_some.mp h
 have htot:∀i,(D.1.take i).flatten.length<=10000:=λi=>by
  have:∀l:QLs,(∀w∈l,w.length<=100)->l.flatten.length<=100*l.length:=λl=>by
   induction l with
   |nil=>intro _;exact Nat.le_refl _
   |cons w l ih=>
    intro h
    have h1:=h w List.mem_cons_self
    have h2:=ih λx hx=>h x (.tail _ hx)
    rw[List.flatten_cons,List.length_append,List.length_cons]
    omega
  have h1:=this (D.1.take i) λw hw=>short w (List.mem_of_mem_take hw)
  have h2:(D.1.take i).length<=D.1.length:=by rw[List.length_take];omega
  omega
 refine Ok.eq (Ok.bind (Ok.forN (λi (g:QPs×QPs)=>(kys g.1=(D.1.take i).flatten/\kys g.2=(D.1.take i).flatten)/\∀(i':Nat) (w r:List Int),i'<i->D.1[i']?=some w->R[i']?=some r->∀j,j<w.length->(w.getD j 0,r.getD j 0)∈g.1/\(w.getD j 0,r.getD ((j+1) % w.length) 0)∈g.2) ⟨⟨rfl,rfl⟩,λi' w r h=>by omega⟩ λi x g hx hg=>?_) λg hg=>?_)
 ·obtain⟨hw,hr⟩:=hz hx
  obtain⟨⟨k1,k2⟩,hg⟩:=hg
  have hl1:=short x.1 (List.mem_of_getElem? hw)
  have fr:=aU i _ _ hw hr
  have cK:=WJ nd hw
  have ht:=htot i
  have n1:g.1.length<=10000:=by have:=congrArg List.length k1;unfold kys at this;rw[List.length_map] at this;omega
  have n2:g.2.length<=10000:=by have:=congrArg List.length k2;unfold kys at this;rw[List.length_map] at this;omega
  rw[Y5 (by omega),Rs.okb]
  refine Ok.bind (Ok.forN (λk (h:QPs×QPs)=>h=(g.1++(tz x.1 x.2).take k,g.2++(bz x.1 x.2).take k)) (by simp) λk a h ha hh=>?_) λh hh=>?_
  ·obtain⟨rfl,hk⟩:=X8 ha
   subst hh
   have hm:(k+1) % x.1.length<x.1.length:=Nat.mod_lt _ (by omega)
   have z1:x.2[k]?=some (x.2.getD k 0):=by simp[show k<x.2.length by omega]
   have z2:x.1[k]?=some (x.1.getD k 0):=by simp[hk]
   have z3:x.2[(k+1) % x.1.length]?=some (x.2.getD ((k+1) % x.1.length) 0):=by simp[show(k+1) % x.1.length<x.2.length by omega]
   have hmm:((k:Int)+1) % (x.1.length:Int)=(((k+1) % x.1.length:Nat):Int):=by rw[Int.natCast_emod];rfl
   simp only[Rs.okb]
   rw[Yp z1,Yp z2]
   simp only[Rs.okb]
   rw[Xi (Gg (by rw[List.length_append,List.length_take];omega)),Yx (by omega),Rs.okb,hmm,Yp z3,Rs.okb,Xi (Gg (by rw[List.length_append,List.length_take];omega))]
   refine⟨_,rfl,?_⟩
   unfold tz bz
   rw[Wz (g:=λk=>x.2.getD k 0) hk (by rw[k1];exact cK),Wz (g:=λk=>x.2.getD ((k+1) % x.1.length) 0) hk (by rw[k2];exact cK)]
  ·rw[X1] at hh
   have e1:(tz x.1 x.2).take x.1.length=tz x.1 x.2:=List.take_of_length_le (by simp[tz])
   have e2:(bz x.1 x.2).take x.1.length=bz x.1 x.2:=List.take_of_length_le (by simp[bz])
   rw[e1,e2] at hh
   subst hh
   refine⟨_,rfl,⟨?_,?_⟩,λi' w r hi h1 h2 j hj=>?_⟩
   ·show kys (g.1++tz x.1 x.2)=_
    rw[Bl,k1,List.take_add_one,hw,List.flatten_append,show kys (tz x.1 x.2)=x.1 from Re _ _];simp
   ·show kys (g.2++bz x.1 x.2)=_
    rw[Bl,k2,List.take_add_one,hw,List.flatten_append,show kys (bz x.1 x.2)=x.1 from Re _ _];simp
   ·by_cases c:i'<i
    ·have:=hg i' w r c h1 h2 j hj
     exact⟨List.mem_append_left _ this.1,List.mem_append_left _ this.2⟩
    ·have:i'=i:=by omega
     subst this
     rw[hw] at h1;cases h1
     rw[hr] at h2;cases h2
     exact⟨List.mem_append_right _ (List.mem_map.mpr ⟨j,List.mem_range.mpr hj,rfl⟩),List.mem_append_right _ (List.mem_map.mpr ⟨j,List.mem_range.mpr hj,rfl⟩)⟩
 ·obtain⟨⟨k1,k2⟩,hg⟩:=hg
  have af:(D.1.zip R).length=D.1.length:=by rw[List.length_zip];omega
  rw[af,List.take_length] at k1 k2
  rw[af] at hg
  have g1:∀{x y:Int},(x,y)∈g.1->Fs g.1 x= .ok y:=λh=>by unfold Fs;rw[Iz (e:=(_,_)) (by rw[k1];exact nd) h];rfl
  have g2:∀{x y:Int},(x,y)∈g.2->Fs g.2 x= .ok y:=λh=>by unfold Fs;rw[Iz (e:=(_,_)) (by rw[k2];exact nd) h];rfl
  have gd:∀{l:List Int}{k:Nat}{x:Int},l[k]?=some x->l.getD k 0=x:=λh=>by rw[List.getD_eq_getElem?_getD,h];rfl
  refine⟨D.2.map v,QN (h:=v) (sz (by omega)) λe he=>?_,rfl⟩
  obtain⟨i,j,k,l,w,w',r,r',s1,s2,h1,h2,h3,h4,h5,h6,h7,h8,h9⟩:=hv e he
  have q1:=(hg i w r (List.getElem?_eq_some_iff.mp s1.wi).1 s1.wi h1 j (List.getElem?_eq_some_iff.mp s1.xj).1).1
  have q2:=hg k w' r' (List.getElem?_eq_some_iff.mp s2.wi).1 s2.wi h3 l (List.getElem?_eq_some_iff.mp s2.xj).1
  rw[gd s1.xj,gd h2] at q1
  rw[gd s2.xj,gd h6,gd h7] at q2
  rw[g1 q1,g1 q2.1,g2 q2.2]
  simp only[Rs.okb]
  rw[←h8, ←h9]
theorem Bp:∀{ws:QLs}{x:Int},x∈ws.flatten->∃i j w,Spot ws x i j w
 | [],x,h=>by simp at h
 |w::ws,x,h=>by
  by_cases c:x∈w
  ·obtain⟨j,h1,h2⟩:=Et c
   exact⟨0,j,w,rfl,h1,h2,λi' w' hi _=>by omega⟩
  ·have hx:x∈ws.flatten:=by
    rw[List.flatten_cons,List.mem_append] at h
    exact h.resolve_left c
   obtain⟨i,j,v,s⟩:=Bp hx
   refine⟨i+1,j,v,by simpa using s.wi,s.xj,s.first,λi' w' hi hw=>?_⟩
   cases i' with
   |zero=>
    have:w=w':=by simpa using hw
    exact this▸c
   |succ i'=>exact s.none i' w' (by omega) (by simpa using hw)
theorem Vn (ws:QLs):0<=XR ws:=by
 induction ws with
 |nil=>exact Int.le_refl _
 |cons w ws ih=>rw[QT];omega
theorem Hy {ws:QLs}{i j:Nat}{w r:List Int}{o:Int}(hw:ws[i]?=some w)(hr:(XV ws 0)[i]?=some r)(ho:r[j]?=some o):0<=o/\o<XR ws:=by
 rw[VN hw] at hr
 cases hr
 have hj:=(List.getElem?_eq_some_iff.mp ho).1
 rw[ZF] at hj
 rw[Gd w _ hj] at ho
 have cI:=Option.some.inj ho
 have hp:=Fj w
 have m0:=Int.emod_nonneg (Yz (w.take j):Int) (show(QZ w:Int)≠0 by omega)
 have m1:=Int.emod_lt_of_pos (Yz (w.take j):Int) (show(0:Int)<(QZ w:Int) by omega)
 have t0:=Vn (ws.take i)
 have t1:XR ws=XR (ws.take (i+1))+XR (ws.drop (i+1)):=by rw[←Gc,List.take_append_drop]
 have t2:=Vn (ws.drop (i+1))
 rw[J7 hw] at t1
 omega
structure DG (D:QDr):Prop where
 few:D.1.length<=1000
 short:∀w∈D.1,w.length<=1000
 le:D.2.length<=1000
 mem:∀e∈D.2,e.1∈D.1.flatten/\ -e.1∈D.1.flatten
 sg:∀e∈D.2,e.2=1∨e.2= -1
 count:XR D.1=(D.2.length:Int)+(BO D.1:Int)
theorem Hf {D:QDr}(h:DG D)(few:D.1.length<=100)(short:∀w∈D.1,w.length<=100)(nd:D.1.flatten.Nodup):∃ms,VM D= .ok ms/\Qy D= .ok ms/\ms.length=D.2.length/\∀m∈ms,MG (XR D.1) m:=by
 have key:∀e:Int×Int,∃v:Int×Int×Int×Int×Int,e∈D.2->∃(i j k l:Nat) (w w' r r':List Int),Spot D.1 e.1 i j w/\Spot D.1 (-e.1) k l w'/\(XV D.1 0)[i]?=some r/\r[j]?=some v.2.2.1/\(XV D.1 0)[k]?=some r'/\r'.length=w'.length/\0<w'.length/\r'[l]?=some v.2.2.2.1/\r'[(l+1) % w'.length]?=some v.2.2.2.2/\v.1=e.1/\v.2.1=e.2:=λe=>by
  by_cases he:e∈D.2
  ·obtain⟨i,j,w,s1⟩:=Bp (h.mem e he).1
   obtain⟨k,l,w',s2⟩:=Bp (h.mem e he).2
   obtain⟨r,hr,kh,hj⟩:=s1.row
   obtain⟨r',hr',ki,hl⟩:=s2.row
   have hm:(l+1) % w'.length<r'.length:=by rw[ki];exact Nat.mod_lt _ (by omega)
   exact⟨(e.1,e.2,r[j],r'[l],r'[(l+1) % w'.length]),λ_=>⟨i,j,k,l,w,w',r,r',s1,s2,hr,by simp,hr',ki,by omega,by simp,by simp,rfl,rfl⟩⟩
  ·exact⟨(0,0,0,0,0),λz=>absurd z he⟩
 obtain⟨v,hv⟩:=Classical.axiomOfChoice key
 refine⟨D.2.map v,?_,EV few short nd h.le λe he=>hv e he,by simp,λm hm=>?_⟩
 ·unfold VM BI;dsimp only
  simp only[Rs.okb]
  rw[RL h.few h.short,Xo]
  simp only[Rs.okb]
  rw[Kz (h:=v) (sz (by have:=h.le;simp;omega)) λg hg e he=>?_]
  ·rw[Rs.okb,List.nil_append]
  ·obtain⟨i,j,k,l,w,w',r,r',s1,s2,h1,h2,h3,h4,h5,h6,h7,h8,h9⟩:=hv e he
   have hm:((l:Int)+1) % (r'.length:Int)=(((l+1) % w'.length:Nat):Int):=by rw[h4,Int.natCast_emod];rfl
   rw[MU s1,MU s2,Xo,Xo]
   simp only[Rs.okb]
   rw[Yp h1,Yp h3]
   simp only[Rs.okb]
   rw[Yp h2,Yp h6]
   simp only[Rs.okb]
   rw[Yx (by omega),hm]
   simp only[Rs.okb]
   rw[Yp h7]
   simp only[Rs.okb]
   rw[Xi hg]
   congr 2
   rw[←h8, ←h9]
 ·obtain⟨e,he,rfl⟩:=List.mem_map.mp hm
  obtain⟨i,j,k,l,w,w',r,r',s1,s2,h1,h2,h3,h4,h5,h6,h7,h8,h9⟩:=hv e he
  exact⟨by rw[h9];exact h.sg e he,Hy s1.wi h1 h2,Hy s2.wi h3 h6,Hy s2.wi h3 h7⟩
theorem Vk {M L:Type}{F:List L->M->Rs (List L)}{p:M->Bool}{h:M->L}:∀{as:List M}{g:List L},g.length+as.length<=100000->(∀(g:List L) a,a∈as->g.length<100000->F g a= .ok (if p a=true then g++[h a] else g))->forN as g F= .ok (g++(as.filter p).map h)
 | [],g,_,_=>by rw[List.filter_nil,List.map_nil,List.append_nil];rfl
 |a::as,g,hl,hf=>by
  show(F g a).bind _=_
  rw[List.length_cons] at hl
  rw[hf g a List.mem_cons_self (by omega),Rs.okb]
  cases hp:p a with
  |true=>
   rw[if_pos rfl,List.filter_cons_of_pos hp,List.map_cons]
   refine(Vk (by simp;omega) λg b hb=>hf g b (List.mem_cons_of_mem _ hb)).trans ?_
   rw[List.append_assoc];rfl
  |false=>
   rw[if_neg Bool.false_ne_true,List.filter_cons_of_neg (by rw[hp];exact Bool.false_ne_true)]
   exact Vk (by omega) λg b hb=>hf g b (List.mem_cons_of_mem _ hb)
abbrev M5:=Int×Int×Int×Int×Int
def NK (c:List Int)(i:Int):Nat:=(c.getD i.toNat 0).toNat
def Ht (n:Nat)(f:Nat->Nat->Nat)(ms:List M5)(c:List Int):QLs:=((((List.range n).map λ(i:Nat)=>(i:Int))).filter λj=>ms.all (B3 f (NK (c++[j])))).map λj=>c++[j]
def CY (n:Nat)(f:Nat->Nat->Nat)(ms:List M5)(T:QLs):QLs:=T.flatMap (Ht n f ms)
def DX (k:Nat)(m:M5):Bool:=decide (Q8 [m.2.2.1,m.2.2.2.1,m.2.2.2.2]=(k:Int))
def TT (n:Nat)(f:Nat->Nat->Nat)(ms:List M5):Nat->QLs
 |0=>[[]]
 |k+1=>CY n f (ms.filter (DX k)) (TT n f ms k)
def WV (n k:Nat)(T:QLs):Prop:=T.length<=n^k/\∀c∈T,c.length=k/\∀x∈c,0<=x/\x<(n:Int)
section
variable {n:Nat}{f:Nat->Nat->Nat}{ms:List M5}
theorem BV (c:List Int):(Ht n f ms c).length<=n:=by
 unfold Ht
 rw[List.length_map]
 exact Nat.le_trans (List.length_filter_le ..) (by simp)
theorem Em:∀T:QLs,(CY n f ms T).length<=T.length*n
 | []=>by simp[CY]
 |c::T=>by
  have h:=Em T
  have h2:=BV (n:=n) (f:=f) (ms:=ms) c
  unfold CY at h⊢
  rw[List.flatMap_cons,List.length_append,List.length_cons,Nat.succ_mul]
  omega
theorem MQ {k:Nat}{T:QLs}(h:WV n k T):WV n (k+1) (CY n f ms T):=by
 refine⟨Nat.le_trans (Em T) (by rw[Nat.pow_succ];exact Nat.mul_le_mul_right n h.1),λd hd=>?_⟩
 obtain⟨c,hc,hd⟩:=List.mem_flatMap.mp hd
 unfold Ht at hd
 obtain⟨j,hj,rfl⟩:=List.mem_map.mp hd
 obtain⟨i,hi,rfl⟩:=UN (List.mem_filter.mp hj).1
 obtain⟨h1,h2⟩:=h.2 c hc
 refine⟨by simp[h1],λx hx=>?_⟩
 rcases List.mem_append.mp hx with z |z
 ·exact h2 x z
 ·rw[List.mem_singleton] at z;omega
theorem Cr:∀k,WV n k (TT n f ms k)
 |0=>⟨by simp[TT],λc hc=>by
  have:c=[]:=by simpa[TT] using hc
  subst this
  exact⟨rfl,λx hx=>by cases hx⟩⟩
 |k+1=>MQ (Cr k)
theorem outer {F:QLs->List Int->Rs QLs}{T:QLs}(hT:T.length*n<=90000)(hF:∀(g:QLs) c,c∈T->g.length+n<=90000->F g c= .ok (g++Ht n f ms c)):forN T [] F= .ok (CY n f ms T):=by
 obtain⟨r,e,h⟩:=Fw (f:=F) (λi (g:QLs)=>g=(T.take i).flatMap (Ht n f ms)/\g.length<=i*n) (as:=T) (g:=[]) ⟨by simp,by simp⟩ λi c g hc hg=>by
  have hi:=(List.getElem?_eq_some_iff.mp hc).1
  obtain⟨h1,h2⟩:=hg
  have h3:(i+1)*n<=T.length*n:=Nat.mul_le_mul_right n (by omega)
  rw[Nat.succ_mul] at h3
  refine⟨_,hF g c (List.mem_of_getElem? hc) (by omega),?_,?_⟩
  ·rw[List.take_add_one,hc,List.flatMap_append, ←h1]
   simp
  ·rw[List.length_append,Nat.succ_mul]
   have:=BV (n:=n) (f:=f) (ms:=ms) c
   omega
 rw[e,h.1,List.take_length]
 rfl
theorem OC {N:Int}(hm:∀m∈ms,MG N m)(k:Nat):∀m∈ms.filter (DX k),MG ((k+1:Nat):Int) m:=λm h=>by
 obtain⟨h1,h2⟩:=List.mem_filter.mp h
 unfold DX at h2
 rw[decide_eq_true_eq,WY] at h2
 obtain⟨s,o,a,b⟩:=hm m h1
 exact⟨s,⟨o.1,by omega⟩,⟨a.1,by omega⟩,b.1,by omega⟩
theorem Wb {c:List Int}{k:Nat}(h1:c.length=k)(h2:∀x∈c,0<=x/\x<(n:Int)){j:Nat}(hj:j<n):∀i,0<=i->i<((k+1:Nat):Int)->atR (c++[(j:Int)]) i= .ok (NK (c++[(j:Int)]) i:Int)/\NK (c++[(j:Int)]) i<n:=
 Rr (k:=k+1) (by simp[h1]) λx hx=>by
  rcases List.mem_append.mp hx with z |z
  ·exact h2 x z
  ·rw[List.mem_singleton] at z;omega
theorem A4 {c:List Int}{j:Int}(h:c.length<=1000):((chk ([j].length<=sizeLine) (Rs.ok [j])).bind λx=>NC c x)= .ok (c++[j]):=by
 rw[Xi (sz (by simp)),Rs.okb]
 exact Xi (sz (by simp;omega))
theorem Mj {N:Int}{k:Nat}{T:QLs}(hk:k<=900)(hl:ms.length<=1000)(hm:∀m∈ms,MG N m)(hT:WV n k T)(hb:T.length*n<=90000)(hn:n<=1000):Za T (Q2 n f) ((ms.filter (DX k)).map Vq)= .ok (CY n f (ms.filter (DX k)) T):=by
 unfold Za ZV;dsimp only
 simp only[Rs.okb,Zs]
 rw[outer (n:=n) (f:=f) (ms:=ms.filter (DX k)) hb,Rs.okb]
 intro g c hc hg
 obtain⟨h1,h2⟩:=hT.2 c hc
 rw[Y5 (by omega),Rs.okb,Vk (p:=λj=>(ms.filter (DX k)).all (B3 f (NK (c++[j])))) (h:=λj=>c++[j]) (by simp;omega),Rs.okb]
 ·rfl
 intro g' a ha gc
 obtain⟨j,hj,rfl⟩:=UN ha
 rw[A4 (by omega),Rs.okb,BL (cn:=NK (c++[(j:Int)])) (Nat.le_trans (List.length_filter_le ..) hl) (Wb h1 h2 hj) (OC hm k),Xo,Rs.okb]
 cases(ms.filter (DX k)).all (B3 f (NK (c++[(j:Int)]))) with
 |true=>rw[if_pos rfl,Xi (Gg (by omega))];rfl
 |false=>rw[if_neg Bool.false_ne_true];rfl
theorem R3 (k:Nat):(ms.map Vq).filter (λt=>decide (Q8 [t.1,t.2.1,t.2.2]=(k:Int)))=(ms.filter (DX k)).map Vq:=by
 induction ms with
 |nil=>rfl
 |cons m t ih=>
  have e:decide (Q8 [(Vq m).1,(Vq m).2.1,(Vq m).2.2]=(k:Int))=DX k m:=by
   unfold Vq DX
   rw[WY]
   by_cases s:m.2.1=1
   ·rw[if_pos s,WY]
    congr 1
    rw[Int.max_comm m.2.2.2.1 m.2.2.1]
   ·rw[if_neg s,WY]
    congr 1
    rw[Int.max_comm m.2.2.2.2 m.2.2.1,Int.max_assoc,Int.max_comm m.2.2.2.2, ←Int.max_assoc]
  rw[List.map_cons,List.filter_cons,List.filter_cons,e,ih]
  cases DX k m<;> rfl
end
theorem Nj (ws:QLs):BO ws<=ws.length:=by
 unfold BO
 exact List.length_filter_le ..
theorem Dr.dg {n:Nat}{ws:QLs}{sg:QPs}(d:Dr n ws sg):DG (ws,sg) where
 few:=by have:=d.lw;show ws.length<=_;omega
 short:=λw hw=>by have:=d.ll w hw;have:=d.ls;have:=d.n4;omega
 le:=by have:=d.ls;have:=d.n4;show sg.length<=_;omega
 mem:=λe he=>⟨d.pe.mem_iff.mpr (List.mem_flatMap.mpr ⟨e.1,List.mem_map_of_mem he,by simp⟩),d.pe.mem_iff.mpr (List.mem_flatMap.mpr ⟨e.1,List.mem_map_of_mem he,by simp⟩)⟩
 sg:=d.sn
 count:=by
  rw[Uf,IQ d.pe,show Yz (pm (kys sg))=_ from LR d.k1]
  unfold kys
  rw[List.length_map]
theorem Pb:∀{xs:List Int},xs.Nodup->(∀y∈xs,1<=y)->(pm xs).Nodup
 | [],_,_=>List.nodup_nil
 |x::xs,h,h1=>by
  obtain⟨h2,h3⟩:=List.nodup_cons.mp h
  have hx:=h1 x List.mem_cons_self
  have h4:∀y∈xs,1<=y:=λy hy=>h1 y (.tail _ hy)
  have hn:∀y∈pm xs,(y.natAbs:Int)≠x:=λy hy e=>h2 (e▸OF hy h4)
  show(x:: -x::pm xs).Nodup
  rw[List.nodup_cons,List.nodup_cons,List.mem_cons]
  exact⟨λz=>z.elim (λz=>by omega) λz=>hn x z (by omega),λz=>hn (-x) z (by omega),Pb h3 h4⟩
structure Dw (D:QDr)(K:Nat):Prop where
 dg:DG D
 arcs:XR D.1=(K:Int)
 le:K<=40
structure Dk (D:QDr)(K:Nat):Prop where
 dw:Dw D K
 few:D.1.length<=100
 short:∀w∈D.1,w.length<=100
 nd:D.1.flatten.Nodup
theorem Dr.dk {n:Nat}{D:QDr}(d:Dr n D.1 D.2):∃K,Dk D K:=by
 have h:=d.dg
 have h4:=d.n4
 have h5:=d.ls
 have h6:=d.lw
 have h7:=h.count
 have h8:BO D.1<=D.1.length:=Nj D.1
 have h9:0<=XR D.1:=Vn D.1
 have h7:XR D.1=(D.2.length:Int)+(BO D.1:Int):=h7
 exact⟨(XR D.1).toNat,⟨h,by omega,by omega⟩,by omega,λw hw=>by have:=d.ll w hw;omega,d.pe.nodup_iff.mpr (Pb d.gs.kn d.k1)⟩
theorem La:∀{l:List Int}{a:Int},a∈l->(∀x∈l,x<=a)->Q8 l=a:=by
 intro l
 have key:∀(l:List Int) (b:Int),(∀x∈l,x<=Q8 (b::l))/\b<=Q8 (b::l)/\Q8 (b::l)∈b::l:=by
  intro l
  induction l with
  |nil=>intro b;exact⟨λx hx=>(nomatch hx),Int.le_refl _,List.mem_cons_self⟩
  |cons c l ih=>
   intro b
   obtain⟨h1,h2,h3⟩:=ih (max b c)
   have e:Q8 (b::c::l)=Q8 (max b c::l):=rfl
   rw[e]
   refine⟨λx hx=>?_,by omega,?_⟩
   ·rcases List.mem_cons.mp hx with rfl |hx
    ·omega
    ·exact h1 x hx
   ·rcases List.mem_cons.mp h3 with z |z
    ·rw[z]
     by_cases q:b<=c
     ·rw[Int.max_eq_right q];simp
     ·rw[Int.max_eq_left (by omega)];simp
    ·exact List.mem_cons_of_mem _ (List.mem_cons_of_mem _ z)
 intro a ha hb
 cases l with
 |nil=>cases ha
 |cons b l=>
  obtain⟨h1,h2,h3⟩:=key l b
  have h4:=hb _ h3
  rcases List.mem_cons.mp ha with rfl |z
  ·omega
  ·have:=h1 a z;omega
theorem OH:∀{w:List Int}{v:Nat},v<Yz w->∃k,k<w.length/\Yz (w.take k)=v
 | [],v,h=>by
  have:Yz []=0:=rfl
  omega
 |x::w,v,h=>by
  by_cases c:v=0
  ·exact⟨0,by simp,by subst c;rfl⟩
  ·have e:∀u:List Int,Yz (x::u)=Yz [x]+Yz u:=λu=>Jz [x] u
   rw[e] at h
   have h1:=CU [x]
   have h1:Yz [x]<=1:=h1
   obtain⟨k,hk,hn⟩:=OH (w:=w) (v:=v-Yz [x]) (by omega)
   refine⟨k+1,by simpa using hk,?_⟩
   rw[List.take_succ_cons,e,hn]
   omega
theorem Pk (w:List Int)(f:Int):Q8 (Z1 w f)=f+(QZ w:Int)-1:=by
 have hp:=Fj w
 refine La ?_ λx hx=>?_
 ·have:∃k,k<max w.length 1/\Yz (w.take k)=QZ w-1:=by
   by_cases c:Yz w=0
   ·exact⟨0,by omega,by unfold QZ;rw[c];rfl⟩
   ·obtain⟨k,h1,h2⟩:=OH (w:=w) (v:=Yz w-1) (by omega)
    exact⟨k,by omega,by unfold QZ;omega⟩
  obtain⟨k,h1,h2⟩:=this
  have:=Gd w f h1
  rw[h2,Int.emod_eq_of_lt (by omega) (by omega)] at this
  refine List.mem_of_getElem? (this.trans ?_)
  congr 1
  omega
 ·obtain⟨k,hk,rfl⟩:=List.mem_map.mp hx
  have:=Int.emod_lt_of_pos (Yz (w.take k):Int) (show(0:Int)<(QZ w:Int) by omega)
  omega
theorem G8 {D:QDr}{K:Nat}(h:Dw D K):VU D= .ok (K:Int):=by
 have hl:=h.dg.few
 unfold VU CJ;dsimp only
 simp only[Rs.okb]
 rw[Xi (sz (by simp)),Rs.okb,F6 h.dg.few h.dg.short,Xo,Rs.okb]
 have aK:∀(ws:QLs) (f:Int),(XV ws f).length=ws.length/\OB (XV ws f) Nb=(chk ((XV ws f).length<=sizeLine) (.ok ((XV ws f).map Q8))):=λws f=>by
  refine⟨Yi ws f,?_⟩
  unfold OB
  congr 1
  refine CK λr hr=>?_
  have aL:∀(ws:QLs) (f:Int) (r:List Int),r∈XV ws f->0<r.length:=λws=>by
   induction ws with
   |nil=>intro f r hr;cases hr
   |cons w ws ih=>
    intro f r hr
    rcases List.mem_cons.mp hr with rfl |hr
    ·rw[ZF];omega
    ·exact ih _ r hr
  unfold Nb
  rw[Xi (aL ws f r hr)]
 obtain⟨l1,l2⟩:=aK D.1 0
 rw[l2,Xi (sz (by omega)),Rs.okb,show NC [(-1:Int)] ((XV D.1 0).map Q8)= .ok ([-1]++(XV D.1 0).map Q8) from Xi (sz (by simp;omega)),Rs.okb]
 have hm:∀(ws:QLs) (f:Int),(∀x∈(XV ws f).map Q8,x<=f+XR ws-1)/\(ws≠ []->f+XR ws-1∈(XV ws f).map Q8):=λws=>by
  induction ws with
  |nil=>intro f;exact⟨λx hx=>(nomatch hx),λh=>absurd rfl h⟩
  |cons w ws ih=>
   intro f
   obtain⟨i1,i2⟩:=ih (f+QZ w)
   have e:(XV (w::ws) f).map Q8=(f+(QZ w:Int)-1)::(XV ws (f+QZ w)).map Q8:=by
    show Q8 (Z1 w f)::_=_
    rw[Pk]
   have n0:=Vn ws
   rw[e,QT]
   refine⟨λx hx=>?_,λ_=>?_⟩
   ·rcases List.mem_cons.mp hx with rfl |hx
    ·omega
    ·have:=i1 x hx;omega
   ·by_cases c:ws=[]
    ·subst c
     have:XR []=0:=rfl
     rw[this]
     exact List.mem_cons.mpr (.inl (by omega))
    ·exact List.mem_cons_of_mem _ (by have:=i2 c;rwa [show f+(QZ w:Int)+XR ws-1=f+((QZ w:Int)+XR ws)-1 by omega] at this)
 obtain⟨m1,m2⟩:=hm D.1 0
 have hA:=h.arcs
 rw[hA] at m1 m2
 have:Q8 ([-1]++(XV D.1 0).map Q8)=(K:Int)-1:=by
  refine La ?_ λx hx=>?_
  ·by_cases c:D.1=[]
   ·have:XR D.1=0:=by rw[c];rfl
    refine List.mem_append_left _ ?_
    have:K=0:=by omega
    subst this
    exact List.mem_singleton.mpr rfl
   ·refine List.mem_append_right _ ?_
    have:=m2 c
    rwa [Int.zero_add] at this
  ·rcases List.mem_append.mp hx with z |z
   ·rw[List.mem_singleton.mp z];omega
   ·have:=m1 x z;omega
 unfold Nb
 rw[Xi (by simp),Rs.okb,this]
 congr 1
 omega
theorem Ss (s:Nat)(hs:1<=s)(k:Nat):min (min ((s^k:Nat):Int) 100000*(s:Int)) 100000=min ((s^(k+1):Nat):Int) 100000:=by
 have e:((s^(k+1):Nat):Int)=((s^k:Nat):Int)*(s:Int):=by rw[Nat.pow_succ,Int.natCast_mul]
 rw[e]
 by_cases c:((s^k:Nat):Int)<=100000
 ·rw[Int.min_eq_left c]
 ·have h1:((s^k:Nat):Int)*1<=((s^k:Nat):Int)*(s:Int):=Int.mul_le_mul_of_nonneg_left (by omega) (by omega)
  have h2:(100000:Int)*1<=100000*(s:Int):=Int.mul_le_mul_of_nonneg_left (by omega) (by omega)
  rw[Int.min_eq_right (by omega:(100000:Int)<=((s^k:Nat):Int))]
  omega
theorem NM {s:Int}(h:s<=4):YW 4 s= .ok ():=by
 unfold YW Qp;dsimp only
 simp only[Rs.okb]
 rw[if_neg (by rw[decide_eq_true_eq];omega)]
theorem GL {s K:Nat}(hs:s<=4)(hK:K<=40)(c:s^K<=65536):Ym (s:Int) (K:Int)= .ok ():=by
 unfold Ym Zh;dsimp only
 simp only[Rs.okb]
 rw[Y5 (by omega),Rs.okb]
 have hf:forN ((List.range K).map λ(i:Nat)=>(i:Int)) (1:Int) (λhU _=>(MZ hU (s:Int)).bind λhW=>Rs.ok hW)= .ok ((s^K:Nat):Int):=by
  apply Ok.eq
  refine Ok.imp (Ok.forN (λi (g:Int)=>g=((s^i:Nat):Int)) rfl λi a g ha hg=>?_) λg hg=>by rw[X1] at hg;exact hg
  subst hg
  rw[QH (by omega) (by omega),Rs.okb]
  refine⟨_,rfl,?_⟩
  rw[Nat.pow_succ]
  exact(Int.natCast_mul _ _).symm
 rw[hf,Rs.okb]
 rw[if_neg (by rw[decide_eq_true_eq];omega)]
theorem Tt {D:QDr}{n K:Nat}{f:Nat->Nat->Nat}(h:Dw D K)(hn:0<n)(h4:n<=4)(hp:n^K<=65536){ms:List M5}(e1:VM D= .ok ms)(hl:ms.length<=1000)(hm:∀m∈ms,MG (XR D.1) m):Qb D (Q2 n f)= .ok (TT n f ms K):=by
 have hK:=h.le
 unfold Qb Jf;dsimp only
 simp only[Rs.okb,Zs]
 rw[Jt h.dg.few h.dg.short,Xo,Rs.okb,h.arcs,GL h4 hK hp,Xo,Rs.okb,RT e1 hl,Xo,Rs.okb,Xi (sz (by simp)),Rs.okb,Y5 (by omega),Rs.okb]
 apply Ok.eq
 refine Ok.bind (Ok.forN (λk (T:QLs)=>T=TT n f ms k) rfl λk a T ha hT=>?_) λT hT=>?_
 ·obtain⟨rfl,hk⟩:=X8 ha
  subst hT
  have hc:=Cr (n:=n) (f:=f) (ms:=ms) k
  have hpk:n^(k+1)<=65536:=Nat.le_trans (GY hn (by omega)) hp
  have hb:(TT n f ms k).length*n<=90000:=by
   have:=Nat.mul_le_mul_right n hc.1
   have e:n^(k+1)=n^k*n:=Nat.pow_succ ..
   omega
  rw[GI (as:=ms.map Vq) (f:=λt=>Rs.ok t) (p:=λt:Int×Int×Int=>decide (Q8 [t.1,t.2.1,t.2.2]=(k:Int))) (h:=λt=>t) (sz (by rw[List.length_map];omega)) (λt _=>(by rw[show Nb [t.1,t.2.1,t.2.2]= .ok (Q8 [t.1,t.2.1,t.2.2]) from rfl];rfl)) λ_ _ _=>rfl,List.map_id',Rs.okb,R3,Mj (by omega) hl hm hc hb (by omega),Xo]
  exact⟨_,rfl,rfl⟩
 ·rw[X1] at hT
  exact⟨_,rfl,hT⟩
def inB (n:Nat)(t:QLs):Bool:=decide (t.length=n)&&t.all λr=>decide (r.length=n)&&r.all λx=>decide (0<=x)&&decide (x<(n:Int))
def tat (t:QLs)(a b:Nat):Int:=(t.getD a []).getD b 0
theorem HW {n:Nat}{t:QLs}(h:inB n t=true):∃f:Nat->Nat->Nat,t=Q2 n f:=by
 unfold inB at h
 simp only[Bool.and_eq_true,decide_eq_true_eq,List.all_eq_true] at h
 obtain⟨hl,hr⟩:=h
 refine⟨λa b=>(tat t a b).toNat,List.ext_getElem (by rw[Zs];exact hl) λa h1 h2=>?_⟩
 have ha:a<n:=by omega
 have e:=U5 (f:=λa b=>(tat t a b).toNat) ha
 rw[List.getElem?_eq_getElem h2] at e
 rw[Option.some.inj e]
 have aU:=hr t[a] (List.getElem_mem _)
 refine List.ext_getElem (by rw[Db];exact aU.1) λb h3 h4=>?_
 have hb:b<n:=by omega
 have e2:=Dy (f:=λa b=>(tat t a b).toNat) (a:=a) hb
 rw[List.getElem?_eq_getElem h4] at e2
 rw[Option.some.inj e2]
 have hg:=aU.2 _ (List.getElem_mem h3)
 have e3:tat t a b=t[a][b]:=by
  have e4:t.getD a []=t[a]:=by rw[List.getD_eq_getElem?_getD,List.getElem?_eq_getElem h1,Option.getD_some]
  unfold tat
  rw[e4,List.getD_eq_getElem?_getD,List.getElem?_eq_getElem h3,Option.getD_some]
 show t[a][b]=((tat t a b).toNat:Int)
 omega
def eqR (m:Rs (List QLs))(l:List QLs):Bool:=match m with
 | .ok x=>decide (x=l)
 |_=>false
theorem OR {m:Rs (List QLs)}{l:List QLs}(h:eqR m l=true):m= .ok l:=by
 cases m with
 |bad=>cases h
 |err x=>cases h
 |ok x=>rw[of_decide_eq_true (show decide (x=l)=true from h)]
def smB (n:Int)(m:Rs (List QLs)):Bool:=match m with
 | .ok l=>decide (l.length<64)&&l.all (inB n.toNat)
 |_=>false
def SmT (n:Nat)(m:Rs (List QLs)):Prop:=∃ l,m= .ok l/\l.length<64/\∀t∈l,∃f:Nat->Nat->Nat,t=Q2 n f
theorem O3 {n:Nat}{m:Rs (List QLs)}(h:smB (n:Int) m=true):SmT n m:=by
 cases m with
 |bad=>cases h
 |err x=>cases h
 |ok l=>
  have h:(decide (l.length<64)&&l.all (inB n))=true:=h
  simp only[Bool.and_eq_true,decide_eq_true_eq,List.all_eq_true] at h
  exact⟨l,rfl,h.1,λt ht=>HW (h.2 t ht)⟩
theorem tb1:YZ 1= .ok [[[0]]]:=OR (by decide+kernel)
theorem tb2:smB 2 (YZ 2)=true:=by decide+kernel
theorem tb3:smB 3 (YZ 3)=true:=by decide+kernel
def lc0:List QLs:=[[[0,0,0,0],[1,1,1,1],[2,2,2,2],[3,3,3,3]],[[0,0,0,0],[1,1,1,1],[2,3,2,2],[3,2,3,3]],[[0,0,0,0],[1,1,1,1],[3,2,2,2],[2,3,3,3]],[[0,0,0,0],[1,1,1,1],[3,3,2,2],[2,2,3,3]],[[0,0,0,0],[1,1,1,2],[2,2,2,1],[3,3,3,3]],[[0,0,0,0],[1,1,3,1],[2,2,2,2],[3,3,1,3]]]
def lc1:List QLs:=[[[0,0,0,0],[1,1,3,2],[2,3,2,1],[3,2,1,3]],[[0,0,0,0],[2,1,1,1],[1,2,2,2],[3,3,3,3]],[[0,0,0,0],[2,1,1,1],[3,2,2,2],[1,3,3,3]],[[0,0,0,0],[2,1,1,2],[1,2,2,1],[3,3,3,3]],[[0,0,0,0],[3,1,1,1],[1,2,2,2],[2,3,3,3]],[[0,0,0,0],[3,1,1,1],[2,2,2,2],[1,3,3,3]]]
def lc2:List QLs:=[[[0,0,0,0],[3,1,3,1],[2,2,2,2],[1,3,1,3]],[[0,0,0,1],[1,1,1,0],[2,2,2,2],[3,3,3,3]],[[0,0,0,1],[1,1,1,2],[2,2,2,0],[3,3,3,3]],[[0,0,0,2],[1,1,1,0],[2,2,2,1],[3,3,3,3]],[[0,0,0,2],[1,1,1,1],[2,2,2,0],[3,3,3,3]],[[0,0,1,0],[1,1,0,1],[2,2,2,2],[3,3,3,3]]]
def lc3:List QLs:=[[[0,0,1,0],[1,1,3,1],[2,2,2,2],[3,3,0,3]],[[0,0,1,1],[1,1,0,0],[2,2,2,2],[3,3,3,3]],[[0,0,1,1],[1,1,0,0],[3,3,2,2],[2,2,3,3]],[[0,0,3,0],[1,1,0,1],[2,2,2,2],[3,3,1,3]],[[0,0,3,0],[1,1,1,1],[2,2,2,2],[3,3,0,3]],[[0,0,3,2],[1,1,1,1],[3,2,2,0],[2,3,0,3]]]
def lc4:List QLs:=[[[0,2,0,0],[1,1,1,1],[2,0,2,2],[3,3,3,3]],[[0,2,0,0],[1,1,1,1],[2,3,2,2],[3,0,3,3]],[[0,2,0,2],[1,1,1,1],[2,0,2,0],[3,3,3,3]],[[0,2,0,2],[3,1,3,1],[2,0,2,0],[1,3,1,3]],[[0,2,1,0],[2,1,0,1],[1,0,2,2],[3,3,3,3]],[[0,2,3,1],[3,1,0,2],[1,3,2,0],[2,0,1,3]]]
def lc5:List QLs:=[[[0,3,0,0],[1,1,1,1],[2,0,2,2],[3,2,3,3]],[[0,3,0,0],[1,1,1,1],[2,2,2,2],[3,0,3,3]],[[0,3,0,1],[3,1,1,0],[2,2,2,2],[1,0,3,3]],[[0,3,1,2],[2,1,3,0],[3,0,2,1],[1,2,0,3]],[[0,3,3,0],[1,1,1,1],[2,2,2,2],[3,0,0,3]],[[0,3,3,0],[2,1,1,2],[1,2,2,1],[3,0,0,3]]]
def l4:List QLs:=lc0++(lc1++(lc2++(lc3++(lc4++lc5))))
theorem t4a:eqR (YZ 4) l4=true:=by decide+kernel
theorem tb4:SmT 4 (YZ 4):=⟨l4,OR t4a,by decide,λt ht=>HW (List.all_eq_true.mp (show l4.all (inB 4)=true by decide+kernel) t ht)⟩
theorem PN {n:Nat}(h1:1<=n)(h4:n<=4):SmT n (YZ (n:Int)):=by
 have h:n=1∨n=2∨n=3∨n=4:=by omega
 rcases h with rfl |rfl |rfl |rfl
 ·exact⟨_,tb1,by decide,λt ht=>HW (List.all_eq_true.mp (show[[[(0:Int)]]].all (inB 1)=true by decide) t ht)⟩
 ·exact O3 tb2
 ·exact O3 tb3
 ·exact tb4
theorem O9 {M B:Type}(a:M)(as:List M)(g:B)(f:B->M->Rs B):forN (a::as) g f=(f g a).bind λg'=>forN as g' f:=rfl
section
variable {D E:QDr}{n K Lqz s:Nat}{f:Nat->Nat->Nat}{ms:List M5}
theorem WM (h:Dw D K)(hn:0<n)(h24:n<=100)(hp:n^K<=7000)(e2:Qy D= .ok ms)(hl:ms.length<=1000)(hm:∀m∈ms,MG (XR D.1) m):KA D (Q2 n f)= .ok (TT n f ms K):=by
 have hK2:=h.le
 unfold KA S1;dsimp only
 simp only[Rs.okb]
 rw[e2,Xo]
 simp only[Rs.okb]
 rw[Xi (sz (by simp)),G8 h,Xo,Zs]
 simp only[Rs.okb]
 rw[Y5 (by omega),Y5 (by omega)]
 simp only[Rs.okb]
 apply Ok.eq
 refine Ok.bind (Ok.forN (λk (T:QLs)=>T=TT n f ms k) rfl λk a T ha hT=>?_) λT hT=>?_
 ·obtain⟨rfl,hk⟩:=X8 ha
  subst hT
  have hc:=Cr (n:=n) (f:=f) (ms:=ms) k
  have hpk:n^(k+1)<=7000:=Nat.le_trans (GY hn (by omega)) hp
  have hb:(TT n f ms k).length*n<=90000:=by
   have:=Nat.mul_le_mul_right n hc.1
   have e:n^(k+1)=n^k*n:=Nat.pow_succ ..
   omega
  rw[GI (p:=DX k) (h:=λm=>m) (sz (by omega)) (λm _=>?_) λ_ _ _=>rfl,List.map_id',Rs.okb]
  ·rw[outer (n:=n) (f:=f) (ms:=ms.filter (DX k)) hb,Rs.okb]
   ·exact⟨_,rfl,rfl⟩
   intro g c hcm hg
   obtain⟨h1,h2⟩:=hc.2 c hcm
   rw[Vk (p:=λj=>(ms.filter (DX k)).all (B3 f (NK (c++[j])))) (h:=λj=>c++[j]) (by simp;omega),Rs.okb]
   ·rfl
   intro g' a ha gc
   obtain⟨j,hj,rfl⟩:=UN ha
   rw[A4 (by omega),Rs.okb,NQ (cn:=NK (c++[(j:Int)])) (Wb h1 h2 hj) (OC hm k),Xo,Rs.okb]
   cases(ms.filter (DX k)).all (B3 f (NK (c++[(j:Int)]))) with
   |true=>rw[if_pos rfl,Rs.okb,Xi (Gg (by omega))];rfl
   |false=>rw[if_neg Bool.false_ne_true];rfl
  ·rw[Xi (by simp[HT.sIx])]
   rfl
 ·rw[X1] at hT
  exact⟨_,rfl,hT⟩
theorem Wg (h:Dk D K)(hn:0<n)(h4:n<=4)(hp:n^K<=1000):∃c:Int,Z3 D (Q2 n f)= .ok c/\((noE (KA D (Q2 n f))).bind λx=>Rs.ok (x.length:Int))= .ok c:=by
 obtain⟨ms,e1,e2,e3,e4⟩:=Hf h.dw.dg h.few h.short h.nd
 have hl:ms.length<=1000:=by have:=h.dw.dg.le;omega
 refine⟨((TT n f ms K).length:Int),?_,?_⟩
 ·unfold Z3 HL;dsimp only
  simp only[Rs.okb]
  rw[Tt h.dw hn h4 (by omega) e1 hl e4,Xo,Rs.okb]
 ·rw[WM h.dw hn (by omega) (by omega) e2 hl e4,Xo,Rs.okb]
theorem MM (h:Dk D K)(hn:0<n)(h4:n<=4)(hp:n^K<=1000){l:List QLs}(hl:∀t∈l,∃f:Nat->Nat->Nat,t=Q2 n f):∃c:QLs->Int,∀t∈l,Z3 D t= .ok (c t)/\((noE (KA D t)).bind λx=>Rs.ok (x.length:Int))= .ok (c t):=by
 have:∀t:QLs,∃c:Int,t∈l->Z3 D t= .ok c/\((noE (KA D t)).bind λx=>Rs.ok (x.length:Int))= .ok c:=λt=>by
  by_cases q:t∈l
  ·obtain⟨f,rfl⟩:=hl t q
   obtain⟨c,hc⟩:=Wg (f:=f) h hn h4 hp
   exact⟨c,λ_=>hc⟩
  ·exact⟨0,λz=>absurd z q⟩
 obtain⟨F,hF⟩:=Classical.axiomOfChoice this
 exact⟨F,hF⟩
theorem Tq (h:Dw D K)(h':Dw E Lqz)(hs:s<=4)(hp:s^K<=65536)(di:s^Lqz<=65536):ZD (s:Int) [D,E]= .ok ():=by
 unfold ZD QU;dsimp only
 simp only[Rs.okb]
 rw[NM (by omega),Xo,Rs.okb]
 rw[O9,Jt h.dg.few h.dg.short,h.arcs,Xo,Rs.okb,GL hs h.le hp,Xo,Rs.okb,Rs.okb]
 rw[O9,Jt h'.dg.few h'.dg.short,h'.arcs,Xo,Rs.okb,GL hs h'.le di,Xo,Rs.okb,Rs.okb]
 rfl
theorem qD {n:Nat}(h:n<=10):MY 1 ((n:Int)+1)= .ok ((List.range n).map λ(i:Nat)=>((i+1:Nat):Int)):=by
 unfold MY
 rw[Xi (by omega)]
 unfold VA
 congr 1
 rw[show((n:Int)+1-1).toNat=n by omega]
 exact List.map_congr_left λi _=>by omega
def ctl {ρ:Type}:Option ρ->Ctl ρ Unit
 |none=>.nx ()
 |some r=>.ret r
theorem Me {M B ρ:Type}(a:M)(as:List M)(g:B)(f:B->M->Rs (Ctl ρ B)):JO (a::as) g f=(f g a).bind λc=>match c with
 | .ret r=>.ok (.ret r)
 | .nx g'=>JO as g' f:=rfl
theorem Px {M ρ:Type}{F G H:Unit->M->Rs (Ctl ρ Unit)}(sw:ρ->ρ)(P:ρ->Prop):∀{as:List M},(∀a∈as,∃c:Option ρ,F () a= .ok (ctl c)/\G () a= .ok (ctl c)/\H () a= .ok (ctl (c.map sw))/\∀r,c=some r->P r)->∃c:Option ρ,JO as () F= .ok (ctl c)/\JO as () G= .ok (ctl c)/\JO as () H= .ok (ctl (c.map sw))/\∀r,c=some r->P r
 | [],_=>⟨none,rfl,rfl,rfl,λr h=>nomatch h⟩
 |a::as,h=>by
  obtain⟨c,e1,e2,e3,hc⟩:=h a List.mem_cons_self
  rw[Me,Me,Me,e1,e2,e3]
  cases c with
  |some r=>exact⟨some r,rfl,rfl,rfl,hc⟩
  |none=>exact Px sw P λb hb=>h b (.tail _ hb)
def TC (r:Option T3):Option T3:=r.map λt=>(t.1,t.2.2,t.2.1)
def Gt (r:Option T3):Prop:=∀ t,r=some t->∃(n:Nat) (f:Nat->Nat->Nat),1<=n/\n<=4/\t.1=Q2 n f
theorem AQ {ρ:Type}(c:Option ρ):(Rs.ok (ctl c)).bind (ZB λ(_:Unit)=>Rs.ok (Ctl.nx ():Ctl ρ Unit))= .ok (ctl c):=by cases c<;> rfl
theorem AI (c:Option (Option T3)):(Rs.ok (ctl c)).bind (Kg λ(_:Unit)=>Rs.ok none)= .ok (c.getD none):=by cases c<;> rfl
theorem LC (h:Dk D K)(h':Dk E Lqz)(hs:s<=4)(hp:s^K<=1000)(di:s^Lqz<=1000):∃r:Option T3,VH D E (s:Int)= .ok r/\NS D E (s:Int)= .ok r/\VH E D (s:Int)= .ok (TC r)/\Gt r:=by
 unfold VH NS G4 Pu;dsimp only
 simp only[Rs.okb]
 rw[Xi (sz (by simp)),Xi (sz (by simp)),Rs.okb,Rs.okb,Tq h.dw h'.dw hs (by omega) (by omega),Tq h'.dw h.dw hs (by omega) (by omega),Xo,Rs.okb,Rs.okb,qD (by omega),Rs.okb,Rs.okb,Rs.okb]
 obtain⟨c,e1,e2,e3,hc⟩:=Px (F:=λ_ fC=>(noE (YZ fC)).bind λx51=>(JO x51 () λ_ cq=>(noE (Z3 D cq)).bind λeL=>(noE (Z3 E cq)).bind λda=>if(!decide (eL=da))=true then Rs.ok (Ctl.ret (some (cq,eL,da))) else Rs.ok (Ctl.nx ())).bind (ZB λ_=>Rs.ok (Ctl.nx ())))
  (G:=λ_ a9=>(noE (YZ a9)).bind λcr=>(JO cr () λ_ cO=>((noE (KA D cO)).bind λeJ=>Rs.ok (eJ.length:Int)).bind λdX=>((noE (KA E cO)).bind λfh=>Rs.ok (fh.length:Int)).bind λfD=>if(!decide (dX=fD))=true then Rs.ok (Ctl.ret (some (cO,dX,fD))) else Rs.ok (Ctl.nx ())).bind (ZB λ_=>Rs.ok (Ctl.nx ())))
  (H:=λ_ fC=>(noE (YZ fC)).bind λx51=>(JO x51 () λ_ cq=>(noE (Z3 E cq)).bind λeL=>(noE (Z3 D cq)).bind λda=>if(!decide (eL=da))=true then Rs.ok (Ctl.ret (some (cq,eL,da))) else Rs.ok (Ctl.nx ())).bind (ZB λ_=>Rs.ok (Ctl.nx ())))
  TC Gt (as:=(List.range s).map λ(i:Nat)=>((i+1:Nat):Int)) λa ha=>by
   obtain⟨i,hi,rfl⟩:=List.mem_map.mp ha
   have hi:=List.mem_range.mp hi
   obtain⟨l,e1,l1,l2⟩:=PN (n:=i+1) (by omega) (by omega)
   obtain⟨x,hx⟩:=MM h (n:=i+1) (by omega) (by omega) (Nat.le_trans (Nat.pow_le_pow_left (by omega) K) hp) l2
   obtain⟨y,hy⟩:=MM h' (n:=i+1) (by omega) (by omega) (Nat.le_trans (Nat.pow_le_pow_left (by omega) Lqz) di) l2
   rw[e1,Xo,Rs.okb,Rs.okb,Rs.okb]
   obtain⟨c,f1,f2,f3,hc⟩:=Px (F:=λ_ cq=>(noE (Z3 D cq)).bind λeL=>(noE (Z3 E cq)).bind λda=>if(!decide (eL=da))=true then Rs.ok (Ctl.ret (some (cq,eL,da))) else Rs.ok (Ctl.nx ()))
    (G:=λ_ cO=>((noE (KA D cO)).bind λeJ=>Rs.ok (eJ.length:Int)).bind λdX=>((noE (KA E cO)).bind λfh=>Rs.ok (fh.length:Int)).bind λfD=>if(!decide (dX=fD))=true then Rs.ok (Ctl.ret (some (cO,dX,fD))) else Rs.ok (Ctl.nx ()))
    (H:=λ_ cq=>(noE (Z3 E cq)).bind λeL=>(noE (Z3 D cq)).bind λda=>if(!decide (eL=da))=true then Rs.ok (Ctl.ret (some (cq,eL,da))) else Rs.ok (Ctl.nx ()))
    TC Gt (as:=l) λt ht=>by
     rw[(hx t ht).1,(hy t ht).1,(hx t ht).2,(hy t ht).2,Xo,Xo]
     simp only[Rs.okb]
     obtain⟨f,hf⟩:=l2 t ht
     by_cases z:x t=y t
     ·rw[show decide (x t=y t)=true from decide_eq_true z,show decide (y t=x t)=true from decide_eq_true z.symm]
      exact⟨none,rfl,rfl,rfl,λr h=>nomatch h⟩
     ·rw[show decide (x t=y t)=false from decide_eq_false z,show decide (y t=x t)=false from decide_eq_false (Ne.symm z)]
      exact⟨some (some (t,x t,y t)),rfl,rfl,rfl,λr h u hu=>by cases h;cases hu;exact⟨i+1,f,by omega,by omega,hf⟩⟩
   exact⟨c,by rw[f1,AQ],by rw[f2,AQ],by rw[f3,AQ],hc⟩
 exact⟨c.getD none,by rw[e1,AI],by rw[e2,AI],by rw[e3,AI];cases c<;> rfl,λt ht=>by
  cases c with
  |none=>cases ht
  |some r=>exact hc r rfl t ht⟩
theorem BK (h:Dw D K)(h':Dw E Lqz):∃q:Nat,Qs [D,E] 1000= .ok (q:Int)/\1<=q/\q<=4/\q^K<=1000/\q^Lqz<=1000:=by
 have hK:=h.le
 have hL:=h'.le
 obtain⟨Mqz,hM⟩:∃Mqz:Nat,Mqz=max K Lqz:=⟨_,rfl⟩
 suffices Ok (Qs [D,E] 1000) λg=>∃ q:Nat,g=(q:Int)/\1<=q/\q<=4/\q^Mqz<=1000 by
  obtain⟨g,e,q,rfl,q1,q2,q3⟩:=this
  exact⟨q,e,q1,q2,Nat.le_trans (GY q1 (by omega)) q3,Nat.le_trans (GY q1 (by omega)) q3⟩
 unfold Qs VO;dsimp only
 simp only[Rs.okb]
 rw[show MY 2 5= .ok [2,3,4] from rfl,Rs.okb]
 refine Ok.bind (Ok.forN (λ_ g=>∃ q:Nat,g=(q:Int)/\1<=q/\q<=4/\q^Mqz<=1000) ⟨1,rfl,by decide,by decide,by rw[Nat.one_pow];decide⟩ λi a g ha hg=>?_) λg hg=>⟨_,rfl,hg⟩
 obtain⟨s,rfl,s2,s4⟩:∃s:Nat,a=(s:Int)/\2<=s/\s<=4:=by
  have:=List.mem_of_getElem? ha
  simp only[List.mem_cons,List.not_mem_nil,or_false] at this
  rcases this with rfl |rfl |rfl
  ·exact⟨2,rfl,by decide,by decide⟩
  ·exact⟨3,rfl,by decide,by decide⟩
  ·exact⟨4,rfl,by decide,by decide⟩
 have em:OB [D,E] (λcM=>noE (VU cM))= .ok [(K:Int),(Lqz:Int)]:=by
  unfold OB
  rw[Xi (sz (by simp))]
  unfold Ek
  rw[G8 h,Xo,Rs.okb]
  unfold Ek
  rw[G8 h',Xo,Rs.okb]
  rfl
 rw[em,Rs.okb,show Nb [(K:Int),(Lqz:Int)]= .ok (Mqz:Int) from by
  rw[show Nb [(K:Int),(Lqz:Int)]= .ok (max (K:Int) (Lqz:Int)) from rfl]
  congr 1
  omega,Rs.okb,Y5 (by omega),Rs.okb]
 have hp:W5 (10:Int) (5:Int)= .ok 100000:=rfl
 refine Ok.bind (Ok.forN (λk (g:Int)=>g=min ((s^k:Nat):Int) 100000) (by rw[Nat.pow_zero];rfl) λk a g ha hg=>?_) λt ht=>?_
 ·subst hg
  have h0:(0:Int)<=((s^k:Nat):Int):=by omega
  rw[Zy (by omega) (by omega),Rs.okb,hp,Rs.okb,Rs.okb]
  exact⟨_,rfl,Ss s (by omega) k⟩
 ·rw[X1] at ht
  subst ht
  by_cases c:s^Mqz<=1000
  ·rw[show decide (min ((s^Mqz:Nat):Int) 100000<=1000)=true from decide_eq_true (by omega),okt,Rs.okb]
   exact⟨_,rfl,s,rfl,by omega,s4,c⟩
  ·rw[show decide (min ((s^Mqz:Nat):Int) 100000<=1000)=false from decide_eq_false (by omega),okf,Rs.okb]
   exact⟨_,rfl,hg⟩
theorem IZ (h:Dk D K):B5 D= .ok D:=by
 unfold B5 Ih;dsimp only
 simp only[Rs.okb]
 rw[Ke h.few,Rs.okb]
end
theorem A0 {t:T3}{n:Nat}{f:Nat->Nat->Nat}(h1:1<=n)(e:t.1=Q2 n f):t.1[0]?=some (Vm n f 0):=by rw[e];exact U5 (by omega)
theorem Pt {n:Nat}{f:Nat->Nat->Nat}:(Vm n f 0).length=n:=by simp[Vm]
theorem Bi {r:Option T3}(h:Gt r):B0 r r= .ok true:=by
 unfold B0 H9;dsimp only
 simp only[Rs.okb]
 cases r with
 |none=>rfl
 |some t=>
  obtain⟨n,f,h1,h4,e⟩:=h t rfl
  simp only[Option.isNone_some,orF,Rs.okb,okf,Ta,Bool.not_true,decide_true,Bool.false_eq_true,if_false]
  rw[show atR t.1 0= .ok (Vm n f 0) from Yp (i:=0) (A0 h1 e),Rs.okb,Rs.okb,Xi ⟨by rw[Pt];omega,sz (by rw[Pt];simp;omega)⟩,Rs.okb,ET λa _=>by rfl,Rs.okb]
  rfl
theorem NJ {r:Option T3}{g:Rs Bool}(h:Gt r):Ew r g=g:=by
 cases r with
 |none=>rfl
 |some t=>
  obtain⟨n,f,h1,h4,e⟩:=h t rfl
  unfold Ew
  simp only[Rs.okb]
  have hl:t.1.length=n:=by rw[e];exact Zs n f
  rw[Xi (Gg (by omega)),show atR (t.1++[[]]) 0= .ok (Vm n f 0) from Yp (i:=0) (by rw[List.getElem?_append_left (by omega)];exact A0 h1 e)]
  simp only[Rs.okb]
  rw[Xi (Gg (by rw[Pt];omega)),show JK (t.1++[[]]) 0 (Vm n f 0++[0])=_ from Zz (i:=0) (by simp),Rs.okb]
theorem Gt.sw {r:Option T3}(h:Gt r):Gt (TC r):=λt ht=>by
 cases r with
 |none=>cases ht
 |some u=>cases ht;exact h u rfl
theorem Dr.flip {n:Nat}{ws:QLs}{sg:QPs}(d:Dr n ws sg):Dr n ws (sg.map λe=>(e.1,-e.2)):=by
 have hk:kys (sg.map λe:Int×Int=>(e.1,-e.2))=kys sg:=by unfold kys;rw[List.map_map];rfl
 exact⟨d.n4,d.ne,d.lw,⟨List.pairwise_map.mpr (d.gs.1.imp λh=>h),λe he=>by obtain⟨x,hx,rfl⟩:=List.mem_map.mp he;exact d.gs.2 x hx⟩,by rw[List.length_map];exact d.ls,by rw[hk];exact d.pe,λe he=>by obtain⟨x,hx,rfl⟩:=List.mem_map.mp he;have:=d.sn x hx;show-x.2=1∨ -x.2= -1;omega⟩
theorem Nf (ns:List Int)(_:ns.length<=63):Ip ns= .ok true:=by
 unfold Ip Sj;dsimp only
 simp only[Rs.okb]
 obtain⟨⟨ws,sg⟩,e0,d0⟩:=BX ns (show(0:Int)<=0 by decide)
 obtain⟨E0,e8,d8⟩:=BX ns (show(0:Int)<=8 by decide)
 obtain⟨r,er,rl,hr⟩:=EE ns (show(0:Int)<=7 by decide) [4,6] (by decide) (by decide)
 have rl:r.length=2:=rl
 rw[e0,Xo,Rs.okb,Xi (sz (by simp)),Rs.okb,er,Xo,Rs.okb,e8,Xo,Rs.okb,Yq (r:=r) (k:=0) (n:=0) rfl (by omega),Yq (r:=r) (k:=1) (n:=1) rfl (by omega)]
 simp only[Rs.okb]
 refine Ok.eq (Ok.bind (R:=λD:QDr=>Dr 5 D.1 D.2) (Ok.ite (λ_=>?_) λ_=>⟨_,rfl,d8.mono (by decide) (by decide)⟩) λE1 dE=>?_)
 ·rw[Xi (sz (by simp)),Rs.okb]
  obtain⟨x,ex,dx⟩:=Nl ns d0 (wds:=["turn","curl","uncurl","pass"]) (by decide) λw hw=>by simpa using hw
  rw[ex,Xo,Rs.okb]
  exact⟨_,rfl,dx⟩
 refine Ok.bind (R:=λD:QDr=>Dr 5 D.1 D.2) (Ok.ite (λ_=>?_) λ_=>⟨_,rfl,dE⟩) λE dE=>?_
 ·rw[QN (h:=λe:Int×Int=>(e.1,-e.2)) (sz (by have:sg.length<=6+0:=d0.ls;omega)) λ_ _=>rfl,Rs.okb,Rs.okb]
  exact⟨_,rfl,d0.flip.mono (by decide) (by decide)⟩
 generalize hD:((ws,sg):QDr)=D
 have dD:Dr 0 D.1 D.2:=by rw[←hD];exact d0
 obtain⟨K,hK⟩:=dD.dk
 obtain⟨Lqz,hL⟩:=dE.dk
 obtain⟨q,eq,q1,q4,qK,qL⟩:=BK hK.dw hL.dw
 rw[Xi (sz (by simp)),Rs.okb,eq,Xo,Rs.okb]
 obtain⟨s,es,s1,s2⟩:∃s:Nat,min (q:Int) (3+if decide (r[1]=0)=true then 1 else 0)=(s:Int)/\1<=s/\s<=q:=by
  cases decide (r[1]=0) with
  |true=>exact⟨min q 4,by simp;omega,by omega,by omega⟩
  |false=>exact⟨min q 3,by simp;omega,by omega,by omega⟩
 obtain⟨c,p1,p2,p3,hc⟩:=LC hK hL (s:=s) (by omega) (Nat.le_trans (Nat.pow_le_pow_left s2 K) qK) (Nat.le_trans (Nat.pow_le_pow_left s2 Lqz) qL)
 rw[es,IZ hK,Xo,Rs.okb,IZ hL,Xo,Rs.okb,Rs.okb,Rs.okb,Rs.okb,Xi (sz (by simp)),Rs.okb,p2,Xo,Rs.okb]
 simp only[ar0,ar1,Rs.okb]
 rw[p1,Xo,Rs.okb,Bi hc,Xo,Rs.okb]
 simp only[decide_true,Bool.not_true,orF,okf,Rs.okb]
 refine Ok.bind (R:=λx:Option T3=>x=TC c) (by cases c<;> exact⟨_,rfl,rfl⟩) λx hx=>?_
 subst hx
 rw[p3,Xo,Rs.okb,Bi hc.sw,Xo,Rs.okb]
 simp only[Bool.not_true,okf,Rs.okb]
 rw[NJ hc,Bi hc,Xo]
 exact⟨_,rfl,rfl⟩
theorem qy {K:W.Frag}{mg:Str->Option Value}{h:Heap}(X:K.In h)(G:h.Ns mainGlobals mg){x p0:Str}{st:Stmt}{f:Addr}{oc:Value}{od an:Option Addr}{cJ:Array (Option Value)}{kV doc pm aj ct:Value}(hb:∀(kV doc pm:Value) (an:Option Addr) (aj ct u0:Value),bindArgs (W.fnOf x x (YS st) (X7 st) (Xg st) .none kV doc pm an aj ct) ⟨[u0],[]⟩=pure ([p0].zip [u0]))(a:W.nsIn K mainGlobals x=some (some (.ref f)))(l:K.lookup f=some ⟨oc,od, .func (W.fnOf x x (YS st) (X7 st) (Xg st) .none kV doc pm an aj ct),cJ⟩)(c:W.codeIn K aj x=true)(k:W.keepIn K (.ref f)=true):Def K mg x st [p0]:=⟨f,_,Q7 l c k,(Q7 l c k).binds λ_ _ _ _ _ _ us hl=>(by obtain⟨_,rfl⟩:=Wv hl;exact hb ..),W.mg_of X G a⟩
theorem qI {K:W.Frag}{mg:Str->Option Value}{h:Heap}(X:K.In h)(G:h.Ns mainGlobals mg){x p0 p1:Str}{st:Stmt}{f:Addr}{oc:Value}{od an:Option Addr}{cJ:Array (Option Value)}{kV doc pm aj ct:Value}(hb:∀(kV doc pm:Value) (an:Option Addr) (aj ct u0 u1:Value),bindArgs (W.fnOf x x (YS st) (X7 st) (Xg st) .none kV doc pm an aj ct) ⟨[u0,u1],[]⟩=pure ([p0,p1].zip [u0,u1]))(a:W.nsIn K mainGlobals x=some (some (.ref f)))(l:K.lookup f=some ⟨oc,od, .func (W.fnOf x x (YS st) (X7 st) (Xg st) .none kV doc pm an aj ct),cJ⟩)(c:W.codeIn K aj x=true)(k:W.keepIn K (.ref f)=true):Def K mg x st [p0,p1]:=⟨f,_,Q7 l c k,(Q7 l c k).binds λ_ _ _ _ _ _ us hl=>(by obtain⟨_,_,rfl⟩:=TY hl;exact hb ..),W.mg_of X G a⟩
theorem qF {K:W.Frag}{mg:Str->Option Value}{h:Heap}(X:K.In h)(G:h.Ns mainGlobals mg){x p0 p1 p2:Str}{st:Stmt}{f:Addr}{oc:Value}{od an:Option Addr}{cJ:Array (Option Value)}{kV doc pm aj ct:Value}(hb:∀(kV doc pm:Value) (an:Option Addr) (aj ct u0 u1 u2:Value),bindArgs (W.fnOf x x (YS st) (X7 st) (Xg st) .none kV doc pm an aj ct) ⟨[u0,u1,u2],[]⟩=pure ([p0,p1,p2].zip [u0,u1,u2]))(a:W.nsIn K mainGlobals x=some (some (.ref f)))(l:K.lookup f=some ⟨oc,od, .func (W.fnOf x x (YS st) (X7 st) (Xg st) .none kV doc pm an aj ct),cJ⟩)(c:W.codeIn K aj x=true)(k:W.keepIn K (.ref f)=true):Def K mg x st [p0,p1,p2]:=⟨f,_,Q7 l c k,(Q7 l c k).binds λ_ _ _ _ _ _ us hl=>(by obtain⟨_,_,_,rfl⟩:=Ti hl;exact hb ..),W.mg_of X G a⟩
theorem qR {K:W.Frag}{mg:Str->Option Value}{h:Heap}(X:K.In h)(G:h.Ns mainGlobals mg){x p0 p1 p2 p3:Str}{st:Stmt}{f:Addr}{oc:Value}{od an:Option Addr}{cJ:Array (Option Value)}{kV doc pm aj ct:Value}(hb:∀(kV doc pm:Value) (an:Option Addr) (aj ct u0 u1 u2 u3:Value),bindArgs (W.fnOf x x (YS st) (X7 st) (Xg st) .none kV doc pm an aj ct) ⟨[u0,u1,u2,u3],[]⟩=pure ([p0,p1,p2,p3].zip [u0,u1,u2,u3]))(a:W.nsIn K mainGlobals x=some (some (.ref f)))(l:K.lookup f=some ⟨oc,od, .func (W.fnOf x x (YS st) (X7 st) (Xg st) .none kV doc pm an aj ct),cJ⟩)(c:W.codeIn K aj x=true)(k:W.keepIn K (.ref f)=true):Def K mg x st [p0,p1,p2,p3]:=⟨f,_,Q7 l c k,(Q7 l c k).binds λ_ _ _ _ _ _ us hl=>(by obtain⟨_,_,_,_,rfl⟩:=TR hl;exact hb ..),W.mg_of X G a⟩
theorem qA {K:W.Frag}{mg:Str->Option Value}{h:Heap}(X:K.In h)(G:h.Ns mainGlobals mg){x p0 p1 p2 p3 p4:Str}{st:Stmt}{f:Addr}{oc:Value}{od an:Option Addr}{cJ:Array (Option Value)}{kV doc pm aj ct:Value}(hb:∀(kV doc pm:Value) (an:Option Addr) (aj ct u0 u1 u2 u3 u4:Value),bindArgs (W.fnOf x x (YS st) (X7 st) (Xg st) .none kV doc pm an aj ct) ⟨[u0,u1,u2,u3,u4],[]⟩=pure ([p0,p1,p2,p3,p4].zip [u0,u1,u2,u3,u4]))(a:W.nsIn K mainGlobals x=some (some (.ref f)))(l:K.lookup f=some ⟨oc,od, .func (W.fnOf x x (YS st) (X7 st) (Xg st) .none kV doc pm an aj ct),cJ⟩)(c:W.codeIn K aj x=true)(k:W.keepIn K (.ref f)=true):Def K mg x st [p0,p1,p2,p3,p4]:=⟨f,_,Q7 l c k,(Q7 l c k).binds λ_ _ _ _ _ _ us hl=>(by obtain⟨_,_,_,_,_,rfl⟩:=Ai hl;exact hb ..),W.mg_of X G a⟩
theorem Wq {l:PySem.W.OpenLaw}{w:World}{K:W.Frag}{h:Heap}{mg:Str->Option Value}{fa f:Addr}{tk0:Tok}{tk1:Tok}(X:K.In h)(G:h.Ns mainGlobals mg)(hfa:mg "law" =some (.ref fa)){od an:Option Addr}{sl:Array (Option Value)}{oc kV dc pm cd ct:Value}
  (D1:Def K mg "refuse_above" Qj ["most","size"])
  (D2:Def K mg "each_once" JU ["count"])
  (D3:Def K mg "longer_by_one" ZL ["lists","count"])
  (D4:Def K mg "broken" GW ["table"])
  (D5:Def K mg "breach_of_one" ZT ["table"])
  (D6:Def K mg "breach_of_two" Y9 ["table"])
  (D7:Def K mg "first_same" Jh ["column"])
  (D8:Def K mg "breach_of_three" Zk ["table"])
  (D9:Def K mg "tables" Vo ["size"])
  (D10:Def K mg "all_columns" ZC ["size"])
  (D11:Def K mg "longer_by_columns" Yu ["choices","columns"])
  (D12:Def K mg "table_of_columns" Yg ["columns"])
  (D13:Def K mg "spot" IR ["drawing","passage"])
  (D14:Def K mg "arcs" L7 ["drawing"])
  (D15:Def K mg "arc_count" QK ["drawing"])
  (D16:Def K mg "arcs_of_walk" Zo ["walk"])
  (D17:Def K mg "arcs_of_ways" Qh ["walk","first"])
  (D18:Def K mg "meets" Ci ["drawing"])
  (D19:Def K mg "ties" Lc ["drawing"])
  (D20:Def K mg "all_held" Jw ["table","colours","asked"])
  (D21:Def K mg "colourings" Qc ["drawing","table"])
  (D22:Def K mg "refuse_too_much" Zj ["size","count"])
  (D23:Def K mg "longer_by_arc" ZU ["lists","table","asked"])
  (D24:Def K mg "many" HC ["drawing","table"])
  (D25:Def K mg "refuse_size" QF ["size","drawings"])
  (D26:Def K mg "parted" Fz ["one","other","size"])
  (D27:Def K mg "_law_cell" IC ["_law_script","_law_place"])
  (D28:Def K mg "_law_mix" PM ["_law_cell_here","_law_k"])
  (D29:Def K mg "_law_row" RP ["_law_script","_law_place","_law_sizes"])
  (D30:Def K mg "_law_traced" Gu ["_law_lows","_law_signs","_law_strands"])
  (D31:Def K mg "_law_turn_back" Zi ["_law_walks","_law_signs","_law_some"])
  (D32:Def K mg "_law_begun" GQ ["_law_script","_law_place"])
  (D33:Def K mg "_law_pairs" C4 ["_law_walks"])
  (D34:Def K mg "_law_straight" VP ["_law_signs","_law_top","_law_mid","_law_low"])
  (D35:Def K mg "_law_passes" JB ["_law_drawing"])
  (D36:Def K mg "_law_lay_in" GR ["_law_walks","_law_at","_law_k","_law_one","_law_two"])
  (D37:Def K mg "_law_cut_out" KD ["_law_walks","_law_at","_law_k"])
  (D38:Def K mg "_law_do" W1 ["_law_drawing","_law_move"])
  (D39:Def K mg "_law_new" PP ["_law_signs","_law_name"])
  (D40:Def K mg "_law_curl" IK ["_law_drawing","_law_some"])
  (D41:Def K mg "_law_lay" N8 ["_law_drawing","_law_some"])
  (D42:Def K mg "_law_next" LS ["_law_script","_law_place","_law_drawing","_law_word"])
  (D43:Def K mg "_law_chain" Bh ["_law_script","_law_place","_law_drawing","_law_words"])
  (D44:Def K mg "_law_copy" Ey ["_law_drawing"])
  (D45:Def K mg "_law_arcs" Fe ["_law_walks"])
  (D46:Def K mg "_law_count" G3 ["_law_drawing"])
  (D47:Def K mg "_law_meets" Vv ["_law_drawing"])
  (D48:Def K mg "_law_keeps" Bq ["_law_meetings","_law_table","_law_colours"])
  (D49:Def K mg "_law_all" NZ ["_law_drawing","_law_table"])
  (D50:Def K mg "_law_greatest" JE ["_law_drawings","_law_most"])
  (D51:Def K mg "_law_due" RB ["_law_one","_law_other","_law_size"])
  (D52:Def K mg "_law_same" LU ["_law_found","_law_due_here"])
  (a:W.nsIn K mainGlobals "law" =some (some (.ref f)))(l0:K.lookup f=some ⟨oc,od, .func (W.fnOf "law" "law" (YS KW) (X7 KW) (Xg KW) .none kV dc pm an cd ct),sl⟩)(c:W.codeIn K cd "law" =true)(k:W.keepIn K (.ref f)=true)
  (z1:W.nsIn K mainGlobals "abs" =some none)
  (z2:W.nsIn K mainGlobals "all" =some none)
  (z3:W.nsIn K mainGlobals "bool" =some none)
  (z4:W.nsIn K mainGlobals "dict" =some none)
  (z5:W.nsIn K mainGlobals "enumerate" =some none)
  (z6:W.nsIn K mainGlobals "int" =some none)
  (z7:W.nsIn K mainGlobals "isinstance" =some none)
  (z8:W.nsIn K mainGlobals "len" =some none)
  (z9:W.nsIn K mainGlobals "list" =some none)
  (z10:W.nsIn K mainGlobals "max" =some none)
  (z11:W.nsIn K mainGlobals "min" =some none)
  (z12:W.nsIn K mainGlobals "range" =some none)
  (z13:W.nsIn K mainGlobals "sorted" =some none)
  (z14:W.nsIn K mainGlobals "sum" =some none)
  (z15:W.nsIn K mainGlobals "tuple" =some none)
  (z16:W.nsIn K mainGlobals "zip" =some none)
  (w0:W.nsIn K mainGlobals "MOST_LISTS" =some (some (.int 65536 tk0)))
  (w1:W.nsIn K mainGlobals "MOST_OF_ALL" =some (some (.int 4 tk1)))
  :∃fd:FuncData,(∀(s:Shared) (v:Value),BindsTo s fd ⟨[v],[]⟩ [("_law_script",v)])/\∀base:Heap,K.In base->base.Ns mainGlobals mg->FnOk l.prog w K mg base CX0 9 fa fd ["_law_script"] (sp1 (rL Xf) (oF XO) Ip K):=by
 have e:=hfa.symm.trans (W.mg_of X G a)
 cases e
 have N:∀{x:Str},W.nsIn K mainGlobals x=some none->mg x=none:=λz=>PySem.W.mg_none_of X G z
 have Z:Blt mg:=⟨N z1,N z2,N z3,N z4,N z5,N z6,N z7,N z8,N z9,N z10,N z11,N z12,N z13,N z14,N z15,N z16,⟨_,W.mg_of X G w0,_,rfl⟩,⟨_,W.mg_of X G w1,_,rfl⟩⟩
 refine⟨W.fnOf "law" "law" (YS KW) (X7 KW) (Xg KW) .none kV dc pm an cd ct,λs v=>.of_eq rfl,λbase _ _=>?_⟩
 have qq:∀{L:Type}(F:Program->World->PySem.W.Frag->(Str->Option Value)->Heap->L->Prop)(m:L),F l.prog w K mg base m->F l.prog w K mg base m:=λ_ _ h=>h
 have cF:=qq Mb B9 <|Io.2 Z D27
 have dN:=qq S6 Oo <|Sr.2 Z D28
 have aQ:=qq Hl GB <|SO.2 Z D29 cF dN
 have b4:=qq Ft UB <|FH.2 Z D30
 have bi:=qq JV QV <|Ve.2 Z D31
 have bA:=qq Bw GN <|Cd.2 Z D32 aQ b4 bi
 have al:=qq Zm YW <|Qp.2 Z D1
 have av:=qq Y8 Qd <|Qe.2 Z D12
 have aE:=qq ZH Js <|Jc.2 Z D3
 have bh:=qq J1 UQ <|KN.2 Z D2 aE
 have au:=qq Y3 ZI <|ZP.2 Z D11
 have aN:=qq QW Vu <|Vf.2 Z D10 bh au
 have aF:=qq ZX Jk <|Jj.2 Z D5
 have aV:=qq Jm Uj <|Ug.2 Z D7
 have aG:=qq ZS Je <|Jr.2 Z D6 aV
 have ax:=qq Zl Qq <|Qv.2 Z D8
 have bX:=qq Fi EF <|EI.2 Z D4 aF aG ax
 have aP:=qq Ut YZ <|EK.2 Z D9 al av aN bX
 have aS:=qq UL Vx <|GA.2 Z D45
 have bJ:=qq Kj Qy <|UT.2 Z D47 aS
 have br:=qq FD VU <|CJ.2 Z D46 aS
 have cH:=qq D0 Fu <|Bz.2 Z D48
 have dO:=qq Pm KA <|S1.2 Z D49 bJ br cH
 have c6:=qq SS NS <|Pu.2 Z D51 aP dO
 have ai:=qq YO Ym <|Zh.2 Z D22
 have ag:=qq YX YB <|Ql.2 Z D16
 have aw:=qq QA ZQ <|JY.2 Z D15 ag
 have aO:=qq QG ZD <|QU.2 Z D25 al ai aw
 have aJ:=qq Qo Zn <|Qm.2 Z D17 ag
 have dn:=qq Ma Eu <|IY.2 Z D14 ag aJ
 have cC:=qq MO ED <|IV.2 Z D13
 have cD:=qq BB VM <|BI.2 Z D18 dn cC
 have dq:=qq IF ES <|MD.2 Z D19 cD
 have bv:=qq VZ JH <|V4.2 Z D20
 have aH:=qq ZW Za <|ZV.2 Z D23 bv
 have aW:=qq Q9 Qb <|Jf.2 Z D21 aw ai dq aH
 have cE:=qq HJ Z3 <|HL.2 Z D24 aW
 have aT:=qq Gx VH <|G4.2 Z D26 aO aP cE
 have bK:=qq Lj B0 <|H9.2 Z D52
 have b6:=qq M7 ID <|Pz.2 Z D39
 have dv:=qq Ly DS <|HN.2 Z D40 b6
 have cG:=qq Bk FG <|BN.2 Z D33
 have bw:=qq V1 JA <|VS.2 Z D34
 have b7:=qq GX UA <|Gs.2 Z D35 cG bw
 have fk:=qq Ro TB <|TH.2 Z D41 b6
 have dz:=qq Mo FU <|LQ.2 Z D42 aQ dv b7 fk
 have bn:=qq GO UE <|Gy.2 Z D36
 have bq:=qq UU Vg <|UX.2 Z D37
 have im:=qq Ab EY <|Tf.2 Z D38 bn bq
 have bT:=qq BE GD <|CZ.2 Z D43 aQ dz im
 have aX:=qq VL Qs <|VO.2 Z D50 br
 have b8:=qq Ii B5 <|Ih.2 Z D44
 exact Sj.2 (Q7 (st:=KW) l0 c k) bA aQ c6 aT bK bT aX b8 Z
theorem qv {l:PySem.W.OpenLaw}{q:Program}{cp:List Str}{XP:(Str->Option Value)->Heap->Prop}{YP:World->Heap->Prop}{d:DefRec}{K:Params->W.Frag}(hn:l.most=some 63)(i7:d.params.defaults=[])
  (hY:∀(w:World) (h:Heap),YP w h->(K w.params).In h)
  (F:∀(w:World) (mg:Str->Option Value) (fa:Addr) (h:Heap),(K w.params).In h->h.Ns mainGlobals mg->mg d.name=some (.ref fa)->
   ∃fd:FuncData,(∀(s:Shared) (u:Value),BindsTo s fd ⟨[u],[]⟩ [("_law_script",u)])/\∀base:Heap,(K w.params).In base->base.Ns mainGlobals mg->FnOk l.prog w (K w.params) mg base CX0 9 fa fd ["_law_script"] (sp1 (rL Xf) (oF XO) Ip (K w.params))):
  PySem.W.WalkO q cp XP YP l.row.toRowW d [] (λf vs=>PySem.call f vs):=
 L2.RV (n:=63) (k:=9) (x:="_law_script") (CX:=λ_=>CX0) (sp:=λw=>sp1 (rL Xf) (oF XO) Ip (K w.params)) hn (by decide) i7 ⟨rfl,by decide,by decide⟩ hY F (λ_ _ a ns hl _ hS=>⟨.ref a,ns,true,rfl,⟨a,_,rfl,hS,Cu ns⟩,Nf ns hl,λv C H' w m ho=>ho.2⟩) λ_ _ _ _ _ z=>z
end My
open PySem PySem.W PyProof.Rows
set_option maxRecDepth 100000 in
set_option maxHeartbeats 0 in
theorem PySem.Challenge.cw_plait_k76_parted_holds : PySem.Challenge.rw_plait_k76_parted.Holds := by
  w_on; o_law; k_head; (case hw => w_witness2)
  k_fill
  refine My.qv (l := PySem.Challenge.rw_plait_k76_parted) rfl rfl (fun w h Y => PySem.W.kIn_of Y) ?F
  case F =>
    intro w mg fa h KX G hmg
    apply My.Wq KX G hmg
    all_goals first | (apply My.qy KX G <;> first | k_is | (intros; rfl)) | (apply My.qI KX G <;> first | k_is | (intros; rfl)) | (apply My.qF KX G <;> first | k_is | (intros; rfl)) | (apply My.qR KX G <;> first | k_is | (intros; rfl)) | (apply My.qA KX G <;> first | k_is | (intros; rfl)) | k_is
