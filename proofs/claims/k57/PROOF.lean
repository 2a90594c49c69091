import PyProof.Rows.All
import Wide.All
import OpenK.AllK
import Wide.FinOn
import Lean
import PyProof.EqAt
import PyProof.EqKinds
import PyProof.TupleCall
import PySem.Challenge.RW_plait_k57_whole_joined_tables
set_option Elab.async false
set_option linter.all false
set_option maxRecDepth 100000
namespace PySem.W.Fast
def tw9887197448248782293:=0
def tw13264186709605477747:=0
def tw17374244290820251116:=0
def tw11116189730610369952:=0
def tw18105977902490418271:=0
def tw2210467081903395978:=0
def tw11050829356152291308:=0
def tw8080142641546678473:=0
def tw12120396396824858606:=0
def tw7319724638104271866:=0
def tw3544143015866309086:=0
def tw11778953938982429694:=0
def tw8172308167326889389:=0
def tw6375115465951402271:=0
def tw12701844673449712643:=0
def tw13365270455911473659:=0
def tw4008154039958937600:=0
def tw15921900282447452550:=0
def tw11958733394239348989:=0
def tw11626566413197954662:=0
def tw7561922929628193858:=0
def tw12352414651011760227:=0
def tw676002726374739354:=0
def tw5352630081404118837:=0
def tw18331877398759369794:=0
def tw15706018099395692064:=0
def tw17630246302560721897:=0
def tw2438827437838235755:=0
def tw7174797995564552707:=0
def tw14268299669631120895:=0
def tw13173908091727994419:=0
def tw5177446191284244716:=0
def tw17842236034743806010:=0
def tw15363519657582879173:=0
def tw10974490402998872556:=0
def tw9983431833836380168:=0
def tw950240286849642994:=0
def tw15419028971634878780:=0
def tw11669736706229648233:=0
def tw12099338775442292080:=0
def tw9247982415875911060:=0
def tw10286970304104082814:=0
def tw5546470474037661250:=0
def tw17150334604169867320:=0
def tw16260843536597752330:=0
def tw13516098513536325102:=0
def tw3333957471086025758:=0
def tw13284808997351266999:=0
def tw10362992180287348046:=0
def tw17724963187247637907:=0
def tw18264665569491858675:=0
def tw1801124202848006635:=0
def tw1384712777254434193:=0
def tw2041815383401804446:=0
def tw615811867448253989:=0
def tw5777742845856649106:=0
def tw17209764229493832439:=0
def tw190275729224160426:=0
def tw8264742060540373955:=0
def tw14247130987320159525:=0
def tw8135838381083604036:=0
def tw11185950300554646744:=0
def tw14666175644779240774:=0
def tw2198797774986843973:=0
def tw12559848731473477396:=0
def tw1655040682079144787:=0
def tw18298517447611240978:=0
def tw7396938600066445211:=0
def tw15746370605566619274:=0
def tw4603643804416018150:=0
def tw2400442594955934638:=0
def tw17737559652253820107:=0
def tw13666465504117484706:=0
def tw5620044903851710644:=0
def tw577449774394866268:=0
def tw17864755756837114463:=0
def tw15492601474950057817:=0
def tw10806518465690501419:=0
def tw2215278548236681440:=0
def tw11304396882089053924:=0
def tw11172532536244495353:=0
def tw13481820223255199601:=0
def tw5507080998281092781:=0
def tw11058720185734440646:=0
def tw7602111742912754120:=0
def tw13888920995950334402:=0
def tw8227276824166787480:=0
def tw9388264113748501754:=0
def tw14919027795592039306:=0
def tw4949700051962311589:=0
def tw2518853555771348084:=0
def tw11650164180644138130:=0
def tw18246959346776948923:=0
def tw14106123900073243072:=0
def tw5982335289981072975:=0
def tw14067874860598285714:=0
def tw14375946119253708232:=0
def tw9324226839945280533:=0
def tw9356636851626949709:=0
def tw16292783799217101484:=0
def tw8970553877612337179:=0
def tw1152798851065468012:=0
def tw687755306302089470:=0
def tw14106962760867196453:=0
def tw2796674908691407986:=0
def tw17515926565363590415:=0
def tw7203589258257679146:=0
def tw3760136954068877325:=0
def tw18176529039871673979:=0
def tw8703662321648563511:=0
def tw8106813928081826728:=0
def tw9934113907383487593:=0
def tw9176748856156125626:=0
def tw4851088733987542188:=0
def tw14610431804535845130:=0
def tw4954181998170400822:=0
def tw1508628172692169462:=0
def tw17276079086055781881:=0
def tw11668596982064742643:=0
def tw17336045552028301536:=0
def tw13082669912184584750:=0
def tw6998455495536313627:=0
def tw7865024853813670688:=0
def tw7413180847654803650:=0
def tw11826594462529924670:=0
def tw8854598000023319525:=0
def tw13645305121900999138:=0
def tw15782766776651172546:=0
def tw17277986784695078431:=0
def tw705454994749120782:=0
def tw302890105003934072:=0
def tw14444026825145744359:=0
def tw1932278710171511216:=0
def tw17731893705204615863:=0
def tw1803823031000449055:=0
def tw333547614226480485:=0
def tw2176440372213608023:=0
def tw9052342158060277304:=0
def tw10713754152138039494:=0
def tw7296724948275360254:=0
def tw9365846371929659793:=0
def tw13136601582352587519:=0
def tw11666691798318188970:=0
def tw11419511111260229245:=0
def tw7556318237583838609:=0
def tw15378296419414375886:=0
def tw13252089069860179446:=0
def tw15808667898454958529:=0
def tw13928690682183381568:=0
def tw13559378074983197181:=0
def tw2535077041069771559:=0
def tw3419366622937349852:=0
def tw2900283366925811085:=0
def tw9729214941171967832:=0
def tw3523754285661366417:=0
def tw15590589818531906858:=0
def tw2947339364590669841:=0
def tw15663663422813296178:=0
def tw2907114787289143099:=0
def tw11636665536369735350:=0
def tw8273335497186316872:=0
def tw4241085739430316926:=0
def tw17440477766873352077:=0
def tw7473002009510246206:=0
def tw13742399999070949797:=0
def tw6374358142892755199:=0
def tw6654846307873291339:=0
def tw3383371127271933972:=0
def tw14550185120239999861:=0
def tw17326592531633804715:=0
def tw12531939488707214861:=0
def tw14447527431117140800:=0
def tw1432489859173987963:=0
def tw5433505267427887458:=0
def tw3300403278969295675:=0
def tw5622812906612263527:=0
def tw14950176069852650436:=0
def tw14225126028445410101:=0
def tw1852506658592532661:=0
def tw6747639031822779773:=0
def tw8709568266622642545:=0
def tw2451777984439321207:=0
def tw15142820627943325505:=0
def tw3349321654841271463:=0
def tw15823674373075374631:=0
def tw16922400022303570161:=0
def tw503361227466244301:=0
def tw8575876829930899142:=0
def tw1387309643409307426:=0
def tw6759806821615131968:=0
def tw6106385755602658865:=0
def tw3097383641426579903:=0
def tw13548174982836640602:=0
def tw9994030097638751882:=0
def tw7628380158538964661:=0
def tw1595848242266958433:=0
def tw3519929550621892590:=0
def tw6817858811724523265:=0
def tw2049487447129742497:=0
def tw7313050133480152383:=0
def tw1296766713360085550:=0
def tw10587925804691030049:=0
def tw13640068177362789888:=0
def tw6621503620329563635:=0
def tw17531295162155613749:=0
def tw16618854397082066955:=0
def tw3324764213109863390:=0
def tw4553277730047489376:=0
def tw12464250537900771684:=0
def tw11127925242209673285:=0
def tw11748747526265772149:=0
def tw12962057487314803375:=0
def tw15098791782224000939:=0
def tw9057665113904870271:=0
def tw1603352050110440825:=0
def tw236895172586691635:=0
def tw3718765135647623065:=0
def tw17965248829036714990:=0
def tw10188585314709224332:=0
def tw16500246172150831551:=0
def tw15133096791164278177:=0
def tw14343578706824717192:=0
def tw14571618645200659972:=0
def tw15592624541326812566:=0
def tw16552281537155308480:=0
def tw10678711242742558504:=0
def tw14973623501707570419:=0
def tw8471261507719399848:=0
def tw4868803514551455615:=0
def tw11487219438297390745:=0
def tw4852454408164874979:=0
def tw3260023230834534204:=0
def tw7037157276027192825:=0
def tw7002819156052769640:=0
def tw13587888519507281935:=0
def tw3396066339947433802:=0
def tw16452011833782971746:=0
def tw9649813369227365165:=0
def tw2162997233198657301:=0
def tw8134729268798760037:=0
def tw10474355005517875397:=0
def tw14393743911752588453:=0
def tw39388829548605944:=0
def tw9554269985853568241:=0
def tw18419349781398301539:=0
def tw2574503619546539493:=0
def tw8722770096419741672:=0
def tw8918513123343297597:=0
def tw8316011263336346178:=0
def tw2591288606742661646:=0
def tw13633069649095166290:=0
def tw7290294517213458423:=0
def tw17870342452329342688:=0
def tw9865697406545935564:=0
def tw2639817685627983929:=0
def tw7520994155181290409:=0
def tw3162826690470951332:=0
def tw11069564128514420755:=0
def tw208574427961119667:=0
def tw1920891772710478847:=0
def tw9247282234159359898:=0
def tw7424947910106653416:=0
def tw10626184587740950019:=0
def tw6280387023767415956:=0
def tw261313520505402291:=0
def tw8710778754654757825:=0
def tw1443261996640835280:=0
def tw17224074244205529885:=0
def tw2355370954380995456:=0
def tw7816734702950331401:=0
def tw17292386941439947474:=0
def tw14576569789118070492:=0
def tw4914159196738030666:=0
def tw4399460136564701953:=0
def tw11627277761325363450:=0
def tw11200490268900554003:=0
def tw13688514450770192665:=0
def tw9194350033519658246:=0
def tw10922779946871625871:=0
def tw12630875867707036754:=0
def tw9736459930971202576:=0
def tw15374356793517154299:=0
def tw11601124274026080292:=0
def tw6580646739513761099:=0
def tw10557421053765566995:=0
def tw1017057868438778446:=0
def tw16458858969298734401:=0
def tw4620823305488989872:=0
def tw1776292701370118888:=0
def tw2743249164688330767:=0
end PySem.W.Fast
set_option maxHeartbeats 4000000
namespace L2
open PySem PySem.Spec PyProof.Rows
noncomputable abbrev Key:=Sum Int Str
noncomputable def C0:Key->Value->Bool
 | .inl k,v=>Value.isInt k v
 | .inr x,v=>Value.isStrOf x v
noncomputable def RJ (w:World):Key->Int
 | .inl k=>hashInt k
 | .inr x=>hashStr w x
theorem Yc:∀{k:Key}{v:Value},C0 k v=true->(∃i t,k=Sum.inl i/\v=Value.int i t)∨(∃x t,k=Sum.inr x/\v=Value.str x t)
 | .inl i,v,h=>by
  obtain⟨t,e⟩:=Value.isInt_shape (k:=i) (v:=v) h
  exact .inl ⟨i,t,rfl,e⟩
 | .inr x,v,h=>by
  obtain⟨t,e⟩:=Value.isStrOf_shape (x:=x) (v:=v) h
  exact .inr ⟨x,t,rfl,e⟩
theorem EE (i:Int)(t:Tok):C0 (.inl i) (.int i t)=true:=by simp[C0,Value.isInt]
theorem BD (x:Str)(t:Tok):C0 (.inr x) (.str x t)=true:=by simp[C0,Value.isStrOf]
theorem Od (a b:Int):decide ((Sum.inl a:Key)=Sum.inl b)=(a==b):=by
 by_cases e:a=b
 ·subst e;simp
 ·have h:¬(Sum.inl a:Key)=Sum.inl b:=λq=>e (Sum.inl.inj q)
  rw[decide_eq_false h]
  exact(beq_eq_false_iff_ne.mpr e).symm
theorem Oy (a b:Str):decide ((Sum.inr a:Key)=Sum.inr b)=decide (a=b):=by
 by_cases e:a=b
 ·subst e;simp
 ·have h:¬(Sum.inr a:Key)=Sum.inr b:=λq=>e (Sum.inr.inj q)
  rw[decide_eq_false h,decide_eq_false e]
theorem OR (a:Int)(b:Str):decide ((Sum.inl a:Key)=Sum.inr b)=false:=decide_eq_false (λq=>nomatch q)
theorem N3 (a:Str)(b:Int):decide ((Sum.inr a:Key)=Sum.inl b)=false:=decide_eq_false (λq=>nomatch q)
noncomputable def YD (prog:Program)(w:World):PySem.KeyKind prog w Key where
 is:=C0
 hash:=RJ w
 inj:=λv a b ha hb=>by
  rcases Yc ha with⟨i,t,rfl,rfl⟩ | ⟨x,t,rfl,rfl⟩
  ·rcases Yc hb with⟨j,u,rfl,e⟩ | ⟨y,u,rfl,e⟩
   ·injection e with e1 _;rw[e1]
   ·exact nomatch e
  ·rcases Yc hb with⟨j,u,rfl,e⟩ | ⟨y,u,rfl,e⟩
   ·exact nomatch e
   ·injection e with e1 _;rw[e1]
 byValue:=λk v h=>by
  rcases Yc h with⟨i,t,rfl,rfl⟩ | ⟨x,t,rfl,rfl⟩<;> rfl
 pyHash:=λhv h=>by
  rcases Yc hv with⟨i,t,rfl,rfl⟩ | ⟨x,t,rfl,rfl⟩
  ·exact wpAny_pyHash_int h
  ·exact wpAny_pyHash_str h
 eqBool:=λhu hv h=>by
  rcases Yc hu with⟨i,t,rfl,rfl⟩ | ⟨x,t,rfl,rfl⟩
  ·rcases Yc hv with⟨j,u,rfl,rfl⟩ | ⟨y,u,rfl,rfl⟩
   ·rw[Od] at h;exact wpAny_eqBool_int h
   ·rw[OR] at h;exact SeqAt.EqAt.int_str i t y u _ _ _ _ h
  ·rcases Yc hv with⟨j,u,rfl,rfl⟩ | ⟨y,u,rfl,rfl⟩
   ·rw[N3] at h;exact SeqAt.EqAt.str_int x t j u _ _ _ _ h
   ·rw[Oy] at h;exact wpAny_eqBool_str h
 «strs»:=λk x t v h=>by
  rcases Yc h with⟨i,u,rfl,e⟩ | ⟨y,u,rfl,e⟩
  ·exact nomatch e
  ·injection e with e1 _
   subst e1
   cases v<;> rfl
theorem FD (prog:Program)(w:World)(i:Int)(t:Tok):(YD prog w).is (.inl i) (.int i t)=true:=EE i t
theorem GY (prog:Program)(w:World)(x:Str)(t:Tok):(YD prog w).is (.inr x) (.str x t)=true:=BD x t
inductive V where
 |non |bl (b:Bool) |int (i:Int) |str (x:Str) |byt (b:Array UInt8) |flt (b:UInt64) |ref (a:Addr) |ty (n:String)
 deriving DecidableEq
noncomputable def X4:V->Value->Prop
 | .non,u=>u=Value.none
 | .bl b,u=>u=Value.bool b
 | .int i,u=>∃ t,u=Value.int i t
 | .str x,u=>∃ t,u=Value.str x t
 | .byt b,u=>∃ t,u=Value.bytes b t
 | .flt b,u=>∃ t,u=Value.float b t
 | .ref a,u=>u=Value.ref a
 | .ty n,u=>u=Value.type n
noncomputable abbrev Ya:List V->List Value->Prop:=Paired X4
theorem Ya.length {xs:List V}{us:List Value}(r:Ya xs us):xs.length=us.length:=Paired.length r
theorem Ya.get:∀{xs:List V}{us:List Value}{i:Nat}{x:V},Ya xs us->xs[i]?=some x->∃u,us[i]?=some u/\X4 x u
 |_,_,_,_, .nil,e=>by simp at e
 |_,_,0,_, .cons r _,e=>by simp at e;subst e;exact⟨_,rfl,r⟩
 |_,_,i+1,x, .cons _ t,e=>by
  obtain⟨u,h1,h2⟩:=Ya.get (i:=i) (x:=x) t (by simpa using e)
  exact⟨u,by simpa using h1,h2⟩
theorem Ya.set {x:V}{u:Value}(r:X4 x u):∀{xs:List V}{us:List Value} (i:Nat),Ya xs us->Ya (xs.set i x) (us.set i u)
 |_,_,_, .nil=>.nil
 |_,_,0, .cons _ t=>.cons r t
 |_,_,i+1, .cons q t=>.cons q (Ya.set r i t)
theorem Ya.append:∀{xs ys:List V}{us ws:List Value},Ya xs us->Ya ys ws->Ya (xs++ys) (us++ws):=λp s=>by
 induction p with
 |nil=>exact s
 |cons r _ ih=>exact .cons r ih
theorem Ya.take:∀{xs:List V}{us:List Value} (n:Nat),Ya xs us->Ya (xs.take n) (us.take n)
 |_,_,0,_=>.nil
 |_,_,_+1, .nil=>.nil
 |_,_,n+1, .cons r t=>.cons r (Ya.take n t)
theorem Ya.drop:∀{xs:List V}{us:List Value} (n:Nat),Ya xs us->Ya (xs.drop n) (us.drop n)
 |_,_,0,r=>r
 |_,_,_+1, .nil=>.nil
 |_,_,n+1, .cons _ t=>Ya.drop n t
noncomputable def ET:Option V->Option Value->Prop
 |some v,some u=>X4 v u
 |none,none=>True
 |_,_=>False
noncomputable def KV {κ:Type}:List (κ×V)->List (κ×Value)->Prop:=Paired λ(p:κ×V) (q:κ×Value)=>p.1=q.1/\X4 p.2 q.2
noncomputable def kV:Key->V
 | .inl i=>.int i
 | .inr x=>.str x
inductive HO where
 /-- a list -/
 |lst (xs:List V)
 /-- a tuple (never changes) -/
 |tup (xs:List V)
 /-- a dict whose keys are ints and texts; one whose keys are tuples of ints and texts (the empty one is both) -/
 |dK (kvs:List (Key×V)) |dT (kvs:List (List Key×V))
 /-- a set of ints: its members, its size -/
 |set (S:Int->Bool) (n:Nat)
 /-- an instance of the class at C, its dict at dx, its attributes -/
 |ins (C dx:Addr) (fs:List (Str×V))
 /-- the dict of the instance at x -/
 |own (x:Addr)
 /-- the dict of an exception -/
 |xd (fs:List (Str×V))
 /-- a bound method, f of x -/
 |met (f x:Addr)
 /-- a range object lo, lo + 1, .. below hi -/
 |rng (lo hi:Int)
 /-- a thing that is known to the object (the script; a dict while a loop walks it): read, never written while it is so -/
 |frz (o:Obj) (u:HO)
 /-- a code object's table -/
 |tbl (ps:Array Value)
 /-- any other thing, by what is true of its one object (a def of one's own: SetO a S n:=HO.ext λh=>..) -/
 |ext (φ:Heap->Prop)
noncomputable abbrev Hp:=Addr->Option HO
noncomputable def upd (H:Hp)(a:Addr)(o:HO):Hp:=λb=>if b=a then some o else H b
theorem Yd {H:Hp}{a:Addr}{o:HO}:upd H a o a=some o:=by unfold upd;rw[if_pos rfl]
theorem XL {H:Hp}{a b:Addr}{o:HO}(h:b≠a):upd H a o b=H b:=by unfold upd;rw[if_neg h]
theorem PV {H:Hp}{a b:Addr}{o u:HO}(h:H a=some o)(h':H b=some u)(d:o≠u):a≠b:=by
 intro e;subst e;rw[h] at h';exact d (Option.some.inj h')
theorem XR {H:Hp}{a b:Addr}{o:HO}(h:H a=some o)(h':H b=none):a≠b:=by
 intro e;subst e;rw[h] at h';cases h'
noncomputable def Vt (h:Heap)(a:Addr)(items:Array Value):Prop:=∃ o,h.get? a=some o/\(o.cls= .type "tuple" /\o.dict=none)/\∃n,o.data= .seq items n
theorem Vt.t {h:Heap}{a:Addr}{items:Array Value}(x:Vt h a items):IsTup h a items:=let ⟨o,ho,c,r⟩:=x;⟨o,ho,c.1,r⟩
theorem Vt.new (h:Heap)(items:Array Value):Vt (h.push {cls:=.type "tuple",data:=.seq items}) h.objs.size items:=⟨_,Heap.get?_push_size _ rfl,⟨rfl,rfl⟩,_,rfl⟩
section
variable (P:Program)(w:World)
noncomputable def YG (H:Hp)(h:Heap)(a:Addr):HO->Prop
 | .lst xs=>xs.length<=sizeLine/\∃(its:List Value) (n:Nat),Ya xs its/\h.get? a=some {cls:=.type "list",data:=.seq its.toArray n}
 | .tup xs=>xs.length<=sizeLine/\∃its:List Value,Ya xs its/\Vt h a its.toArray
 | .dK kvs=>kvs.length<=sizeLine/\(a==sysModules)=false/\∃vs,KV kvs vs/\h.DictOf (YD P w) a vs
 | .dT kvs=>kvs.length<=sizeLine/\(a==sysModules)=false/\∃xs:List (List Key×Addr×Value),
   Paired (λ(p:List Key×V) (q:List Key×Addr×Value)=>p.1=q.1/\H q.2.1=some (.tup (p.1.map kV))/\X4 p.2 q.2.2) kvs xs/\
   ∃o es ep,h.get? a=some o/\o.ExactDict/\o.data= .dict es ep/\es.toList=xs.map (entryOfKey (tupleKind (YD P w)))/\(xs.map (·.1)).Nodup
 | .set S n=>h.SetOf (intKind P w) a S n
 | .ins C dx fs=>H dx=some (.own a)/\fs.length<=1000/\dx≠a/\h.get? a=some (PySem.W.instObj C dx)/\
   ∃mA,h.Ns1 dx mA/\(∀f,ET (fs.lookup f) (mA f))/\PySem.Within mA (fs.map (·.1))
 | .own _=>∃ o,h.get? a=some o
 | .xd fs=>∃ mA,h.Ns1 a mA/\∀f,ET (fs.lookup f) (mA f)
 | .rng lo hi=>∃ t u v,h.get? a=some {cls:=.type "range",data:=.fields #[.int lo t, .int hi u, .int 1 v]}
 | .frz o u=>h.get? a=some o/\YG H h a u
 | .tbl ps=>h.get? a=some {cls:=.none,data:=.fields ps}
 | .met f x=>h.get? a=some (PySem.W.methodObj (.ref f) (.ref x))
 | .ext φ=>φ h/\(∃o,h.get? a=some o)/\∀h1 h2:Heap,φ h1->(∀o,h1.get? a=some o->h2.get? a=some o)->φ h2
noncomputable def HOk (H:Hp)(h:Heap):Prop:=∀ a o,H a=some o->YG P w H h a o
end
section
variable {P:Program}{w:World}{H H':Hp}{h h':Heap}{a:Addr}{o:HO}
theorem YG.lt (x:YG P w H h a o):a<h.objs.size:=by
 cases o with
 |lst xs=>obtain⟨_,_,_,_,e⟩:=x;exact Heap.lt_size e
 |tup xs=>obtain⟨_,_,_,p⟩:=x;exact p.t.lt
 |dK kvs=>obtain⟨_,_,_,_,o,_,_,e,_⟩:=x;exact Heap.lt_size e
 |dT kvs=>obtain⟨_,_,_,_,o,_,_,e,_⟩:=x;exact Heap.lt_size e
 |set S n=>obtain⟨o,_,_,_,e,_⟩:=x;exact Heap.lt_size e
 |ins C dx fs=>obtain⟨_,_,_,e,_⟩:=x;exact Heap.lt_size e
 |own y=>obtain⟨_,e⟩:=x;exact Heap.lt_size e
 |xd fs=>obtain⟨_,⟨_,_,_,e,_⟩,_⟩:=x;exact Heap.lt_size e
 |rng lo hi=>obtain⟨_,_,_,e⟩:=x;exact Heap.lt_size e
 |frz ob u=>obtain⟨e,_⟩:=x;exact Heap.lt_size e
 |tbl ps=>exact Heap.lt_size (show h.get? a=some _ from x)
 |met f y=>exact Heap.lt_size (show h.get? a=some _ from x)
 |ext φ=>obtain⟨_,⟨_,e⟩,_⟩:=x;exact Heap.lt_size e
theorem Paired.mapP {α β:Type}{F G:α->β->Prop}:∀{l₁:List α}{l₂:List β},Paired F l₁ l₂->(∀a b,F a b->G a b)->Paired G l₁ l₂:=λp f=>by
 induction p with
 |nil=>exact .nil
 |cons r _ ih=>exact .cons (f _ _ r) ih
theorem YG.stay (x:YG P w H h a o)(k:∀b u,(b=a∨H b=some (.own a))->h.get? b=some u->h'.get? b=some u)
  (ho:∀b,H b=some (.own a)->H' b=some (.own a))(ht:∀b xs,H b=some (.tup xs)->H' b=some (.tup xs)):YG P w H' h' a o:=by
 induction o with
 |lst xs=>obtain⟨z,its,n,r,e⟩:=x;exact⟨z,its,n,r,k _ _ (.inl rfl) e⟩
 |tup xs=>obtain⟨z,its,r,ob,e,c⟩:=x;exact⟨z,its,r,ob,k _ _ (.inl rfl) e,c⟩
 |dK kvs=>obtain⟨z,y,vs,r,ob,es,ep,e,c⟩:=x;exact⟨z,y,vs,r,ob,es,ep,k _ _ (.inl rfl) e,c⟩
 |dT kvs=>
  obtain⟨z,y,xs,r,ob,es,ep,e,c⟩:=x
  exact⟨z,y,xs,Paired.mapP r λp q z=>⟨z.1,ht _ _ z.2.1,z.2.2⟩,ob,es,ep,k _ _ (.inl rfl) e,c⟩
 |set S n=>obtain⟨ob,es,ep,t,e,c⟩:=x;exact⟨ob,es,ep,t,k _ _ (.inl rfl) e,c⟩
 |ins C dx fs=>
  obtain⟨d,z,ne,e,mA,⟨od,es,ep,e2,c⟩,r⟩:=x
  exact⟨ho _ d,z,ne,k _ _ (.inl rfl) e,mA,⟨od,es,ep,k _ _ (.inr d) e2,c⟩,r⟩
 |own y=>obtain⟨ob,e⟩:=x;exact⟨ob,k _ _ (.inl rfl) e⟩
 |xd fs=>obtain⟨mA,⟨od,es,ep,e,c⟩,r⟩:=x;exact⟨mA,⟨od,es,ep,k _ _ (.inl rfl) e,c⟩,r⟩
 |rng lo hi=>obtain⟨t,u,v,e⟩:=x;exact⟨t,u,v,k _ _ (.inl rfl) e⟩
 |frz ob u ih=>obtain⟨e,q⟩:=x;exact⟨k _ _ (.inl rfl) e,ih q⟩
 |tbl ps=>
  have e:h.get? a=some {cls:=.none,data:=.fields ps}:=x
  show h'.get? a=some {cls:=.none,data:=.fields ps}
  exact k a _ (.inl rfl) e
 |met f y=>
  have e:h.get? a=some (PySem.W.methodObj (.ref f) (.ref y)):=x
  show h'.get? a=some (PySem.W.methodObj (.ref f) (.ref y))
  exact k a _ (.inl rfl) e
 |ext φ=>obtain⟨p,⟨o,e⟩,st⟩:=x;exact⟨st _ _ p λo q=>k _ _ (.inl rfl) q,⟨o,k _ _ (.inl rfl) e⟩,st⟩
theorem HOk.lt (x:HOk P w H h)(e:H a=some o):a<h.objs.size:=(x a o e).lt
theorem HOk.fresh (x:HOk P w H h)(e:h.objs.size<=a):H a=none:=by
 cases q:H a with
 |none=>rfl
 |some u=>exact absurd (Nat.lt_of_lt_of_le (x.lt q) e) (Nat.lt_irrefl _)
theorem HOk.kept (x:HOk P w H h)(k:∀b u,h.get? b=some u->h'.get? b=some u):HOk P w H h':=λa o e=>
 (x a o e).stay (λb u _ q=>k b u q) (λ_ q=>q) λ_ _ q=>q
theorem HOk.laid (x:HOk P w H h)(k:∀b u,h.get? b=some u->h'.get? b=some u)(hp:h.objs.size<=a)(new:YG P w (upd H a o) h' a o):HOk P w (upd H a o) h':=λb u e=>by
 have hn:=x.fresh hp
 by_cases hb:b=a
 ·subst hb;rw[Yd] at e;cases e;exact new
 ·rw[XL hb] at e
  exact(x b u e).stay (λc v _ q=>k c v q) (λc q=>by rw[XL (XR q hn)];exact q) λc xs q=>by rw[XL (XR q hn)];exact q
end
noncomputable def Rd (H:Hp)(a:Addr)(u:HO):Prop:=H a=some u∨∃o,H a=some (.frz o u)
theorem Rd.ok {P:Program}{w:World}{H:Hp}{h:Heap}{a:Addr}{u:HO}(r:Rd H a u)(x:HOk P w H h):YG P w H h a u:=by
 rcases r with r | ⟨o,r⟩
 ·exact x a u r
 ·obtain⟨_,q⟩:=x a _ r
  exact q
noncomputable def Mut:Option HO->Prop
 |some (.lst _)=>True
 |some (.dK _)=>True
 |some (.dT _)=>True
 |some (.set _ _)=>True
 |some (.ins _ _ _)=>True
 |some (.ext _)=>True
 |_=>False
section
variable {P:Program}{w:World}{H:Hp}{h h':Heap}{x e:Addr}{o':HO}
theorem HOk.write (ok:HOk P w H h)(mu:Mut (H x))(he:e=x∨H e=some (.own x))(k:∀b u,b≠e->h.get? b=some u->h'.get? b=some u)(heo:∃u,h'.get? e=some u)
  (new:YG P w (upd H x o') h' x o'):HOk P w (upd H x o') h':=λb u q=>by
 have nown:∀c y,H c=some (.own y)->c≠x:=λc y r z=>by subst z;rw[r] at mu;exact mu
 have ntup:∀c xs,H c=some (.tup xs)->c≠x:=λc xs r z=>by subst z;rw[r] at mu;exact mu
 by_cases hb:b=x
 ·subst hb;rw[Yd] at q;cases q;exact new
 ·rw[XL hb] at q
  by_cases hbe:b=e
  ·have q':H b=some (.own x):=by
    rcases he with z |z
    ·exact absurd (hbe.trans z) hb
    ·rw[hbe];exact z
   rw[q] at q';cases q'
   obtain⟨v,hv⟩:=heo
   exact⟨v,by rw[hbe];exact hv⟩
  ·refine(ok b u q).stay (λc v hc r=>k c v ?_ r) (λc r=>by rw[XL (nown c b r)];exact r) λc xs r=>by rw[XL (ntup c xs r)];exact r
   rcases hc with rfl |hc
   ·exact hbe
   ·rintro rfl
    rcases he with z |z
    ·exact nown c b hc z
    ·rw[hc] at z;cases z;exact hb rfl
end
structure Un (fs ex:List Addr)(H H':Hp)(h h':Heap):Prop where
 keep:∀b o,h.get? b=some o->H b=none->b∉fs->b∉ex->h'.get? b=some o
 slot:∀b o,h.get? b=some o->H b=none->b∈fs->b∉ex->∃sl,h'.get? b=some {o with slots:=sl}
 free:∀b o,h.get? b=some o->H b=none->b∉ex->H' b=none
 there:∀b o,h.get? b=some o->b∉ex->∃o',h'.get? b=some o'
 tups:∀b xs,H b=some (.tup xs)->H' b=some (.tup xs)
 frzs:∀b o u,H b=some (.frz o u)->H' b=some (.frz o u)
 tbls:∀b ps,H b=some (.tbl ps)->∃more,H' b=some (.tbl (ps++more))
section
variable {fs fs' ex ex':List Addr}{H H1 H2:Hp}{h h1 h2 h':Heap}{a x e:Addr}{o:HO}
theorem Un.any (u:Un fs ex H H1 h h1){b:Addr}{ob:Obj}(q:h.get? b=some ob)(n:H b=none)(hx:b∉ex):∃sl,h1.get? b=some {ob with slots:=sl}:=by
 by_cases hb:b∈fs
 ·exact u.slot b ob q n hb hx
 ·exact⟨ob.slots,u.keep b ob q n hb hx⟩
theorem Un.kept (k:∀b u,h.get? b=some u->h'.get? b=some u):Un fs ex H H h h':=
 ⟨λb ob q _ _ _=>k b ob q,λb ob q _ _ _=>⟨ob.slots,k b ob q⟩,λ_ _ _ n _=>n,λb ob q _=>⟨ob,k b ob q⟩,λ_ _ q=>q,λ_ _ _ q=>q,λ_ ps q=>⟨#[],by rw[q];simp⟩⟩
theorem Un.refl:Un fs ex H H h h:=Un.kept λ_ _ q=>q
theorem Un.laid (k:∀b u,h.get? b=some u->h'.get? b=some u)(hp:h.objs.size<=a)(hn:H a=none):Un fs ex H (upd H a o) h h' where
 keep:=λb u q _ _ _=>k b u q
 slot:=λb u q _ _ _=>⟨u.slots,k b u q⟩
 free:=λb u q n _=>by rw[XL (Nat.ne_of_lt (Nat.lt_of_lt_of_le (Heap.lt_size q) hp))];exact n
 there:=λb u q _=>⟨u,k b u q⟩
 tups:=λb xs q=>by rw[XL (XR q hn)];exact q
 frzs:=λb u xs q=>by rw[XL (XR q hn)];exact q
 tbls:=λb ps q=>⟨#[],by rw[XL (XR q hn),q];simp⟩
theorem Un.write (mu:Mut (H x))(he:e=x∨H e=some (.own x))(k:∀b u,b≠e->h.get? b=some u->h'.get? b=some u)(heo:∃u,h'.get? e=some u):Un fs ex H (upd H x o) h h':=by
 have hx:∀b,H b=none->b≠x:=λb n z=>by subst z;rw[n] at mu;exact mu
 have hb:∀b,H b=none->b≠e:=λb n z=>by
  subst z
  rcases he with r |r
  ·exact hx b n r
  ·rw[n] at r;cases r
 have hm:∀b u,H b=some u->¬Mut (some u)->b≠x:=λb u q nm z=>by subst z;rw[q] at mu;exact nm mu
 refine⟨λb u q n _ _=>k b u (hb b n) q,λb u q n _ _=>⟨u.slots,k b u (hb b n) q⟩,λb u q n _=>by rw[XL (hx b n)];exact n,λb u q _=>?_,
  λb xs q=>by rw[XL (hm b _ q λz=>z)];exact q,λb u xs q=>by rw[XL (hm b _ q λz=>z)];exact q,λb ps q=>⟨#[],by rw[XL (hm b _ q λz=>z),q];simp⟩⟩
 by_cases hbe:b=e
 ·subst hbe;exact heo
 ·exact⟨u,k b u hbe q⟩
end
noncomputable def trk (h:Heap)(H:Hp):List Addr:=(List.range h.objs.size).filter λa=>(H a).isSome
noncomputable def HJ (h:Heap)(H:Hp):Heap:=PySem.W.hideAll h (trk h H)
theorem Bo (h:Heap)(H:Hp):(HJ h H).objs.size=h.objs.size:=PySem.W.hideAll_size _ _
theorem Io {h:Heap}{H:Hp}{b:Addr}{o:Obj}(e:h.get? b=some o)(n:H b=none):(HJ h H).get? b=some o:=
 PySem.W.hideAll_get _ e λhm=>by
  have q:(H b).isSome=true:=(List.mem_filter.mp hm).2
  rw[n] at q;simp at q
theorem Nw {h:Heap}{H:Hp}{b:Addr}{o:Obj}(e:(HJ h H).get? b=some o):h.get? b=some o/\H b=none:=by
 have e':h.get? b=some o:=PySem.W.of_hideAll (trk h H) e
 refine⟨e',?_⟩
 cases q:H b with
 |none=>rfl
 |some x=>
  have hm:b∈trk h H:=List.mem_filter.mpr ⟨List.mem_range.mpr (Heap.lt_size e'),by simp[q]⟩
  have z:(HJ h H).get? b=none:=PySem.W.hideAll_none (trk h H) hm
  rw[z] at e;cases e
noncomputable def Nt (g h:Heap)(L:Addr):List (Addr×Obj):=(List.range h.objs.size).filterMap λa=>if a=L∨(g.get? a).isSome=true then none else(h.get? a).map λo=>(a,o)
noncomputable def rest (g h:Heap)(L d:Addr):List (Addr×Obj):=(Nt g h L).filter λp=>decide (p.1≠d)
structure Mod (K:PySem.W.Frag)(mg:Str->Option Value)(base:Heap):Prop where
 kin:K.In base
 glob:base.Ns mainGlobals mg
 blt:∃mb,base.Ns builtinsNs mb/\∀x:Str,x≠ "__name__" ->mb x=bootBuiltins x
 nolimit:base.NoLimit
structure Cx where
 prog:Program
 w:World
 K:PySem.W.Frag
 mg:Str->Option Value
 base:Heap
 A:Around
 N:List Str
 s₀:Shared
 H₀:Hp
 env:Env
 outer:List Env
 stack:List Env
 ex:List Addr
 fn:Str->Bool
 calm:Bool
 pn:List (Addr×Obj)
 xe:Value->Shared->Prop
noncomputable def frs (l:List Env):List Addr:=l.filterMap (·.frame)
noncomputable abbrev Cx.fs (X:Cx):List Addr:=frs X.outer
noncomputable def Vis (sc:Scope)(x:Str):Prop:=sc.names.lookup x=some .local∨sc.names.lookup x=some .cell∨sc.names.lookup x=some .free
noncomputable def Loc (sc:Scope)(x:Str):Prop:=sc.names.lookup x=some .local∨sc.names.lookup x=some .cell
noncomputable def RT (env:Env)(h:Heap)(m:Str->Option Value)(x:Str)(u:Value):Prop:=
 (env.kindOf x=some .local/\m x=some u)∨((env.kindOf x=some .cell∨env.kindOf x=some .free)/\∃c,env.cells.lookup x=some c/\h.IsCell c (some u))
structure Cx.Ok (X:Cx):Prop where
 mod:Mod X.K X.mg X.base
 kind:X.env.scope.kind= .function
 glob:X.env.globals=mainGlobals
 blt:X.env.builtins=builtinsNs
 above:X.s₀.heap.objs.size<=X.env.locals
 inj:∀x y c,X.env.cells.lookup x=some c->X.env.cells.lookup y=some c->x=y
 has:∀x,(X.env.kindOf x=some .cell∨X.env.kindOf x=some .free)->∃c,X.env.cells.lookup x=some c
 cab:∀x c,X.fn x=true->X.env.cells.lookup x=some c->X.s₀.heap.objs.size<=c
 hd:X.calm=true->X.A.handled=none
 frames:X.A.frames=some X.stack
 stk:X.stack=X.outer∨(X.stack=X.env::X.outer/\X.env.frame=some X.env.locals)
 exf:∀b∈X.ex,b≠X.env.locals/\∀x c,X.env.cells.lookup x=some c->c≠b
 bs:∀b o,X.base.get? b=some o->X.s₀.heap.get? b=some o/\X.H₀ b=none
 bsz:X.base.objs.size<=X.s₀.heap.objs.size
 noex:∀b o,X.base.get? b=some o->b∉X.ex
 exfs:∀b∈X.ex,b∉X.fs
 funs:X.s₀.heap.FunFrames X.base X.outer
 frf:∀b∈X.fs,X.H₀ b=none
structure Inv (X:Cx)(pins:List (Addr×Obj))(σ:List (Option V))(H:Hp)(s:Shared):Prop where
 ok:X.Ok
 os:s.os=X.s₀.os
 bare:AllBare s.gens
 base:Un X.fs X.ex X.H₀ H X.s₀.heap s.heap
 loc:∃m,s.heap.Ns X.env.locals m/\∀(i:Nat) (x:Str) (v:V),X.N[i]?=some x->σ[i]?=some (some v)->Vis X.env.scope x->∃u,X4 v u/\RT X.env s.heap m x u
 cell:∀x c,X.env.cells.lookup x=some c->∃v,s.heap.IsCell c v
 free:H X.env.locals=none
 freeC:∀x c,X.env.cells.lookup x=some c->H c=none
 pin:∀p∈X.pn++pins,s.heap.get? p.1=some p.2/\H p.1=none/\p.1≠X.env.locals/\p.1∉X.fs/\∀v,p.2.data≠ .cell v
 hok:HOk X.prog X.w H s.heap
 len:σ.length=X.N.length
section
variable {X:Cx}{pins:List (Addr×Obj)}{σ:List (Option V)}{H H':Hp}{s:Shared}{h':Heap}
theorem Cx.Ok.nofr (ok:X.Ok){b:Addr}{o:Obj}(e:X.base.get? b=some o):b∉X.fs:=λhb=>by
 have:=(ok.funs.mem hb).1
 rw[e] at this;cases this
theorem Inv.bs (I:Inv X pins σ H s):∀b o,X.base.get? b=some o->s.heap.get? b=some o/\H b=none:=λb o e=>
 ⟨I.base.keep b o (I.ok.bs b o e).1 (I.ok.bs b o e).2 (I.ok.nofr e) (I.ok.noex b o e),I.base.free b o (I.ok.bs b o e).1 (I.ok.bs b o e).2 (I.ok.noex b o e)⟩
theorem Inv.bk (I:Inv X pins σ H s):∀b o,X.base.get? b=some o->s.heap.get? b=some o:=λb o e=>(I.bs b o e).1
theorem Inv.mod (I:Inv X pins σ H s):Mod X.K X.mg X.base:=I.ok.mod
theorem Inv.kIn (I:Inv X pins σ H s):X.K.In s.heap:=I.ok.mod.kin.keeps I.bk
theorem Inv.lt (I:Inv X pins σ H s):X.env.locals<s.heap.objs.size:=let ⟨_,hn,_⟩:=I.loc;hn.lt
theorem Inv.sz (I:Inv X pins σ H s):X.s₀.heap.objs.size<=s.heap.objs.size:=Nat.le_trans I.ok.above (Nat.le_of_lt I.lt)
theorem Inv.nofs (I:Inv X pins σ H s){a:Addr}(h:s.heap.objs.size<=a):a∉X.fs:=λhb=>by
 obtain⟨_,o,ho,_⟩:=I.ok.funs.mem hb
 exact absurd (Nat.lt_of_lt_of_le (Heap.lt_size ho) (Nat.le_trans I.sz h)) (Nat.lt_irrefl _)
theorem Inv.cne (I:Inv X pins σ H s):∀x c,X.env.cells.lookup x=some c->c≠X.env.locals:=λx c e z=>by
 obtain⟨v,o,ho,hd⟩:=I.cell x c e
 obtain⟨m,⟨o',es,ep,ho',hd',_⟩,_⟩:=I.loc
 rw[z,ho'] at ho;cases ho;rw[hd'] at hd;cases hd
theorem Inv.funs (I:Inv X pins σ H s):s.heap.FunFrames X.base X.outer:=by
 have all:∀(l:List Env),(∀b∈frs l,b∈X.fs)->X.s₀.heap.FunFrames X.base l->s.heap.FunFrames X.base l:=by
  intro l
  induction l with
  |nil=>intro _ _;trivial
  |cons env r ih=>
   intro hs hl
   obtain⟨hk,⟨L,o,hf,hn,ho,hd⟩,hr⟩:=hl
   have hL:L∈X.fs:=hs L (by unfold frs;rw[List.filterMap_cons,hf];exact List.mem_cons_self)
   obtain⟨sl,e⟩:=I.base.slot L o ho (I.ok.frf L hL) hL λz=>I.ok.exfs L z hL
   exact⟨hk,⟨L,_,hf,hn,e,hd⟩,ih (λb hb=>hs b (by unfold frs;rw[List.filterMap_cons,hf];exact List.mem_cons_of_mem _ hb)) hr⟩
 exact all X.outer (λ_ hb=>hb) I.ok.funs
theorem Inv.stack (I:Inv X pins σ H s):s.heap.FunFrames X.base X.stack:=by
 rcases I.ok.stk with e | ⟨e,hf⟩
 ·rw[e];exact I.funs
 ·rw[e]
  obtain⟨m,hn,_⟩:=I.loc
  refine .cons (by rw[I.ok.kind];decide) hf hn ?_ I.funs
  exact Heap.get?_none_of_le (Nat.le_trans I.ok.bsz I.ok.above)
theorem Inv.stkSub (I:Inv X pins σ H s):∀b∈frs X.stack,b∈X.env.locals::X.fs:=λb hb=>by
 rcases I.ok.stk with e | ⟨e,hf⟩
 ·rw[e] at hb;exact List.mem_cons_of_mem _ hb
 ·rw[e] at hb
  unfold frs at hb
  rw[List.filterMap_cons,hf] at hb
  exact hb
theorem Inv.stkFree (I:Inv X pins σ H s):∀b∈frs X.stack,H b=none:=λb hb=>by
 rcases List.mem_cons.mp (I.stkSub b hb) with e |hb
 ·rw[e];exact I.free
 ·obtain⟨_,o,ho,_⟩:=I.ok.funs.mem hb
  exact I.base.free b o ho (I.ok.frf b hb) λz=>I.ok.exfs b z hb
theorem Inv.step {g':Array GenState}{t':Nat}{d':Drawn}{ch:List Addr}(I:Inv X pins σ H s)
  (hch:∀b∈ch,(b∈X.ex∨X.s₀.heap.objs.size<=b)/\b≠X.env.locals/\(∀x c,X.env.cells.lookup x=some c->c≠b)/\∀p∈X.pn++pins,p.1≠b)
  (keep:∀b o,b≠X.env.locals->b∉X.fs->b∉ch->s.heap.get? b=some o->H b=none->h'.get? b=some o)
  (slot:∀b o,b≠X.env.locals->b∈X.fs->b∉ch->s.heap.get? b=some o->H b=none->∃sl,h'.get? b=some {o with slots:=sl})(free:∀b o,b∉ch->s.heap.get? b=some o->H b=none->H' b=none)
  (there:∀b o,b∉ch->s.heap.get? b=some o->∃o',h'.get? b=some o')
  (tups:∀b xs,H b=some (.tup xs)->H' b=some (.tup xs))(frzs:∀b o u,H b=some (.frz o u)->H' b=some (.frz o u))(tbls:∀b ps,H b=some (.tbl ps)->∃more,H' b=some (.tbl (ps++more)))
  (ns:∀m,s.heap.Ns X.env.locals m->h'.Ns X.env.locals m)(hok:HOk X.prog X.w H' h')(hg:AllBare g'):
  Inv X pins σ H' {s with heap:=h',gens:=g',drawn:=d',toks:=t'}:=by
 have neL:∀b o,X.s₀.heap.get? b=some o->b≠X.env.locals:=λb o e=>Nat.ne_of_lt (Nat.lt_of_lt_of_le (Heap.lt_size e) I.ok.above)
 have neC:∀b o,X.s₀.heap.get? b=some o->b∉X.ex->b∉ch:=λb o e hx hb=>by
  rcases(hch b hb).1 with z |z
  ·exact hx z
  ·exact absurd (Nat.lt_of_lt_of_le (Heap.lt_size e) z) (Nat.lt_irrefl _)
 have cellK:∀x c,X.env.cells.lookup x=some c->∀v,s.heap.IsCell c v->h'.IsCell c v:=λx c e v ⟨o,ho,hd⟩=>by
  have nch:c∉ch:=λz=>(hch c z).2.2.1 x c e rfl
  by_cases hc:c∈X.fs
  ·obtain⟨sl,q⟩:=slot c o (I.cne x c e) hc nch ho (I.freeC x c e)
   exact⟨_,q,hd⟩
  ·exact⟨o,keep c o (I.cne x c e) hc nch ho (I.freeC x c e),hd⟩
 refine⟨I.ok,I.os,hg,⟨λb o e n hb hx=>?_,λb o e n hb hx=>?_,λb o e n hx=>?_,λb o e hx=>?_,λb xs e=>tups b xs (I.base.tups b xs e),λb o xs e=>frzs b o xs (I.base.frzs b o xs e),λb ps e=>?_⟩,?_,λx c e=>?_,?_,λx c e=>?_,λp hp=>?_,hok,I.len⟩
 ·exact keep b o (neL b o e) hb (neC b o e hx) (I.base.keep b o e n hb hx) (I.base.free b o e n hx)
 ·obtain⟨sl,e1⟩:=I.base.slot b o e n hb hx
  obtain⟨sl',e2⟩:=slot b _ (neL b o e) hb (neC b o e hx) e1 (I.base.free b o e n hx)
  exact⟨sl',e2⟩
 ·obtain⟨o',e1⟩:=I.base.there b o e hx
  exact free b o' (neC b o e hx) e1 (I.base.free b o e n hx)
 ·obtain⟨o',e1⟩:=I.base.there b o e hx
  exact there b o' (neC b o e hx) e1
 ·obtain⟨m1,e1⟩:=I.base.tbls b ps e
  obtain⟨m2,e2⟩:=tbls b _ e1
  exact⟨m1++m2,by rw[e2,Array.append_assoc]⟩
 ·obtain⟨m,hn,hl⟩:=I.loc
  refine⟨m,ns m hn,λi x v e1 e2 e3=>?_⟩
  obtain⟨u,r,l⟩:=hl i x v e1 e2 e3
  refine⟨u,r,?_⟩
  rcases l with l | ⟨k,c,e,z⟩
  ·exact .inl l
  ·exact .inr ⟨k,c,e,cellK x c e _ z⟩
 ·obtain⟨v,z⟩:=I.cell x c e
  exact⟨v,cellK x c e v z⟩
 ·obtain⟨m,⟨o,_,_,ho,_⟩,_⟩:=I.loc
  exact free _ o (λz=>(hch _ z).2.1 rfl) ho I.free
 ·obtain⟨v,o,ho,hd⟩:=I.cell x c e
  exact free c o (λz=>(hch c z).2.2.1 x c e rfl) ho (I.freeC x c e)
 ·obtain⟨e,n,ne,nf,d⟩:=I.pin p hp
  have nch:p.1∉ch:=λz=>(hch p.1 z).2.2.2 p hp rfl
  exact⟨keep p.1 p.2 ne nf nch e n,free p.1 p.2 nch e n,ne,nf,d⟩
theorem Inv.un {t':Nat}(I:Inv X pins σ H s)(u:Un X.fs [] H H' s.heap h')(hok:HOk X.prog X.w H' h'):Inv X pins σ H' {s with heap:=h',toks:=t'}:=by
 obtain⟨m,⟨o,es,ep,ho,r⟩,_⟩:=id I.loc
 obtain⟨sl,hL⟩:=u.any ho I.free (by simp)
 exact I.step (g':=s.gens) (d':=s.drawn) (ch:=[]) (λ_ z=>nomatch z) (λb o _ hb _ e n=>u.keep b o e n hb (by simp)) (λb o _ hb _ e n=>u.slot b o e n hb (by simp)) (λb o _ e n=>u.free b o e n (by simp)) (λb o _ e=>u.there b o e (by simp)) u.tups u.frzs u.tbls (λm' hm=>by
  obtain⟨o',es',ep',ho',r'⟩:=hm
  rw[ho] at ho';cases ho'
  exact⟨_,es',ep',hL,r'⟩) hok I.bare
theorem Inv.call {g':Array GenState}{t':Nat}{d':Drawn}{ch:List Addr}(I:Inv X pins σ H s)(u:Un (frs X.stack) ch H H' s.heap h')(hok:HOk X.prog X.w H' h')(hg:AllBare g')
  (hch:∀b∈ch,(b∈X.ex∨X.s₀.heap.objs.size<=b)/\b≠X.env.locals/\(∀x c,X.env.cells.lookup x=some c->c≠b)/\∀p∈X.pn++pins,p.1≠b):
  Inv X pins σ H' {s with heap:=h',gens:=g',drawn:=d',toks:=t'}:=by
 obtain⟨m,⟨o,es,ep,ho,r⟩,_⟩:=id I.loc
 obtain⟨sl,hL⟩:=u.any ho I.free λz=>(hch _ z).2.1 rfl
 exact I.step (ch:=ch) hch (λb o hL hb hc e n=>u.keep b o e n (λz=>(List.mem_cons.mp (I.stkSub b z)).elim hL hb) hc) (λb o _ _ hc e n=>u.any e n hc) (λb o hc e n=>u.free b o e n hc) (λb o hc e=>u.there b o e hc) u.tups u.frzs u.tbls (λm' hm=>by
  obtain⟨o',es',ep',ho',r'⟩:=hm
  rw[ho] at ho';cases ho'
  exact⟨_,es',ep',hL,r'⟩) hok hg
theorem Inv.turned {t':Nat}{it:Addr}(I:Inv X pins σ H s)(k:∀b o,b≠it->s.heap.get? b=some o->h'.get? b=some o)(hn:H it=none)(hL:it≠X.env.locals)
  (h1:it∈X.ex∨X.s₀.heap.objs.size<=it)(h2:∀x c,X.env.cells.lookup x=some c->c≠it)(h3:∀p∈X.pn++pins,p.1≠it):Inv X pins σ H {s with heap:=h',toks:=t'}:=by
 have nit:∀b u,H b=some u->b≠it:=λb u e z=>by rw[z,hn] at e;cases e
 refine I.step (g':=s.gens) (d':=s.drawn) (ch:=[it]) (λb hb=>?_) (λb o _ _ hc e _=>k b o (λz=>hc (by simp[z])) e) (λb o _ _ hc e _=>⟨o.slots,k b o (λz=>hc (by simp[z])) e⟩) (λ_ _ _ _ n=>n)
  (λb o hc e=>⟨o,k b o (λz=>hc (by simp[z])) e⟩) (λ_ _ e=>e) (λ_ _ _ e=>e) (λb ps e=>⟨#[],by rw[e];simp⟩) (λm hm=>?_) (λb u e=>?_) I.bare
 ·have e:b=it:=by simpa using hb
  subst e
  exact⟨h1,hL,h2,h3⟩
 ·obtain⟨o,es,ep,ho,r⟩:=hm
  exact⟨o,es,ep,k _ o (Ne.symm hL) ho,r⟩
 ·refine(I.hok b u e).stay (λc v hc q=>k c v ?_ q) (λ_ q=>q) λ_ _ q=>q
  rcases hc with z |z
  ·rw[z];exact nit b u e
  ·exact nit c _ z
theorem Inv.tok (I:Inv X pins σ H s)(t:Nat):Inv X pins σ H {s with toks:=t}:=I.un (h':=s.heap) (t':=t) Un.refl I.hok
theorem Inv.kept {t':Nat}(I:Inv X pins σ H s)(k:∀b u,s.heap.get? b=some u->h'.get? b=some u):Inv X pins σ H {s with heap:=h',toks:=t'}:=I.un (Un.kept k) (I.hok.kept k)
theorem Inv.laid {a:Addr}{o:HO}{t':Nat}(I:Inv X pins σ H s)(k:∀b u,s.heap.get? b=some u->h'.get? b=some u)(hp:s.heap.objs.size<=a)(new:YG X.prog X.w (upd H a o) h' a o):
  Inv X pins σ (upd H a o) {s with heap:=h',toks:=t'}:=I.un (Un.laid k hp (I.hok.fresh hp)) (I.hok.laid k hp new)
theorem Inv.write {x e:Addr}{o:HO}{t':Nat}(I:Inv X pins σ H s)(mu:Mut (H x))(he:e=x∨H e=some (.own x))(k:∀b u,b≠e->s.heap.get? b=some u->h'.get? b=some u)(heo:∃u,h'.get? e=some u)
  (new:YG X.prog X.w (upd H x o) h' x o):Inv X pins σ (upd H x o) {s with heap:=h',toks:=t'}:=I.un (Un.write mu he k heo) (I.hok.write mu he k heo new)
theorem Inv.weak {σ':List (Option V)}(I:Inv X pins σ H s)(hl:σ'.length=σ.length)(w:∀(i:Nat) v,σ'[i]?=some (some v)->σ[i]?=some (some v)):Inv X pins σ' H s:=
 ⟨I.ok,I.os,I.bare,I.base,let ⟨m,hn,hl'⟩:=I.loc;⟨m,hn,λi x v e1 e2 e3=>hl' i x v e1 (w i v e2) e3⟩,I.cell,I.free,I.freeC,I.pin,I.hok,hl.trans I.len⟩
theorem Inv.pins_of {pins':List (Addr×Obj)}(I:Inv X pins σ H s)(h:∀p∈pins',s.heap.get? p.1=some p.2/\H p.1=none/\p.1≠X.env.locals/\p.1∉X.fs/\∀v,p.2.data≠ .cell v):Inv X pins' σ H s:=
 ⟨I.ok,I.os,I.bare,I.base,I.loc,I.cell,I.free,I.freeC,λp hp=>(List.mem_append.mp hp).elim (λz=>I.pin p (List.mem_append_left _ z)) (h p),I.hok,I.len⟩
theorem DI {N:List Str}(hN:N.Nodup){i j:Nat}{x:Str}(a:N[i]?=some x)(b:N[j]?=some x):i=j:=by
 obtain⟨h1,e1⟩:=List.getElem?_eq_some_iff.mp a
 obtain⟨h2,e2⟩:=List.getElem?_eq_some_iff.mp b
 exact(List.getElem_inj hN).mp (e1.trans e2.symm)
theorem KW {M:Model}{A:Around}{E:Value->Shared->Prop}{i:Nat}{x:Str}{v:V}{u:Value}{Q:Unit->Shared->Prop}(I:Inv X pins σ H s)(hN:X.N.Nodup)(hi:X.N[i]?=some x)(hx:Loc X.env.scope x)(r:X4 v u)
  (h:∀s',Inv X pins (σ.set i (some v)) H s'->(∃a,Heap.SameBut a s.heap s'.heap/\(a=X.env.locals∨X.env.cells.lookup x=some a))->Q () s')(hf:X.fn x=true∨X.env.scope.names.lookup x=some .local:=by first |exact .inl rfl |exact .inr rfl |assumption):wpAny M A (storeName X.env x u) Q E s:=by
 obtain⟨m,hn,hl⟩:=id I.loc
 have hcls:(X.env.scope.kind== .class || (X.env.scope.kind== .module&&X.env.locals !=X.env.globals))=false:=by rw[I.ok.kind];rfl
 have hiσ:i<σ.length:=by rw[I.len];exact(List.getElem?_eq_some_iff.mp hi).1
 have cne:=I.cne
 have tracked:∀{a:Addr}{h':Heap},(∃o,s.heap.get? a=some o/\H a=none)->Heap.SameBut a s.heap h'->HOk X.prog X.w H h':=fun {a h'} ha hs b ob e=>by
  obtain⟨_,_,hfree⟩:=ha
  refine(I.hok b ob e).stay (λc w' hc q=>(hs.2 c ?_).trans q) (λ_ q=>q) λ_ _ q=>q
  rintro rfl
  rcases hc with rfl |hc
  ·rw[hfree] at e;cases e
  ·rw[hfree] at hc;cases hc
 rcases hx with hk |hk
 ·refine wpAny_storeName_local hk hn (λh' hn' hs=>?_) hcls
  obtain⟨oL,_,_,hoL,_⟩:=id hn
  refine h _ ⟨I.ok,I.os,I.bare,⟨λb o e n hb hx=>?_,λb o e n hb hx=>?_,I.base.free,λb o e hx=>?_,I.base.tups,I.base.frzs,I.base.tbls⟩,⟨_,hn',λj y v' e1 e2 e3=>?_⟩,λy c e=>?_,I.free,I.freeC,λp hp=>?_,tracked ⟨oL,hoL,I.free⟩ hs,by simpa using I.len⟩ ⟨_,hs, .inl rfl⟩
  ·exact(hs.2 b (Nat.ne_of_lt (Nat.lt_of_lt_of_le (Heap.lt_size e) I.ok.above))).trans (I.base.keep b o e n hb hx)
  ·obtain⟨sl,e1⟩:=I.base.slot b o e n hb hx
   exact⟨sl,(hs.2 b (Nat.ne_of_lt (Nat.lt_of_lt_of_le (Heap.lt_size e) I.ok.above))).trans e1⟩
  ·obtain⟨o',e1⟩:=I.base.there b o e hx
   exact⟨o',(hs.2 b (Nat.ne_of_lt (Nat.lt_of_lt_of_le (Heap.lt_size e) I.ok.above))).trans e1⟩
  ·by_cases hj:j=i
   ·subst hj
    rw[hi] at e1;cases e1
    rw[List.getElem?_set_self hiσ] at e2
    cases e2
    exact⟨u,r, .inl ⟨hk,by simp⟩⟩
   ·rw[List.getElem?_set_ne (Ne.symm hj)] at e2
    obtain⟨u',r',q⟩:=hl j y v' e1 e2 e3
    refine⟨u',r',?_⟩
    rcases q with⟨k,e⟩ | ⟨k,c,e,z⟩
    ·refine .inl ⟨k,?_⟩
     have:y≠x:=λe=>hj (DI hN e1 (e▸hi))
     simp[this,e]
    ·exact .inr ⟨k,c,e,z.sameBut hs (cne y c e)⟩
  ·obtain⟨w',z⟩:=I.cell y c e
   exact⟨w',z.sameBut hs (cne y c e)⟩
  ·obtain⟨e,n,ne,nf,d⟩:=I.pin p hp
   exact⟨(hs.2 p.1 ne).trans e,n,ne,nf,d⟩
 ·have hfn:X.fn x=true:=by
   rcases hf with z |z
   ·exact z
   ·rw[z] at hk;cases hk
  obtain⟨c,hc⟩:=I.ok.has x (.inl hk)
  obtain⟨w',z⟩:=I.cell x c hc
  refine wpAny_storeName_cell I.ok.kind hk hc z (λh' hc' hs=>?_)
  obtain⟨oc,hoc,hocd⟩:=id z
  refine h {s with heap:=h'} ⟨I.ok,I.os,I.bare,⟨λb o e n hb hx=>?_,λb o e n hb hx=>?_,I.base.free,λb o e hx=>?_,I.base.tups,I.base.frzs,I.base.tbls⟩,⟨m,hn.sameBut hs (Ne.symm (cne x c hc)),λj y v' e1 e2 e3=>?_⟩,λy c' e=>?_,I.free,I.freeC,λp hp=>?_,tracked ⟨oc,hoc,I.freeC x c hc⟩ hs,by simpa using I.len⟩ ⟨c,hs, .inr hc⟩
  ·exact(hs.2 b (Nat.ne_of_lt (Nat.lt_of_lt_of_le (Heap.lt_size e) (I.ok.cab x c hfn hc)))).trans (I.base.keep b o e n hb hx)
  ·obtain⟨sl,e1⟩:=I.base.slot b o e n hb hx
   exact⟨sl,(hs.2 b (Nat.ne_of_lt (Nat.lt_of_lt_of_le (Heap.lt_size e) (I.ok.cab x c hfn hc)))).trans e1⟩
  ·obtain⟨o',e1⟩:=I.base.there b o e hx
   exact⟨o',(hs.2 b (Nat.ne_of_lt (Nat.lt_of_lt_of_le (Heap.lt_size e) (I.ok.cab x c hfn hc)))).trans e1⟩
  ·by_cases hj:j=i
   ·subst hj
    rw[hi] at e1;cases e1
    rw[List.getElem?_set_self hiσ] at e2
    cases e2
    exact⟨u,r, .inr ⟨.inl hk,c,hc,hc'⟩⟩
   ·rw[List.getElem?_set_ne (Ne.symm hj)] at e2
    obtain⟨u',r',q⟩:=hl j y v' e1 e2 e3
    refine⟨u',r',?_⟩
    rcases q with q | ⟨k,c',e,z'⟩
    ·exact .inl q
    ·refine .inr ⟨k,c',e,z'.sameBut hs ?_⟩
     rintro rfl
     exact hj (DI hN e1 (I.ok.inj _ _ _ e hc▸hi))
  ·by_cases hcc:c'=c
   ·subst hcc;exact⟨_,hc'⟩
   ·obtain⟨w2,z2⟩:=I.cell y c' e
    exact⟨w2,z2.sameBut hs hcc⟩
  ·obtain⟨e,n,ne,nf,d⟩:=I.pin p hp
   refine⟨(hs.2 p.1 ?_).trans e,n,ne,nf,d⟩
   intro q
   rw[q,hoc] at e
   have q':oc=p.2:=Option.some.inj e
   exact d w' (by rw[←q'];exact hocd)
theorem Q8 {M:Model}{A:Around}{E:Value->Shared->Prop}{i:Nat}{x:Str}{v:V}{u:Value}{Q:Unit->Shared->Prop}(I:Inv X pins σ H s)(hN:X.N.Nodup)(hi:X.N[i]?=some x)(hx:Loc X.env.scope x)(r:X4 v u)
  (h:∀s',Inv X pins (σ.set i (some v)) H s'->Q () s')(hf:X.fn x=true∨X.env.scope.names.lookup x=some .local:=by first |exact .inl rfl |exact .inr rfl |assumption):wpAny M A (storeName X.env x u) Q E s:=
 KW I hN hi hx r (λs' I' _=>h s' I') hf
theorem Inv.call' {s':Shared}{ch:List Addr}(I:Inv X pins σ H s)(ho:s'.os=s.os)(u:Un (frs X.stack) ch H H' s.heap s'.heap)(hok:HOk X.prog X.w H' s'.heap)(hg:AllBare s'.gens)
  (hch:∀b∈ch,(b∈X.ex∨X.s₀.heap.objs.size<=b)/\b≠X.env.locals/\(∀x c,X.env.cells.lookup x=some c->c≠b)/\∀p∈X.pn++pins,p.1≠b):Inv X pins σ H' s':=by
 obtain⟨h',g',d',t',o'⟩:=s'
 have e:o'=s.os:=ho
 subst e
 exact I.call (g':=g') (t':=t') (d':=d') u hok hg hch
end
noncomputable abbrev XK:=Value->Option Addr->Hp->Prop
noncomputable abbrev St:=List (Option V)
noncomputable abbrev VK:=V->Hp->Prop
noncomputable abbrev TE:=St->Hp->VK->Prop
noncomputable abbrev TT:=St->Hp->(Bool->Hp->Prop)->Prop
noncomputable abbrev TA:=St->Hp->(List V->Hp->Prop)->Prop
structure Ends where
 nx:St->Hp->Prop
 rt:VK
 bk:St->Hp->Prop:=λ_ _=>False
 ct:St->Hp->Prop:=λ_ _=>False
noncomputable abbrev TS:=Ends->St->Hp->Prop
noncomputable def EP (X:Cx)(pins:List (Addr×Obj))(σ:St)(Q:VK)(u:Value)(s':Shared):Prop:=∃ v H',Inv X pins σ H' s'/\X4 v u/\Q v H'
noncomputable def TP (X:Cx)(pins:List (Addr×Obj))(σ:St)(Q:Bool->Hp->Prop)(b:Bool)(s':Shared):Prop:=∃ H',Inv X pins σ H' s'/\Q b H'
noncomputable def AP (X:Cx)(pins:List (Addr×Obj))(σ:St)(Q:List V->Hp->Prop)(us:List Value)(s':Shared):Prop:=∃ vs H',Inv X pins σ H' s'/\Ya vs us/\Q vs H'
noncomputable def SP (X:Cx)(pins:List (Addr×Obj))(D:Ends)(f:Flow)(s':Shared):Prop:=
 match f with
 | .next=>∃ σ' H',Inv X pins σ' H' s'/\D.nx σ' H'
 | .brk=>∃ σ' H',Inv X pins σ' H' s'/\D.bk σ' H'
 | .cont=>∃ σ' H',Inv X pins σ' H' s'/\D.ct σ' H'
 | .ret u=>∃ v σ' H',Inv X pins σ' H' s'/\X4 v u/\D.rt v H'
noncomputable def PE (X:Cx)(e:Expr)(t:TE):Prop:=
 ∀(pins:List (Addr×Obj)) (s:Shared) (σ:St) (H:Hp) (Q:VK),Inv X pins σ H s->t σ H Q->wpAny (model X.prog X.w) X.A (eval e X.env) (EP X pins σ Q) X.xe s
noncomputable def PT (X:Cx)(e:Expr)(t:TT):Prop:=
 ∀(pins:List (Addr×Obj)) (s:Shared) (σ:St) (H:Hp) (Q:Bool->Hp->Prop),Inv X pins σ H s->t σ H Q->wpAny (model X.prog X.w) X.A (isTrue e X.env (eval e X.env)) (TP X pins σ Q) X.xe s
noncomputable def PW (X:Cx)(e:Expr)(t:TT):Prop:=
 ∀(whole:Sem Value) (pins:List (Addr×Obj)) (s:Shared) (σ:St) (H:Hp) (Q:Bool->Hp->Prop),Inv X pins σ H s->t σ H Q->wpAny (model X.prog X.w) X.A (isTrue e X.env whole) (TP X pins σ Q) X.xe s
theorem PW.pt {X:Cx}{e:Expr}{t:TT}(h:PW X e t):PT X e t:=h _
noncomputable def PA (X:Cx)(es:List Expr)(t:TA):Prop:=
 ∀(pos:Pos) (pins:List (Addr×Obj)) (s:Shared) (σ:St) (H:Hp) (Q:List V->Hp->Prop),Inv X pins σ H s->t σ H Q->wpAny (model X.prog X.w) X.A (spliced (backTo pos (starEach es X.env))) (AP X pins σ Q) X.xe s
noncomputable def PS (X:Cx)(st:Stmt)(t:TS):Prop:=
 ∀(pins:List (Addr×Obj)) (s:Shared) (σ:St) (H:Hp) (D:Ends),Inv X pins σ H s->t D σ H->wpAny (model X.prog X.w) X.A (exec st X.env) (SP X pins D) X.xe s
noncomputable def PSs (X:Cx)(st:List Stmt)(t:TS):Prop:=
 ∀(pins:List (Addr×Obj)) (s:Shared) (σ:St) (H:Hp) (D:Ends),Inv X pins σ H s->t D σ H->wpAny (model X.prog X.w) X.A (execs st X.env) (SP X pins D) X.xe s
theorem thn {α:Type}{t:Sem α}{Q Q':α->Shared->Prop}{M:Model}{A:Around}{E:Value->Shared->Prop}{s:Shared}(h:wpAny M A t Q E s)(hQ:∀a s,Q a s->Q' a s):wpAny M A t Q' E s:=wpAny_mono h hQ λ_ _ x=>x
section
variable {X:Cx}
noncomputable def Jz (i:Nat):TE:=λσ H Q=>∃ v,σ[i]?=some (some v)/\Q v H
noncomputable def tC (v:V):TE:=λ_ H Q=>Q v H
theorem N6 {i:Nat}{x:Str}{pos:Pos}(hN:X.N[i]?=some x)(hv:Vis X.env.scope x)(hd:(x==("__debug__":Str))=false:=by decide)(hcd:(x==("__classdict__":Str))=false:=by decide):PE X (.Name x pos) (Jz i):=by
 intro pins s σ H Q I h
 obtain⟨v,e,h⟩:=h
 obtain⟨m,hn,hl⟩:=I.loc
 obtain⟨u,r,l⟩:=hl i x v hN e hv
 have fin:EP X pins σ Q u s:=⟨v,H,I,r,h⟩
 rcases l with⟨hk,hm⟩ | ⟨hk,c,hc,hcell⟩
 ·exact wpAny_Name (wpAny_loadName_local I.ok.kind hk hn hm fin) hd
 ·rcases hk with hk |hk
  ·exact wpAny_Name (wpAny_loadName_cell I.ok.kind hk hc hcell fin) hd
  ·exact wpAny_Name (wpAny_loadName_free I.ok.kind hk hc hcell fin hcd) hd
theorem Xf {i j pos}:PE X (.Constant (.int i) j pos) (tC (.int i)):=λ_ _ _ H _ I h=>wpAny_Constant_int ⟨.int i,H,I.tok _,⟨_,rfl⟩,h⟩
theorem QG {b j pos}:PE X (.Constant (.bool b) j pos) (tC (.bl b)):=λ_ _ _ H _ I h=>Constant_bool ⟨.bl b,H,I,rfl,h⟩
theorem FY {j pos}:PE X (.Constant .none j pos) (tC .non):=λ_ _ _ H _ I h=>Constant_none ⟨.non,H,I,rfl,h⟩
noncomputable def Gl (X:Cx)(x:Str):Prop:=X.env.kindOf x=some .globalImplicit
theorem Ec {E:Value->Shared->Prop}{pins:List (Addr×Obj)}{s:Shared}{σ:St}{H:Hp}{x:Str}{u:Value}{pos:Pos}{Q:Value->Shared->Prop}(I:Inv X pins σ H s)(hg:Gl X x)(hm:X.mg x=some u)(h:Q u s)
  (hd:(x==("__debug__":Str))=false:=by decide):wpAny (model X.prog X.w) X.A (eval (.Name x pos) X.env) Q E s:=
 Calls.Name_function_global I.ok.kind hg (Calls.loadGlobal_global (by rw[I.ok.glob];exact I.mod.glob.keeps I.bk) hm h) hd
theorem Vg {E:Value->Shared->Prop}{pins:List (Addr×Obj)}{s:Shared}{σ:St}{H:Hp}{x:Str}{u:Value}{pos:Pos}{Q:Value->Shared->Prop}(I:Inv X pins σ H s)(hg:Gl X x)(hm:X.mg x=none)(hv:bootBuiltins x=some u)(h:Q u s)
  (hn:x≠ "__name__":=by decide)(hd:(x==("__debug__":Str))=false:=by decide):wpAny (model X.prog X.w) X.A (eval (.Name x pos) X.env) Q E s:=by
 obtain⟨mb,h1,h2⟩:=I.mod.blt
 exact Calls.Name_function_global I.ok.kind hg (Calls.loadGlobal_builtin (by rw[I.ok.glob];exact I.mod.glob.keeps I.bk) hm (by rw[I.ok.blt];exact h1.keeps I.bk) ((h2 x hn).trans hv) h) hd
theorem L1 {x:Str}{v:V}{u:Value}{pos:Pos}(hg:Gl X x)(hm:X.mg x=some u)(r:X4 v u)(hd:(x==("__debug__":Str))=false:=by decide):PE X (.Name x pos) (tC v):=
 λ_ _ _ H _ I h=>Ec I hg hm ⟨v,H,I,r,h⟩ hd
theorem Kl {x:Str}{v:V}{u:Value}{pos:Pos}(hg:Gl X x)(hm:X.mg x=none)(hv:bootBuiltins x=some u)(r:X4 v u)(hn:x≠ "__name__":=by decide)(hd:(x==("__debug__":Str))=false:=by decide):PE X (.Name x pos) (tC v):=
 λ_ _ _ H _ I h=>Vg I hg hm hv ⟨v,H,I,r,h⟩ hn hd
variable {a b:Expr}{ta tb:TE}{pos:Pos}
noncomputable def PC (X:Cx)(op:CmpOp)(a b:Expr)(t:TE):Prop:=
 ∀(pins:List (Addr×Obj)) (s:Shared) (σ:St) (H:Hp) (Q:VK),Inv X pins σ H s->t σ H Q->
  wpAny (model X.prog X.w) X.A (eval a X.env) (λv s₁=>wpAny (model X.prog X.w) X.A (eval b X.env) (λu s₂=>wpAny (model X.prog X.w) X.A (compareOp op v u) (EP X pins σ Q) X.xe s₂) X.xe s₁) X.xe s
theorem HY (b:Expr){op:CmpOp}(h:op≠ .In)(h2:op≠ .NotIn):behindInMarks op b=false:=by
 have e1:(op==CmpOp.In)=false:=by cases op<;> first |rfl |exact absurd rfl h
 have e2:(op==CmpOp.NotIn)=false:=by cases op<;> first |rfl |exact absurd rfl h2
 cases b<;> simp[behindInMarks,e1,e2]
noncomputable def tB (t:TE):TT:=λσ H Q=>t σ H λx H1=>∃ c,x= .bl c/\Q c H1
theorem Lc {op:CmpOp}{t:TE}(h:PC X op a b t)(h1:behindInMarks op b=false:=by first |exact HY _ (by decide) (by decide) |rfl):PT X (.Compare a [op] [b] pos) (tB t):=by
 intro pins s σ H Q I hw
 refine wpAny_isTrue_Compare1 (thn (h pins s σ H _ I hw) λv s1 h1=>thn h1 λu s2 h2=>thn h2 λc s3 r9=>?_) h1
 obtain⟨x,H1,I1,r1,q1⟩:=r9
 obtain⟨d,rfl,q⟩:=q1
 cases r1
 exact wpAny_truthy_bool ⟨H1,I1,q⟩
theorem Qs {e:Expr}{t:TE}(h:PE X e t)(he:∀whole,isTrue e X.env whole=(do let v ←whole;standAt e.pos;holding [v] (truthy v)):=by intro _;rfl):PT X e (tB t):=by
 intro pins s σ H Q I hw
 refine isTrue_plain (thn (h pins s σ H _ I hw) λv s1 r9=>?_) (he _)
 obtain⟨x,H1,I1,r1,q1⟩:=r9
 obtain⟨d,rfl,q⟩:=q1
 cases r1
 exact wpAny_truthy_bool ⟨H1,I1,q⟩
variable {tA tB':TT}{rest:List Expr}
noncomputable def Rb (t u:TT):TT:=λσ H Q=>t σ H λc H1=>if c=true then u σ H1 Q else Q false H1
noncomputable def tOr (t u:TT):TT:=λσ H Q=>t σ H λc H1=>if c=true then Q true H1 else u σ H1 Q
noncomputable def Px (t:TT):TT:=λσ H Q=>t σ H λc H1=>Q (!c) H1
theorem Qe (ha:PT X a tA):PW X (.BoolOp .And [a] pos) tA:=by
 intro wh pins s σ H Q I h
 refine isTrue_and (thn (ha pins s σ H Q I h) λc s1 e=>?_)
 cases c with
 |true=>exact isTrue_and_nil e
 |false=>exact e
theorem FX (ha:PT X a tA):PW X (.BoolOp .Or [a] pos) tA:=by
 intro wh pins s σ H Q I h
 refine isTrue_or (thn (ha pins s σ H Q I h) λc s1 e=>?_)
 cases c with
 |false=>exact isTrue_or_nil e
 |true=>exact e
theorem ZF (ha:PT X a tA)(hb:PW X (.BoolOp .And (b::rest) pos) tB'):PW X (.BoolOp .And (a::b::rest) pos) (Rb tA tB'):=by
 intro wh pins s σ H Q I h
 refine isTrue_and (thn (ha pins s σ H _ I h) λc s1 r9=>?_)
 obtain⟨H1,I1,q1⟩:=r9
 cases c with
 |true=>exact hb wh pins s1 σ H1 Q I1 q1
 |false=>exact⟨H1,I1,q1⟩
theorem Ib (ha:PT X a tA)(hb:PW X (.BoolOp .Or (b::rest) pos) tB'):PW X (.BoolOp .Or (a::b::rest) pos) (tOr tA tB'):=by
 intro wh pins s σ H Q I h
 refine isTrue_or (thn (ha pins s σ H _ I h) λc s1 r9=>?_)
 obtain⟨H1,I1,q1⟩:=r9
 cases c with
 |true=>exact⟨H1,I1,q1⟩
 |false=>exact hb wh pins s1 σ H1 Q I1 q1
theorem JA (ha:PT X a tA):PT X (.UnaryOp .Not a pos) (Px tA):=by
 intro pins s σ H Q I h
 exact isTrue_not (ha pins s σ H (λc H1=>Q (!c) H1) I h)
noncomputable def Mz (ta tb:TE):TE:=λσ H Q=>ta σ H λx H1=>∃ c,x= .bl c/\if c=true then tb σ H1 Q else Q (.bl false) H1
noncomputable def Mj (ta:TE):TE:=λσ H Q=>ta σ H λx H1=>∃ c,x= .bl c/\Q (.bl (!c)) H1
theorem Pa {op}{t:TE}(h:PE X a t):PE X (.BoolOp op [a] pos) t:=λpins s σ H Q I hw=>BoolOp_one (h pins s σ H Q I hw)
theorem N1 (ha:PE X a ta)(hb:PE X (.BoolOp .And (b::rest) pos) tb):PE X (.BoolOp .And (a::b::rest) pos) (Mz ta tb):=by
 intro pins s σ H Q I h
 refine BoolOp_and (thn (ha pins s σ H _ I h) λv s1 r9=>?_)
 obtain⟨x,H1,I1,r1,q1⟩:=r9
 obtain⟨c,rfl,q1⟩:=q1
 cases r1
 refine wpAny_truthy_bool ?_
 cases c with
 |true=>exact hb pins s1 σ H1 Q I1 q1
 |false=>exact⟨.bl false,H1,I1,rfl,q1⟩
theorem Oc (ha:PE X a ta):PE X (.UnaryOp .Not a pos) (Mj ta):=by
 intro pins s σ H Q I h
 refine UnaryOp_ (thn (ha pins s σ H _ I h) λv s1 r9=>?_)
 obtain⟨x,H1,I1,r1,q1⟩:=r9
 obtain⟨c,rfl,q1⟩:=q1
 cases r1
 exact not_of (wpAny_truthy_bool ⟨.bl (!c),H1,I1,rfl,q1⟩)
noncomputable def tIf (t:TT)(ta tb:TE):TE:=λσ H Q=>t σ H λc H1=>if c=true then ta σ H1 Q else tb σ H1 Q
theorem HV {c:Expr}(hc:PT X c tA)(ha:PE X a ta)(hb:PE X b tb):PE X (.IfExp c a b pos) (tIf tA ta tb):=by
 intro pins s σ H Q I h
 refine wpAny_IfExp (thn (hc pins s σ H _ I h) λd s1 r9=>?_)
 obtain⟨H1,I1,q1⟩:=r9
 cases d with
 |true=>exact ha pins s1 σ H1 Q I1 q1
 |false=>exact hb pins s1 σ H1 Q I1 q1
end
noncomputable def SqL (K:PySem.W.Frag)(H:Hp)(a:Addr)(xs:List V):Prop:=
 Rd H a (.lst xs)∨
  ∃(o:Obj) (its:Array Value) (n:Nat),K.lookup a=some o/\o.cls= .type "list" /\o.dict=none/\o.data= .seq its n/\its.size<=sizeLine/\Ya xs its.toList
noncomputable def SqT (K:PySem.W.Frag)(H:Hp)(a:Addr)(xs:List V):Prop:=
 Rd H a (.tup xs)∨
  ∃(o:Obj) (its:Array Value) (n:Nat),K.lookup a=some o/\o.cls= .type "tuple" /\o.data= .seq its n/\its.size<=sizeLine/\Ya xs its.toList
noncomputable def RL:Value->Option V
 | .none=>some .non
 | .bool b=>some (.bl b)
 | .int i _=>some (.int i)
 | .str x _=>some (.str x)
 | .bytes b _=>some (.byt b)
 | .float b _=>some (.flt b)
 | .ref a=>some (.ref a)
 | .type n=>some (.ty n)
 |_=>none
theorem X4.abs {x:V}{u:Value}(r:X4 x u):RL u=some x:=by
 cases x with
 |non=>cases r;rfl
 |bl _=>cases r;rfl
 |int _=>obtain⟨t,rfl⟩:=r;rfl
 |str _=>obtain⟨t,rfl⟩:=r;rfl
 |byt _=>obtain⟨t,rfl⟩:=r;rfl
 |flt _=>obtain⟨t,rfl⟩:=r;rfl
 |ref _=>cases r;rfl
 |ty _=>cases r;rfl
theorem X4.inj {x y:V}{u:Value}(r:X4 x u)(q:X4 y u):x=y:=Option.some.inj (r.abs.symm.trans q.abs)
theorem Ya.inj:∀{xs ys:List V}{us:List Value},Ya xs us->Ya ys us->xs=ys:=fun {xs ys us} p=>by
 induction p generalizing ys with
 |nil=>intro q;cases q;rfl
 |cons r _ ih=>intro q;cases q with |cons r' t'=>rw[r.inj r',ih t']
section
variable {X:Cx}{pins:List (Addr×Obj)}{σ:St}{H:Hp}{s:Shared}{a:Addr}{xs ys:List V}
theorem SqL.of {K:PySem.W.Frag}(h:H a=some (.lst xs)):SqL K H a xs:=.inl (.inl h)
theorem SqT.of {K:PySem.W.Frag}(h:H a=some (.tup xs)):SqT K H a xs:=.inl (.inl h)
theorem Inv.list (I:Inv X pins σ H s)(h:SqL X.K H a xs):∃its:List Value,Ya xs its/\PlainL s.heap a its.toArray/\xs.length<=sizeLine:=by
 rcases h with h | ⟨o,its,n,hk,hc,hd,hs,hz,r⟩
 ·obtain⟨z,its,n,r,e⟩:=h.ok I.hok
  exact⟨its,r,⟨_,n,e,rfl,rfl,rfl⟩,z⟩
 ·refine⟨its.toList,r,⟨o,n,I.kIn a o hk,hc,hd,by simpa using hs⟩,?_⟩
  have e:=r.length
  simp only[Array.length_toList] at e
  omega
theorem Inv.tuple (I:Inv X pins σ H s)(h:SqT X.K H a xs):∃its:List Value,Ya xs its/\IsTup s.heap a its.toArray/\xs.length<=sizeLine:=by
 rcases h with h | ⟨o,its,n,hk,hc,hs,hz,r⟩
 ·obtain⟨z,its,r,p⟩:=h.ok I.hok
  exact⟨its,r,p.t,z⟩
 ·refine⟨its.toList,r,⟨o,I.kIn a o hk,hc,n,by simpa using hs⟩,?_⟩
  have e:=r.length
  simp only[Array.length_toList] at e
  omega
theorem Inv.list_inj (I:Inv X pins σ H s)(h:SqL X.K H a xs)(h':SqL X.K H a ys):xs=ys:=by
 obtain⟨its,r,⟨o,n,e,_,_,d⟩,_⟩:=I.list h
 obtain⟨its',r',⟨o',n',e',_,_,d'⟩,_⟩:=I.list h'
 rw[e] at e';cases e'
 rw[d] at d'
 injection d' with d1 _
 have:its=its':=by simpa using congrArg Array.toList d1
 subst this
 exact r.inj r'
end
noncomputable abbrev Cx.wish (X:Cx)(E:Value->Shared->Prop):Cx:={X with xe:=E}
noncomputable abbrev Cx.nox (X:Cx):Cx:=X.wish λ_ _=>False
theorem Cx.Ok.wish {X:Cx}(ok:X.Ok)(E:Value->Shared->Prop):(X.wish E).Ok:=
 ⟨ok.mod,ok.kind,ok.glob,ok.blt,ok.above,ok.inj,ok.has,ok.cab,ok.hd,ok.frames,ok.stk,ok.exf,ok.bs,ok.bsz,ok.noex,ok.exfs,ok.funs,ok.frf⟩
theorem Cx.Ok.unwish {X:Cx}{E:Value->Shared->Prop}(ok:(X.wish E).Ok):X.Ok:=
 ⟨ok.mod,ok.kind,ok.glob,ok.blt,ok.above,ok.inj,ok.has,ok.cab,ok.hd,ok.frames,ok.stk,ok.exf,ok.bs,ok.bsz,ok.noex,ok.exfs,ok.funs,ok.frf⟩
section
variable {X:Cx}{pins:List (Addr×Obj)}{σ:St}{H:Hp}{s:Shared}{E:Value->Shared->Prop}
theorem Inv.wish (I:Inv X pins σ H s)(E:Value->Shared->Prop):Inv (X.wish E) pins σ H s:=⟨I.ok.wish E,I.os,I.bare,I.base,I.loc,I.cell,I.free,I.freeC,I.pin,I.hok,I.len⟩
theorem Inv.unwish (I:Inv (X.wish E) pins σ H s):Inv X pins σ H s:=⟨I.ok.unwish,I.os,I.bare,I.base,I.loc,I.cell,I.free,I.freeC,I.pin,I.hok,I.len⟩
theorem SP.unwish {D:Ends}{f:Flow}{s':Shared}(h:SP (X.wish E) pins D f s'):SP X pins D f s':=by
 cases f with
 |next=>obtain⟨σ',H',I,q⟩:=h;exact⟨σ',H',I.unwish,q⟩
 |brk=>obtain⟨σ',H',I,q⟩:=h;exact⟨σ',H',I.unwish,q⟩
 |cont=>obtain⟨σ',H',I,q⟩:=h;exact⟨σ',H',I.unwish,q⟩
 |ret u=>obtain⟨v,σ',H',I,r,q⟩:=h;exact⟨v,σ',H',I.unwish,r,q⟩
theorem PSs.nox {st:List Stmt}{t:TS}(h:PSs X.nox st t):PSs X st t:=λpins s σ H D I hw=>
 wpAny_mono (h pins s σ H D (I.wish _) hw) (λ_ _ q=>q.unwish) λ_ _ z=>False.elim z
end
section
variable {X:Cx}{st:Stmt}{rest:List Stmt}{t u:TS}{e:Expr}{te:TE}{pos:Pos}
noncomputable def Gn:TS:=λD σ H=>D.nx σ H
noncomputable def ZK (t u:TS):TS:=λD σ H=>t {D with nx:=u D} σ H
theorem Xe:PSs X [] Gn:=λ_ _ σ H _ I h=>wpAny_execs_nil ⟨σ,H,I,h⟩
theorem Xa (h1:PS X st t)(h2:PSs X rest u):PSs X (st::rest) (ZK t u):=by
 intro pins s σ H D I h
 refine wpAny_execs_cons (thn (h1 pins s σ H {D with nx:=u D} I h) λf s1 q=>?_)
 cases f with
 |next=>
  obtain⟨σ',H',I',q⟩:=q
  exact h2 pins s1 σ' H' D I' q
 |ret v=>exact q
 |brk=>exact q
 |cont=>exact q
theorem Inv.quiet {pins:List (Addr×Obj)}{σ:St}{H:Hp}{s:Shared}(I:Inv X pins σ H s):interactive X.env=false:=by simp[interactive,I.ok.kind]
noncomputable def Gd (te:TE):TS:=λD σ H=>te σ H λ_ H1=>D.nx σ H1
theorem XQ (he:PE X e te)(hs:swapsWith e none pos.line X.env=pure false:=by rfl):PS X (.Expr e pos) (Gd te):=by
 intro pins s σ H D I h
 exact wpAny_Expr_any (thn (he pins s σ H _ I h) λv s1 r9=>by obtain⟨x,H1,I1,r1,q1⟩:=r9;exact⟨σ,H1,I1,q1⟩) I.quiet hs
noncomputable def Re (te:TE):TS:=λD σ H=>te σ H D.rt
theorem Xs (he:PE X e te):PS X (.Return (some e) pos) (Re te):=by
 intro pins s σ H D I h
 exact wpAny_Return_some (thn (he pins s σ H _ I h) λv s1 r9=>by obtain⟨x,H1,I1,r1,q1⟩:=r9;exact⟨x,σ,H1,I1,r1,q1⟩)
noncomputable def MS (c:TT)(t u:TS):TS:=λD σ H=>c σ H λb H1=>if b=true then t D σ H1 else u D σ H1
theorem Ye {c:Expr}{a b:List Stmt}{tc:TT}(hc:PT X c tc)(ha:PSs X a t)(hb:PSs X b u):PS X (.If c a b pos) (MS tc t u):=by
 intro pins s σ H D I h
 refine wpAny_If (thn (hc pins s σ H _ I h) λd s1 r9=>?_)
 obtain⟨H1,I1,q1⟩:=r9
 cases d with
 |true=>exact ha pins s1 σ H1 D I1 q1
 |false=>exact hb pins s1 σ H1 D I1 q1
noncomputable def Oj:TS:=λ_ _ _=>False
theorem Di:PS X st Oj:=λ_ _ _ _ _ _ h=>h.elim
end
noncomputable abbrev TG:=V->St->Hp->(St->Hp->Prop)->Prop
noncomputable abbrev TGs:=List V->St->Hp->(St->Hp->Prop)->Prop
noncomputable def PG (X:Cx)(target:Expr)(t:TG):Prop:=
 ∀(pins:List (Addr×Obj)) (s:Shared) (σ:St) (H:Hp) (v:V) (u:Value) (Q:St->Hp->Prop),Inv X pins σ H s->X4 v u->t v σ H Q->
  wpAny (model X.prog X.w) X.A (assign target X.env u) (λ_ s'=>∃ σ' H',Inv X pins σ' H' s'/\Q σ' H') X.xe s
noncomputable def PGs (X:Cx)(ts:List Expr)(t:TGs):Prop:=
 ∀(pins:List (Addr×Obj)) (s:Shared) (σ:St) (H:Hp) (vs:List V) (us:List Value) (Q:St->Hp->Prop),Inv X pins σ H s->Ya vs us->t vs σ H Q->
  wpAny (model X.prog X.w) X.A (assignInOrder ((assignEach ts X.env).map (·.2)) us) (λ_ s'=>∃ σ' H',Inv X pins σ' H' s'/\Q σ' H') X.xe s
noncomputable abbrev Ri:=V->V->V->Hp->(Hp->Prop)->Prop
noncomputable def Rr (X:Cx)(t:Ri):Prop:=
 ∀(pins:List (Addr×Obj)) (s:Shared) (σ:St) (H:Hp) (o i v:V) (ov iv u:Value) (Q:Hp->Prop),Inv X pins σ H s->X4 o ov->X4 i iv->X4 v u->t o i v H Q->
  wpAny (model X.prog X.w) X.A (setItem ov iv u) (λ_ s'=>∃ H',Inv X pins σ H' s'/\Q H') X.xe s
noncomputable abbrev TIp:=V->V->Hp->VK->Prop
noncomputable def PIp (X:Cx)(op:Operator)(t:TIp):Prop:=
 ∀(pins:List (Addr×Obj)) (s:Shared) (σ:St) (H:Hp) (x y:V) (v u:Value) (Q:VK),Inv X pins σ H s->X4 x v->X4 y u->t x y H Q->
  wpAny (model X.prog X.w) X.A (inplaceOp op v u) (EP X pins σ Q) X.xe s
section
variable {X:Cx}{pos:Pos}
noncomputable def YC (i:Nat):TG:=λv σ H Q=>Q (σ.set i (some v)) H
theorem Xk {i:Nat}{x:Str}(hN:X.N.Nodup)(hi:X.N[i]?=some x)(hx:Loc X.env.scope x)(hf:X.fn x=true∨X.env.scope.names.lookup x=some .local:=by first |exact .inl rfl |exact .inr rfl |assumption):PG X (.Name x pos) (YC i):=by
 intro pins s σ H v u Q I r h
 exact wpAny_assign_Name (Q8 I hN hi hx r (λs' I'=>⟨_,H,I',h⟩) hf)
noncomputable def Nf:TGs:=λvs σ H Q=>vs=[]/\Q σ H
noncomputable def ZD (t:TG)(u:TGs):TGs:=λvs σ H Q=>∃ v r,vs=v::r/\t v σ H λσ' H'=>u r σ' H' Q
theorem ZV:PGs X [] Nf:=by
 intro pins s σ H vs us Q I r h
 obtain⟨e,h⟩:=h
 subst e
 cases r
 exact assignInOrder_nil ⟨σ,H,I,h⟩
theorem XI {e:Expr}{es:List Expr}{t:TG}{u:TGs}(h1:PG X e t)(h2:PGs X es u)
  (hs:(assignEach (e::es) X.env).map (·.2)=assign e X.env::(assignEach es X.env).map (·.2):=by rfl):PGs X (e::es) (ZD t u):=by
 intro pins s σ H vs us Q I r h
 obtain⟨v,vr,e1,h⟩:=h
 subst e1
 cases r with
 |cons r rr=>
  rw[hs]
  refine assignInOrder_cons (thn (h1 pins s σ H _ _ _ I r h) λ_ s1 r9=>?_)
  obtain⟨σ1,H1,I1,q1⟩:=r9
  exact h2 pins s1 σ1 H1 _ _ Q I1 rr q1
noncomputable def Lj (K:PySem.W.Frag)(n:Nat)(t:TGs):TG:=λv σ H Q=>∃ a xs,v= .ref a/\SqT K H a xs/\xs.length=n/\t xs σ H Q
theorem Q6 {es:List Expr}{k:Nat}{t:TGs}{n:Nat}(hc:X.calm=true)(h:PGs X es t)
  (hn:(assignEach es X.env).length=n:=by rfl)(hst:(assignEach es X.env).findIdx? (·.1)=none:=by rfl):PG X (.Tuple es k pos) (Lj X.K n t):=by
 intro pins s σ H v u Q I r hw
 obtain⟨a,xs,e1,hq,hl,hw⟩:=hw
 subst e1
 cases r
 obtain⟨its,rv,ht,hz⟩:=I.tuple hq
 refine assign_Tuple_tuple (I.ok.hd hc) ht (by simp[hn, ←hl,rv.length]) hst λh' hx=>?_
 have I1:Inv X pins σ H {s with heap:=h'}:=I.kept (t':=s.toks) λb o e=>hx b o (Nat.ne_of_lt (Heap.lt_size e)) e
 exact h pins _ σ H xs _ Q I1 (by simpa using rv) hw
noncomputable def Pi (to ti:TE)(t:Ri):TG:=λv σ H Q=>to σ H λo H1=>ti σ H1 λi H2=>t o i v H2 λH3=>Q σ H3
theorem EZ {o i:Expr}{to ti:TE}{t:Ri}(ho:PE X o to)(hi:PE X i ti)(hs:Rr X t)
  (ha:∀v,assign (.Subscript o i pos) X.env v=(do
   let ov ←holding [v] (eval o X.env)
   let iv ←holding [v,ov] (eval i X.env)
   standAt pos
   holding [v,ov,iv] (setItem ov iv v)
   release [v,ov,iv] []):=by intro _;rfl):PG X (.Subscript o i pos) (Pi to ti t):=by
 intro pins s σ H v u Q I r h
 rw[ha]
 refine wpAny_bind (wpAny_holding (thn (ho pins s σ H _ I h) λov s1 r9=>?_))
 obtain⟨x,H1,I1,r1,q1⟩:=r9
 refine wpAny_bind (wpAny_holding (thn (hi pins s1 σ H1 _ I1 q1) λiv s2 r9=>?_))
 obtain⟨y,H2,I2,r2,q2⟩:=r9
 refine wpAny_bind (wpAny_standAt (wpAny_bind (wpAny_holding (thn (hs pins s2 σ H2 x y v ov iv u _ I2 r1 r2 r q2) λ_ s3 r9=>?_))))
 obtain⟨H3,I3,q3⟩:=r9
 exact wpAny_release ⟨σ,H3,I3,q3⟩
noncomputable def DT (te:TE)(g:TG):TS:=λD σ H=>te σ H λx H1=>g x σ H1 D.nx
theorem Uh {tg e:Expr}{te:TE}{g:TG}(he:PE X e te)(hg:PG X tg g)(hs:swapsWithSole [tg] e pos.line X.env=pure false:=by rfl)(hw:swappedStores [tg] e X.env=pure none:=by rfl)
  (h1:(assignEach [tg] X.env).map (·.2)=[assign tg X.env]:=by rfl):PS X (.Assign [tg] e pos) (DT te g):=by
 intro pins s σ H D I h
 refine wpAny_Assign_stores (thn (he pins s σ H _ I h) λv s1 r9=>?_) hs hw
 obtain⟨x,H1,I1,r1,q1⟩:=r9
 rw[h1]
 exact thn (hg pins s1 σ H1 x v _ I1 r1 q1) λ_ s2 q=>q
theorem Xj {i:Nat}{x:Str}{e:Expr}{te:TE}{pos':Pos}(hN:X.N.Nodup)(hi:X.N[i]?=some x)(hx:Loc X.env.scope x)(he:PE X e te)(hs:swapsWith e (some (.Name x pos')) pos.line X.env=pure false:=by rfl)(hf:X.fn x=true∨X.env.scope.names.lookup x=some .local:=by first |exact .inl rfl |exact .inr rfl |assumption):
  PS X (.Assign [.Name x pos'] e pos) (DT te (YC i)):=by
 intro pins s σ H D I h
 refine wpAny_Assign_Name (thn (he pins s σ H _ I h) λv s1 r9=>?_) hs
 obtain⟨y,H1,I1,r1,q1⟩:=r9
 exact Q8 I1 hN hi hx r1 (λs2 I2=>⟨_,H1,I2,q1⟩) hf
noncomputable def RH (i j:Nat)(ta:TA):TS:=λD σ H=>ta σ H λvs H1=>∃ v w,vs=[v,w]/\D.nx ((σ.set i (some v)).set j (some w)) H1
theorem DQ {i j:Nat}{x y:Str}{a b:Expr}{ta:TA}{px py pt:Pos}{kt k2 pt2}(hc:X.calm=true)(hN:X.N.Nodup)(hi:X.N[i]?=some x)(hj:X.N[j]?=some y)(hij:i≠j)
  (hx:X.env.scope.names.lookup x=some .local)(hy:X.env.scope.names.lookup y=some .local)(ha:PA X [a,b] ta)
  (hw:swappedStores [.Tuple [.Name x px, .Name y py] kt pt] (.Tuple [a,b] k2 pt2) X.env=pure (some [x,y]))
  (hs:swapsWithSole [.Tuple [.Name x px, .Name y py] kt pt] (.Tuple [a,b] k2 pt2) pos.line X.env=pure false:=by rfl):
  PS X (.Assign [.Tuple [.Name x px, .Name y py] kt pt] (.Tuple [a,b] k2 pt2) pos) (RH i j ta):=by
 intro pins s σ H D I h
 rw[exec_Assign_arm]
 refine wpAny_bind (wpAny_standAt ?_)
 rw[hs]
 refine wpAny_bind (wpAny_pure ?_)
 rw[if_neg (by decide)]
 refine wpAny_bind (Tuple_ (thn (ha _ pins s σ H _ I h) λus s1 r9=>?_))
 obtain⟨vs,H1,I1,r1,q1⟩:=r9
 obtain⟨v,w,e1,q1⟩:=q1
 subst e1
 obtain⟨u1,u2,rfl,rv,rw'⟩:∃u1 u2,us=[u1,u2]/\X4 v u1/\X4 w u2:=by
  cases r1 with
  |cons p q=>
   cases q with
   |cons p' q'=>
    cases q'
    exact⟨_,_,rfl,p,p'⟩
 refine wpAny_newObj_type ?_ (by show 2<=sizeLine;decide)
 have I2:Inv X pins σ H1 {s1 with heap:=s1.heap.push {cls:=.type "tuple",data:=.seq [u1,u2].toArray}}:=I1.kept (t':=s1.toks) λb o e=>Heap.get?_push_of_some _ e
 rw[hw]
 refine wpAny_bind (wpAny_pure ?_)
 show wpAny (model X.prog X.w) X.A (do rule "assign.swapped-stores";let items ←unpackItems (.ref s1.heap.objs.size) 2 none;assignInOrder [λv=>bindName X.env y v,λv=>bindName X.env x v] items.reverse;pure Flow.next) _ _ _
 refine wpAny_bind (wpAny_rule (wpAny_bind (unpackItems_tuple (items:=#[u1,u2]) (I.ok.hd hc) (IsTup.new s1.heap _) λh' hx'=>?_)))
 have I3:=I2.kept (h':=h') (t':=s1.toks) λb o e=>hx' b o (Nat.ne_of_lt (Heap.lt_size e)) e
 show wpAny _ _ (assignInOrder [λv=>bindName X.env y v,λv=>bindName X.env x v] [u2,u1] >>= λ_=>pure Flow.next) _ _ _
 refine wpAny_bind (assignInOrder_cons (wpAny_bindName (Q8 I3 hN hj (.inl hy) rw' (λs2 I4=>?_) (.inr hy))))
 refine assignInOrder_cons (wpAny_bindName (Q8 I4 hN hi (.inl hx) rv (λs3 I5=>assignInOrder_nil (wpAny_pure ?_)) (.inr hx)))
 rw[List.set_comm _ _ (Ne.symm hij)] at I5
 exact⟨_,H1,I5,q1⟩
noncomputable def Pn (i:Nat)(te:TE)(ti:TIp):TS:=λD σ H=>∃ x,σ[i]?=some (some x)/\te σ H λy H1=>ti x y H1 λz H2=>D.nx (σ.set i (some z)) H2
theorem B8 {i:Nat}{x:Str}{e:Expr}{te:TE}{op:Operator}{ti:TIp}{pos':Pos}(hN:X.N.Nodup)(hi:X.N[i]?=some x)(hx:Loc X.env.scope x)(he:PE X e te)(ho:PIp X op ti)(hf:X.fn x=true∨X.env.scope.names.lookup x=some .local:=by first |exact .inl rfl |exact .inr rfl |assumption):
  PS X (.AugAssign (.Name x pos') op e pos) (Pn i te ti):=by
 intro pins s σ H D I h
 obtain⟨v,e1,h⟩:=h
 obtain⟨m,hn,hl⟩:=I.loc
 have vis:Vis X.env.scope x:=by rcases hx with k |k;exact .inl k;exact .inr (.inl k)
 obtain⟨u,r,l⟩:=hl i x v hi e1 vis
 refine wpAny_AugAssign_Name ?_
 have go:wpAny (model X.prog X.w) X.A (eval e X.env) (λw s₂=>wpAny (model X.prog X.w) X.A (inplaceOp op u w) (λr s₃=>wpAny (model X.prog X.w) X.A (storeName X.env x r) (λ_=>SP X pins D .next) X.xe s₃) X.xe s₂) X.xe s:=by
  refine thn (he pins s σ H _ I h) λw s1 r9=>?_
  obtain⟨y,H1,I1,r1,q1⟩:=r9
  refine thn (ho pins s1 σ H1 v y u w _ I1 r r1 q1) λz s2 r9=>?_
  obtain⟨zv,H2,I2,r2,q2⟩:=r9
  exact Q8 I2 hN hi hx r2 (λs3 I3=>⟨_,H2,I3,q2⟩) hf
 rcases l with⟨hk,hm⟩ | ⟨hk,c,hc,hcell⟩
 ·exact wpAny_loadName_local I.ok.kind hk hn hm go
 ·rcases hk with hk |hk
  ·exact wpAny_loadName_cell I.ok.kind hk hc hcell go
  ·rcases hx with k |k
   ·have:X.env.scope.names.lookup x=some .free:=hk
    rw[k] at this;cases this
   ·have:X.env.scope.names.lookup x=some .free:=hk
    rw[k] at this;cases this
noncomputable def ipI (f:Int->Int->Int):TIp:=λx y H Q=>∃ i j,x= .int i/\y= .int j/\Q (.int (f i j)) H
theorem Lw:PIp X .Add (ipI λi j=>i+j):=by
 intro pins s σ H x y v u Q I r1 r2 h
 obtain⟨i,j,e1,e2,q⟩:=h
 subst e1;subst e2
 obtain⟨t,rfl⟩:=r1
 obtain⟨t',rfl⟩:=r2
 exact iadd_int ⟨.int _,H,I.tok _,⟨_,rfl⟩,q⟩
end
section
variable {X:Cx}{pos:Pos}
noncomputable def Bf (c:TT)(tb:TS):TS:=λD σ H=>∃ W:Nat->St->Hp->Prop,(∃m,W m σ H)/\∀m σ H,W m σ H->
 c σ H λb H1=>if b=true then ∃N:St->Hp->Prop,(∀σ' H',N σ' H'->∃m',m'<m/\W m' σ' H')/\tb {D with nx:=N,ct:=N,bk:=D.nx} σ H1 else D.nx σ H1
theorem J3 {c:Expr}{body:List Stmt}{tc:TT}{tb:TS}(hp:PassesOwn (model X.prog X.w) X.A X.env X.xe)(hc:PT X c tc)(hb:PSs X body tb):PS X (.While c body [] pos) (Bf tc tb):=by
 intro pins s σ H D I h
 obtain⟨W,⟨m0,w0⟩,turn⟩:=h
 refine wpAny_While (codeAny_whileLoop (λn s'=>∃ σ' H',Inv X pins σ' H' s'/\W n σ' H') ?_ m0 ⟨σ,H,I,w0⟩)
 rintro n s1 ⟨σ1,H1,I1,w1⟩
 refine wpAny_passesOwn hp (thn (hc pins s1 σ1 H1 _ I1 (turn n σ1 H1 w1)) λb s2 r9=>?_)
 obtain⟨H2,I2,q2⟩:=r9
 cases b with
 |true=>
  obtain⟨N,hN,q2⟩:=q2
  rw[if_pos rfl]
  refine wpAny_passesOwn hp (thn (hb pins s2 σ1 H2 _ I2 q2) λf s3 q3=>?_)
  cases f with
  |next=>
   obtain⟨σ3,H3,I3,n3⟩:=q3
   obtain⟨m',hm,w3⟩:=hN σ3 H3 n3
   exact⟨m',hm,σ3,H3,I3,w3⟩
  |cont=>
   obtain⟨σ3,H3,I3,n3⟩:=q3
   obtain⟨m',hm,w3⟩:=hN σ3 H3 n3
   exact⟨m',hm,σ3,H3,I3,w3⟩
  |brk=>exact q3
  |ret v=>exact q3
 |false=>
  rw[if_neg Bool.false_ne_true]
  exact wpAny_execs_nil ⟨σ1,H2,I2,q2⟩
end
structure It where
 go:Nat->Hp->Prop
 yld:Nat->Hp->V->Hp->Prop
 stop:Nat->Hp->Prop
noncomputable def CZ (X:Cx)(pins:List (Addr×Obj))(H:Hp)(b:Addr):Prop:=
 H b=none/\b≠X.env.locals/\b∉X.fs/\(b∈X.ex∨X.s₀.heap.objs.size<=b)/\(∀x c,X.env.cells.lookup x=some c->c≠b)/\∀p∈X.pn++pins,p.1≠b
theorem Inv.fpOk {X:Cx}{pins:List (Addr×Obj)}{σ:St}{H H':Hp}{s:Shared}{b:Addr}(I:Inv X pins σ H s)(hb:s.heap.objs.size<=b)(hn:H' b=none):CZ X pins H' b:=by
 refine⟨hn,Nat.ne_of_gt (Nat.lt_of_lt_of_le I.lt hb),I.nofs hb, .inr (Nat.le_trans I.sz hb),λx c e z=>?_,λp hp z=>?_⟩
 ·obtain⟨v,q⟩:=I.cell x c e
  exact absurd (Nat.lt_of_lt_of_le q.lt (by rw[z];exact hb)) (Nat.lt_irrefl _)
 ·exact absurd (Nat.lt_of_lt_of_le (Heap.lt_size (I.pin p hp).1) (by rw[z];exact hb)) (Nat.lt_irrefl _)
structure Turn (P:Program)(w:World)(K:PySem.W.Frag)(tg:Expr)(J:It)(fp:List Addr)(it:Addr)(tn:Nat->Heap->Prop):Prop where
 mem:it∈fp
 obj:∀i h,tn i h->∀b∈fp,∃o,h.get? b=some o/\∀v,o.data≠ .cell v
 keep:∀i h h',tn i h->(∀b∈fp,∀o,h.get? b=some o->h'.get? b=some o)->tn i h'
 item:∀(X:Cx),X.prog=P->X.w=w->X.K=K->X.calm=true->∀(i:Nat) (pins:List (Addr×Obj)) (s:Shared) (σ:St) (H:Hp) (E:Value->Shared->Prop),Inv X pins σ H s->(∀b∈fp,CZ X pins H b)->tn i s.heap->J.go i H->
  wpAny (model P w) X.A (pyNext (.ref it)) (λr s1=>∃ u,r=some u/\
   wpAny (model P w) X.A (letOwnedTupleGo tg (.ref it) u) (λ_ s2=>∃ x H',Inv X pins σ H' s2/\X4 x u/\J.yld i H x H'/\tn (i+1) s2.heap/\∀b∈fp,H' b=none) E s1) E s
 done:∀(X:Cx),X.prog=P->X.w=w->X.K=K->X.calm=true->∀(i:Nat) (pins:List (Addr×Obj)) (s:Shared) (σ:St) (H:Hp) (E:Value->Shared->Prop),Inv X pins σ H s->(∀b∈fp,CZ X pins H b)->tn i s.heap->J.stop i H->
  wpAny (model P w) X.A (pyNext (.ref it)) (λr s1=>r=none/\Inv X pins σ H s1) E s
 self:∀(A:Around) (i:Nat) (s:Shared) (Q:Value->Shared->Prop) (E:Value->Shared->Prop),tn i s.heap->Q (.ref it) s->wpAny (model P w) A (pyIter (.ref it)) Q E s
noncomputable abbrev TI:=St->Hp->(It->Hp->Prop)->Prop
noncomputable def PIE (X:Cx)(pins:List (Addr×Obj))(σ:St)(tg:Expr)(R:It->Hp->Prop)(itv:Value)(s2:Shared):Prop:=
 ∃(it:Addr) (fp:List Addr) (tn:Nat->Heap->Prop) (J:It) (H':Hp),itv= .ref it/\Inv X pins σ H' s2/\Turn X.prog X.w X.K tg J fp it tn/\tn 0 s2.heap/\(∀b∈fp,CZ X pins H' b)/\R J H'
noncomputable def PI (X:Cx)(tg iter:Expr)(wi:TI):Prop:=
 ∀(pins:List (Addr×Obj)) (s:Shared) (σ:St) (H:Hp) (R:It->Hp->Prop),Inv X pins σ H s->wi σ H R->
  wpAny (model X.prog X.w) X.A (eval iter X.env) (λv s1=>wpAny (model X.prog X.w) X.A (pyIter v) (PIE X pins σ tg R) X.xe s1) X.xe s
theorem O7 {M:Model}{A:Around}{E:Value->Shared->Prop}{s:Shared}{tg:Expr}{it:Addr}{u:Value}{o:Obj}{n:String}{vs:Array Value}{Q:Unit->Shared->Prop}(ho:s.heap.get? it=some o)(hc:o.cls= .type n)(hd:o.data= .fields vs)
    (hn: ["enumerate","zip","dict_itemiterator","dict_reverseitemiterator","odict_iterator","itertools.zip_longest","itertools.pairwise"].contains n=false)(hQ:Q () s):wpAny M A (letOwnedTupleGo tg (.ref it) u) Q E s:=by
  unfold letOwnedTupleGo
  cases tg<;> first
    |exact wpAny_pure hQ
    | (cases u<;> first
        |exact wpAny_pure hQ
        | (refine wpAny_bind (wpAny_load ho ?_)
           rw[hc,hd]
           show wpAny M A (if(["enumerate","zip","dict_itemiterator","dict_reverseitemiterator","odict_iterator","itertools.zip_longest","itertools.pairwise"].contains n&&vs[0]?==some (rawInt _))=true then _ else _) Q E s
           rw[if_neg (by intro h;rw[hn,Bool.false_and] at h;cases h)]
           exact wpAny_pure hQ))
noncomputable def Itl (K:PySem.W.Frag)(a:Addr):It:=
 ⟨λi H=>∃ xs x,SqL K H a xs/\xs[i]?=some x,λi H x H'=>H'=H/\∀xs,SqL K H a xs->xs[i]?=some x,λi H=>∃ xs,SqL K H a xs/\xs.length<=i⟩
noncomputable def Itr (lo:Int)(n:Nat):It:=⟨λi _=>i<n,λi H x H'=>H'=H/\x= .int (lo+i),λi _=>n<=i⟩
theorem Ei {P:Program}{w:World}{K:PySem.W.Frag}{tg:Expr}(a it:Addr):Turn P w K tg (Itl K a) [it] it (λi h=>h.IsListIter it a i) where
 mem:=by simp
 obj:=λi h st b hb=>by
  have e:b=it:=by simpa using hb
  subst e
  obtain⟨o,e,c,d⟩:=st
  exact⟨o,e,λv z=>by rw[d] at z;cases z⟩
 keep:=λi h h' st k=>st.at λo e=>k it (by simp) o e
 item:=by
  intro X hP hw hK hc i pins s σ H E I hf st hg
  subst hP hw hK
  obtain⟨xs,x,hq,hx⟩:=hg
  obtain⟨its,rv,p,hz⟩:=I.list hq
  obtain⟨u,hu,ru⟩:=rv.get hx
  obtain⟨f0,f1,f2,f3,f4,f5⟩:=hf it (by simp)
  refine wpAny_pyNext_list_item st p.isList (x:=u) (by simpa using hu) λh' st' sb=>?_
  have I1:Inv X pins σ H {s with heap:=h'}:=I.turned (t':=s.toks) (λb o hb e=>(sb.2 b hb).trans e) f0 f1 f3 f4 f5
  obtain⟨o,e,c,d⟩:=id st'
  exact⟨u,rfl,O7 (s:={s with heap:=h'}) e c d (by decide) ⟨x,H,I1,ru,⟨rfl,λys hy=>by rw[I.list_inj hy hq];exact hx⟩,st',λb hb=>(hf b hb).1⟩⟩
 done:=by
  intro X hP hw hK hc i pins s σ H E I hf st hg
  subst hP hw hK
  obtain⟨xs,hq,hx⟩:=hg
  obtain⟨its,rv,p,hz⟩:=I.list hq
  obtain⟨f0,f1,f2,f3,f4,f5⟩:=hf it (by simp)
  have hl:=rv.length
  exact wpAny_pyNext_list_end (I.ok.hd hc) st p.isList (by simp;omega) λh' eb=>⟨rfl,I.turned (t':=s.toks) (λb o hb e=>eb b o hb e) f0 f1 f3 f4 f5⟩
 self:=λ_ _ _ _ _ st h=>wpAny_pyIter_listiter st h
theorem D0 {P:Program}{w:World}{K:PySem.W.Frag}{tg:Expr}(it:Addr)(lo:Int)(n:Nat):Turn P w K tg (Itr lo n) [it] it (λi h=>IsRangeIter h it (lo+(i:Nat)*1) ((n:Int)-(i:Nat)) 1) where
 mem:=by simp
 obj:=λi h st b hb=>by
  have e:b=it:=by simpa using hb
  subst e
  exact⟨_,st,λv z=>by
   have z':Data.fields _=Data.cell v:=z
   cases z'⟩
 keep:=λi h h' st k=>k it (by simp) _ st
 item:=by
  intro X hP hw hK hc i pins s σ H E I hf st hg
  subst hP hw hK
  obtain⟨f0,f1,f2,f3,f4,f5⟩:=hf it (by simp)
  have W:=Walks.range (prog:=X.prog) (w:=X.w) (I.ok.hd hc) it lo 1 n
  refine W.item i s _ _ hg st λv h' tk hv st' kk=>?_
  obtain⟨t,rfl⟩:=hv
  have I1:Inv X pins σ H {s with heap:=h',toks:=tk}:=I.turned (λb o hb e=>kk b o (by simpa using hb) e) f0 f1 f3 f4 f5
  refine⟨_,rfl,O7 (s:={s with heap:=h',toks:=tk}) (n:="range_iterator") st' rfl rfl (by decide) ⟨.int (lo+i),H,I1,⟨t,?_⟩,⟨rfl,rfl⟩,st',λb hb=>(hf b hb).1⟩⟩
  rw[Int.mul_one]
 done:=by
  intro X hP hw hK hc i pins s σ H E I hf st hg
  subst hP hw hK
  obtain⟨f0,f1,f2,f3,f4,f5⟩:=hf it (by simp)
  exact wpAny_pyNext_range_end (I.ok.hd hc) st (by have:n<=i:=hg;omega) λh' eb=>⟨rfl,I.turned (t':=s.toks) (λb o hb e=>eb b o hb e) f0 f1 f3 f4 f5⟩
 self:=λ_ _ _ _ _ st h=>wpAny_pyIter_rangeiter st h
section
variable {X:Cx}{tg:Expr}
noncomputable def Ir (K:PySem.W.Frag)(tl:TE):TI:=λσ H R=>tl σ H λx H1=>∃ a,x= .ref a/\(∃xs,SqL K H1 a xs)/\R (Itl K a) H1
theorem Np {l:Expr}{tl:TE}(hl:PE X l tl):PI X tg l (Ir X.K tl):=by
 intro pins s σ H R I h
 refine thn (hl pins s σ H _ I h) λv s1 r9=>?_
 obtain⟨x,H1,I1,r1,q1⟩:=r9
 obtain⟨a,e,⟨xs,hq⟩,q⟩:=q1
 subst e
 cases r1
 obtain⟨its,rv,p,hz⟩:=I1.list hq
 refine wpAny_pyIter_list p.isList ?_
 refine⟨s1.heap.objs.size,[s1.heap.objs.size],_,_,H1,rfl,I1.kept (t':=s1.toks) λb o e=>Heap.get?_push_of_some _ e,Ei a _,⟨_,Heap.get?_push_size _ rfl,rfl,rfl⟩,λb hb=>?_,q⟩
 have e:b=s1.heap.objs.size:=by simpa using hb
 subst e
 exact I1.fpOk (Nat.le_refl _) (I1.hok.fresh (Nat.le_refl _))
theorem Il {pins:List (Addr×Obj)}{σ:St}{H:Hp}{s:Shared}{R:It->Hp->Prop}{E:Value->Shared->Prop}{lo hi:Int}{t u v:Tok}{tk:Nat}(I:Inv X pins σ H s)(h1: -(2^62)<=lo)(h2:lo<2^62)(h3: -(2^62)<=hi)(h4:hi<2^62)
  (q:R (Itr lo (hi-lo).toNat) H):wpAny (model X.prog X.w) X.A (pyIter (.ref s.heap.objs.size)) (PIE X pins σ tg R) E {s with heap:=s.heap.push {cls:=.type "range",data:=.fields #[.int lo t, .int hi u, .int 1 v]},toks:=tk}:=by
 refine wpAny_pyIter_range (IsRange.new ..) (small_one h1 h2 h3 h4) ?_
 have I1:Inv X pins σ H {s with heap:=s.heap.push {cls:=.type "range",data:=.fields #[.int lo t, .int hi u, .int 1 v]},toks:=tk}:=I.kept λb o e=>Heap.get?_push_of_some _ e
 refine⟨(s.heap.push {cls:=.type "range",data:=.fields #[.int lo t, .int hi u, .int 1 v]}).objs.size,[(s.heap.push {cls:=.type "range",data:=.fields #[.int lo t, .int hi u, .int 1 v]}).objs.size],_,_,H,rfl,
  I1.kept (t':=tk) λb o e=>Heap.get?_push_of_some _ e,D0 _ lo (hi-lo).toNat,?_,λb hb=>?_,q⟩
 ·have e1:lo+((0:Nat):Int)*1=lo:=by simp
  have e2:(((hi-lo).toNat:Nat):Int)-((0:Nat):Int)=Builtin.Range.rangeSize lo hi 1:=by rw[rangeSize_one];split<;> omega
  show IsRangeIter _ _ (lo+((0:Nat):Int)*1) ((((hi-lo).toNat:Nat):Int)-((0:Nat):Int)) 1
  rw[e1,e2]
  exact Heap.get?_push_size _ rfl
 ·have e:b=(s.heap.push {cls:= .type "range",data:= .fields #[.int lo t, .int hi u, .int 1 v]}).objs.size:=by simpa using hb
  subst e
  exact I1.fpOk (Nat.le_refl _) (I1.hok.fresh (Nat.le_refl _))
noncomputable def MF (ta:TA):TI:=λσ H R=>ta σ H λvs H1=>∃ j:Int,vs=[.int j]/\ -(2^62)<=j/\j<2^62/\R (Itr 0 j.toNat) H1
theorem Xw {a:Expr}{ta:TA}{p pos:Pos}(hg:Gl X "range")(hm:X.mg "range" =none)(ha:PA X [a] ta)(hs:starEach [a] X.env=[(false,eval a X.env)]:=by rfl):PI X tg (.Call (.Name "range" p) [a] [] pos) (MF ta):=by
 intro pins s σ H R I h
 refine Call_ (Vg I hg hm boot_range (PyProof.Rows.callWith_type1 (thn (ha pos pins s σ H _ I h) λus s1 r9=>?_) hs rfl))
 obtain⟨vs,H1,I1,r1,q1⟩:=r9
 obtain⟨j,e,q1,q2,q⟩:=q1
 subst e
 cases r1 with
 |cons r rr=>
  cases rr
  obtain⟨t,rfl⟩:=r
  exact call_range_1 (Il I1 (by omega) (by omega) q1 q2 (by simpa using q))
noncomputable def NT (wi:TI)(g:TG)(tb:TS):TS:=λD σ H=>wi σ H λJ H1=>∃ W:Nat->Nat->St->Hp->Prop,(∃m,W 0 m σ H1)/\∀i m σ H,W i m σ H->
 (J.stop i H/\D.nx σ H)∨(J.go i H/\∃N:St->Hp->Prop,(∀σ' H',N σ' H'->∃m',m'<m/\W (i+1) m' σ' H')/\∀x H',J.yld i H x H'->g x σ H' λσ2 H2=>tb {D with nx:=N,ct:=N,bk:=D.nx} σ2 H2)
noncomputable def KP (fp:List Addr)(h:Heap):List (Addr×Obj):=fp.filterMap λb=>(h.get? b).map λo=>(b,o)
theorem Jp {fp:List Addr}{h:Heap}{b:Addr}{o:Obj}(hb:b∈fp)(e:h.get? b=some o):(b,o)∈KP fp h:=List.mem_filterMap.mpr ⟨b,hb,by rw[e];rfl⟩
theorem EN {fp:List Addr}{h:Heap}{p:Addr×Obj}(hp:p∈KP fp h):p.1∈fp/\h.get? p.1=some p.2:=by
 obtain⟨b,hb,e⟩:=List.mem_filterMap.mp hp
 cases q:h.get? b with
 |none=>rw[q] at e;cases e
 |some o=>
  rw[q] at e
  have e':(b,o)=p:=Option.some.inj e
  subst e'
  exact⟨hb,q⟩
theorem Inv.pinned {pins:List (Addr×Obj)}{σ:St}{H:Hp}{s:Shared}{fp:List Addr}(I:Inv X pins σ H s)(hf:∀b∈fp,CZ X pins H b)(ho:∀b∈fp,∃o,s.heap.get? b=some o/\∀v,o.data≠ .cell v):Inv X (pins++KP fp s.heap) σ H s:=
 I.pins_of λp hp=>(List.mem_append.mp hp).elim (λz=>I.pin p (List.mem_append_right _ z)) λz=>by
  obtain⟨hb,e⟩:=EN z
  obtain⟨f0,f1,f2,_⟩:=hf p.1 hb
  obtain⟨o,e',d⟩:=ho p.1 hb
  rw[e] at e';cases e'
  exact⟨e,f0,f1,f2,d⟩
theorem Inv.unpinned {pins pl:List (Addr×Obj)}{σ:St}{H:Hp}{s:Shared}(I:Inv X (pins++pl) σ H s):Inv X pins σ H s:=I.pins_of λp hp=>I.pin p (List.mem_append_right _ (List.mem_append_left _ hp))
theorem XG {iter:Expr}{body:List Stmt}{wi:TI}{g:TG}{tb:TS}{pos:Pos}(hp:PassesOwn (model X.prog X.w) X.A X.env X.xe)(hc:X.calm=true)(hi:PI X tg iter wi)(hg:PG X tg g)(hb:PSs X body tb)
  (hs:∀x,foldedSetIterable iter X.env x=pure x:=by intro _;rfl):PS X (.For tg iter body [] pos) (NT wi g tb):=by
 intro pins s σ H D I h
 refine wpAny_For (thn (hi pins s σ H _ I h) λv s1 h1=>thn h1 λitv s2 h2=>?_) hs
 obtain⟨it,fp,tn,J,H2,e,I2,T,st2,f2,W,⟨m0,w0⟩,turn⟩:=h2
 subst e
 -- what stays true of the iterator's objects through the loop
 have stat:∀{H':Hp},(∀b∈fp,H' b=none)->∀b∈fp,CZ X pins H' b:=λhn b hb=>⟨hn b hb,(f2 b hb).2⟩
 refine codeAny_forLoop_any (λn s'=>∃ i σ' H',Inv X pins σ' H' s'/\tn i s'.heap/\(∀b∈fp,H' b=none)/\W i n σ' H') ?_ m0 ⟨0,σ,H2,I2,st2,λb hb=>(f2 b hb).1,w0⟩
 rintro n s3 ⟨i,σ3,H3,I3,st3,fr3,w3⟩
 rcases turn i n σ3 H3 w3 with⟨stop,qn⟩ | ⟨go,N,hN,step⟩
 ·refine wpAny_passesOwn hp (thn (T.done X rfl rfl rfl hc i pins s3 σ3 H3 X.xe I3 (stat fr3) st3 stop) λr s4 r9=>?_)
  obtain⟨hr,I4⟩:=r9
  subst hr
  exact wpAny_execs_nil ⟨σ3,H3,I4,qn⟩
 ·refine wpAny_passesOwn hp (thn (T.item X rfl rfl rfl hc i pins s3 σ3 H3 X.xe I3 (stat fr3) st3 go) λr s4 r9=>?_)
  obtain⟨u,hr,h4⟩:=r9
  subst hr
  refine wpAny_passesOwn hp (thn h4 λ_ s5 r9=>?_)
  obtain⟨x,H5,I5,r5,y5,st5,fr5⟩:=r9
  have I5':=I5.pinned (stat fr5) (T.obj _ _ st5)
  refine wpAny_passesOwn hp (thn (hg _ s5 σ3 H5 x u _ I5' r5 (step x H5 y5)) λ_ s6 r9=>?_)
  obtain⟨σ6,H6,I6,q6⟩:=r9
  refine wpAny_passesOwn hp (thn (hb _ s6 σ6 H6 _ I6 q6) λf s7 q7=>?_)
  have again:∀{σ7:St}{H7:Hp},Inv X (pins++KP fp s5.heap) σ7 H7 s7->N σ7 H7->∃m,m<n/\∃i σ' H',Inv X pins σ' H' s7/\tn i s7.heap/\(∀b∈fp,H' b=none)/\W i m σ' H':=fun {σ7 H7} I7 n7=>by
   obtain⟨m',hm,w7⟩:=hN σ7 H7 n7
   refine⟨m',hm,i+1,σ7,H7,I7.unpinned,T.keep _ _ _ st5 λb hb o e=>(I7.pin (b,o) (List.mem_append_right _ (List.mem_append_right _ (Jp hb e)))).1,λb hb=>?_,w7⟩
   obtain⟨o,e,d⟩:=T.obj _ _ st5 b hb
   exact(I7.pin (b,o) (List.mem_append_right _ (List.mem_append_right _ (Jp hb e)))).2.1
  cases f with
  |next=>obtain⟨σ7,H7,I7,n7⟩:=q7;exact again I7 n7
  |cont=>obtain⟨σ7,H7,I7,n7⟩:=q7;exact again I7 n7
  |brk=>obtain⟨σ7,H7,I7,q7⟩:=q7;exact⟨σ7,H7,I7.unpinned,q7⟩
  |ret v=>obtain⟨x7,σ7,H7,I7,r7,q7⟩:=q7;exact⟨x7,σ7,H7,I7.unpinned,r7,q7⟩
end
noncomputable abbrev R2:=V->V->Hp->VK->Prop
noncomputable def OpR (X:Cx)(f:Value->Value->Sem Value)(r:R2):Prop:=
 ∀(pins:List (Addr×Obj)) (s:Shared) (σ:St) (H:Hp) (x y:V) (v u:Value) (Q:VK),Inv X pins σ H s->X4 x v->X4 y u->r x y H Q->
  wpAny (model X.prog X.w) X.A (f v u) (EP X pins σ Q) X.xe s
noncomputable def UnR (X:Cx)(f:Value->Sem Value)(r:V->Hp->VK->Prop):Prop:=
 ∀(pins:List (Addr×Obj)) (s:Shared) (σ:St) (H:Hp) (x:V) (v:Value) (Q:VK),Inv X pins σ H s->X4 x v->r x H Q->
  wpAny (model X.prog X.w) X.A (f v) (EP X pins σ Q) X.xe s
noncomputable def Z2 (X:Cx)(f:Value)(r:List V->Hp->VK->Prop):Prop:=
 ∀(pins:List (Addr×Obj)) (s:Shared) (σ:St) (H:Hp) (xs:List V) (us:List Value) (Q:VK),Inv X pins σ H s->Ya xs us->r xs H Q->
  wpAny (model X.prog X.w) X.A (call f us) (EP X pins σ Q) X.xe s
noncomputable def tOp (r:R2)(ta tb:TE):TE:=λσ H Q=>ta σ H λx H1=>tb σ H1 λy H2=>r x y H2 Q
noncomputable def tUn (r:V->Hp->VK->Prop)(ta:TE):TE:=λσ H Q=>ta σ H λx H1=>r x H1 Q
noncomputable def rI (C:Int->Int->Prop)(g:Int->Int->V):R2:=λx y H Q=>∃ i j,x= .int i/\y= .int j/\C i j/\Q (g i j) H
noncomputable def rI0 (g:Int->Int->V):R2:=λx y H Q=>∃ i j,x= .int i/\y= .int j/\Q (g i j) H
noncomputable def rU (g:Int->V):V->Hp->VK->Prop:=λx H Q=>∃ i,x= .int i/\Q (g i) H
section
variable {X:Cx}{a b c:Expr}{ta tb tc:TE}{pos:Pos}
theorem Rc (ha:PE X a ta)(hb:PE X b tb){pins:List (Addr×Obj)}{s:Shared}{σ:St}{H:Hp}{R:V->V->Hp->Prop}(I:Inv X pins σ H s)
  (h:ta σ H λx H1=>tb σ H1 λy H2=>R x y H2){Q:Value->Shared->Prop}{f:Value->Value->Sem Value}
  (hf:∀v u s2 x y H2,Inv X pins σ H2 s2->X4 x v->X4 y u->R x y H2->wpAny (model X.prog X.w) X.A (f v u) Q X.xe s2):
  wpAny (model X.prog X.w) X.A (eval a X.env) (λv s₁=>wpAny (model X.prog X.w) X.A (eval b X.env) (λu s₂=>wpAny (model X.prog X.w) X.A (f v u) Q X.xe s₂) X.xe s₁) X.xe s:=by
 refine thn (ha pins s σ H _ I h) λv s1 r9=>?_
 obtain⟨x,H1,I1,r1,q1⟩:=r9
 refine thn (hb pins s1 σ H1 _ I1 q1) λu s2 r9=>?_
 obtain⟨y,H2,I2,r2,q2⟩:=r9
 exact hf v u s2 x y H2 I2 r1 r2 q2
theorem Xl {op:Operator}{r:R2}(ho:OpR X (binaryOp op) r)(ha:PE X a ta)(hb:PE X b tb):PE X (.BinOp a op b pos) (tOp r ta tb):=by
 intro pins s σ H Q I h
 exact wpAny_BinOp (Rc ha hb I h λv u s2 x y H2 I2 rx ry q=>ho pins s2 σ H2 x y v u Q I2 rx ry q)
theorem KJ {op:UnaryOp}{r:V->Hp->VK->Prop}(ho:UnR X (unaryOp op) r)(ha:PE X a ta):PE X (.UnaryOp op a pos) (tUn r ta):=by
 intro pins s σ H Q I h
 exact UnaryOp_ (thn (ha pins s σ H _ I h) λv s1 r9=>by obtain⟨x,H1,I1,r1,q1⟩:=r9;exact ho pins s1 σ H1 x v Q I1 r1 q1)
theorem opI {f:Value->Value->Sem Value}{C:Int->Int->Prop}{g:Int->Int->Int}
  (rule:∀(i j:Int) (t u:Tok) (s:Shared) (Q:Value->Shared->Prop) (E:Value->Shared->Prop),C i j->Q (.int (g i j) s.toks) {s with toks:=s.toks+1}->wpAny (model X.prog X.w) X.A (f (.int i t) (.int j u)) Q E s):
  OpR X f (rI C λi j=>.int (g i j)):=by
 intro pins s σ H x y v u Q I rx ry h
 obtain⟨i,j,rfl,rfl,hc,q⟩:=h
 obtain⟨t,rfl⟩:=rx
 obtain⟨t',rfl⟩:=ry
 exact rule i j t t' s _ _ hc ⟨.int (g i j),H,I.tok _,⟨_,rfl⟩,q⟩
theorem RE {f:Value->Value->Sem Value}{g:Int->Int->Int}
  (rule:∀(i j:Int) (t u:Tok) (s:Shared) (Q:Value->Shared->Prop) (E:Value->Shared->Prop),Q (.int (g i j) s.toks) {s with toks:=s.toks+1}->wpAny (model X.prog X.w) X.A (f (.int i t) (.int j u)) Q E s):
  OpR X f (rI0 λi j=>.int (g i j)):=by
 intro pins s σ H x y v u Q I rx ry h
 obtain⟨i,j,rfl,rfl,q⟩:=h
 obtain⟨t,rfl⟩:=rx
 obtain⟨t',rfl⟩:=ry
 exact rule i j t t' s _ _ ⟨.int (g i j),H,I.tok _,⟨_,rfl⟩,q⟩
theorem Pp {f:Value->Value->Sem Value}{g:Int->Int->Bool}
  (rule:∀(i j:Int) (t u:Tok) (s:Shared) (Q:Value->Shared->Prop) (E:Value->Shared->Prop),Q (.bool (g i j)) s->wpAny (model X.prog X.w) X.A (f (.int i t) (.int j u)) Q E s):
  OpR X f (rI0 λi j=>.bl (g i j)):=by
 intro pins s σ H x y v u Q I rx ry h
 obtain⟨i,j,rfl,rfl,q⟩:=h
 obtain⟨t,rfl⟩:=rx
 obtain⟨t',rfl⟩:=ry
 exact rule i j t t' s _ _ ⟨.bl (g i j),H,I,rfl,q⟩
noncomputable def Rk (i j:Int):Prop:=0<=j/\j<=1000000/\i.natAbs<2^64
noncomputable def NU (i j:Int):Prop:=(-(2^64)<i/\i<2^64)∨(-(2^64)<j/\j<2^64)
theorem NU.ok {i j:Int}(h:NU i j):IntMulOk i j:=by
 rcases h with⟨h1,h2⟩ | ⟨h1,h2⟩
 ·exact .of_left (intBits_le_64 h1 h2)
 ·exact .of_right (intBits_le_64 h1 h2)
theorem XJ:OpR X (binaryOp .Add) (rI0 λi j=>.int (i+j)):=RE λ_ _ _ _ _ _ _ q=>add_int q
theorem Zo:OpR X (binaryOp .Sub) (rI0 λi j=>.int (i-j)):=RE λ_ _ _ _ _ _ _ q=>sub_int q
theorem X8:OpR X (binaryOp .Mult) (rI NU λi j=>.int (i*j)):=opI λ_ _ _ _ _ _ _ hc q=>mul_int q hc.ok
theorem X3:OpR X (binaryOp .Mod) (rI (λ_ j=>0<j) λi j=>.int (i % j)):=opI λi j _ _ _ _ _ hc q=>by
 have h1:(0:Int)<j:=hc
 exact mod_int' (by omega) (by rw[Int.fmod_eq_emod_of_nonneg i (by omega)];exact q)
theorem EO:OpR X (binaryOp .Pow) (rI Rk λi j=>.int (i^j.toNat)):=opI λ_ _ _ _ _ _ _ hc q=>pow_int_small hc.1 hc.2.1 hc.2.2 q
theorem unI {f:Value->Sem Value}{g:Int->Int}
  (rule:∀(i:Int) (t:Tok) (s:Shared) (Q:Value->Shared->Prop) (E:Value->Shared->Prop),Q (.int (g i) s.toks) {s with toks:=s.toks+1}->wpAny (model X.prog X.w) X.A (f (.int i t)) Q E s):
  UnR X f (rU λi=>.int (g i)):=by
 intro pins s σ H x v Q I rx h
 obtain⟨i,rfl,q⟩:=h
 obtain⟨t,rfl⟩:=rx
 exact rule i t s _ _ ⟨.int (g i),H,I.tok _,⟨_,rfl⟩,q⟩
theorem JI:UnR X (unaryOp .USub) (rU λi=>.int (-i)):=unI λ_ _ _ _ _ q=>neg_int q
end
noncomputable def PF:V->V->Bool
 | .non, .non=>true | .non, .int _=>true | .int _, .non=>true | .non, .bl _=>true | .bl _, .non=>true | .non, .str _=>true | .str _, .non=>true
 | .int _, .int _=>true | .bl _, .bl _=>true | .str _, .str _=>true | .byt _, .byt _=>true
 | .int _, .str _=>true | .str _, .int _=>true | .bl _, .str _=>true | .str _, .bl _=>true
 |_,_=>false
noncomputable def rEq:R2:=λx y H Q=>PF x y=true/\Q (.bl (decide (x=y))) H
noncomputable def rNe:R2:=λx y H Q=>PF x y=true/\Q (.bl (!decide (x=y))) H
theorem Hh {i j:Int}:decide (V.int i=V.int j)=(i==j):=by
 rw[Bool.eq_iff_iff]
 simp
theorem LD {i j:Bool}:decide (V.bl i=V.bl j)=(i==j):=by
 rw[Bool.eq_iff_iff]
 simp
theorem EC {i j:Str}:decide (V.str i=V.str j)=(i==j):=by
 rw[Bool.eq_iff_iff]
 simp
theorem BB {i j:Array UInt8}:decide (V.byt i=V.byt j)=(i.toList==j.toList):=by
 rw[Bool.eq_iff_iff]
 cases i
 cases j
 simp
section
variable {X:Cx}{a b c:Expr}{ta tb tc:TE}{pos:Pos}
theorem XU {pins:List (Addr×Obj)}{σ:St}{H:Hp}{s:Shared}{Q:VK}{k k':Bool}(I:Inv X pins σ H s)(q:Q (.bl k) H)(e:k=k'):EP X pins σ Q (.bool k') s:=by
 subst e
 exact⟨.bl k,H,I,rfl,q⟩
theorem ZS:OpR X (compareOp .Eq) rEq:=by
 intro pins s σ H x y v u Q I rx ry h
 obtain⟨hs,q⟩:=h
 cases x with
 |non=>
  cases rx
  cases y with
  |non=>cases ry;exact PySem.EqNone.eq_none_none (XU I q (by simp))
  |bl j=>cases ry;exact PySem.EqNone.eq_none_bool (XU I q (by simp))
  |int j=>obtain⟨t',rfl⟩:=ry;exact PySem.EqNone.eq_none_int (XU I q (by simp))
  |str j=>obtain⟨t',rfl⟩:=ry;exact PySem.EqNone.eq_none_str (XU I q (by simp))
  |_=>exact absurd (show false=true from hs) Bool.false_ne_true
 |bl i=>
  cases rx
  cases y with
  |non=>cases ry;exact PySem.EqNone.eq_bool_none (XU I q (by simp))
  |bl j=>cases ry;exact eq_bool (XU I q LD)
  |str j=>obtain⟨t',rfl⟩:=ry;exact PySem.EqMixed.eq_bool_str (XU I q (by simp))
  |_=>exact absurd (show false=true from hs) Bool.false_ne_true
 |int i=>
  obtain⟨t,rfl⟩:=rx
  cases y with
  |non=>cases ry;exact PySem.EqNone.eq_int_none (XU I q (by simp))
  |int j=>obtain⟨t',rfl⟩:=ry;exact eq_int (XU I q Hh)
  |str j=>obtain⟨t',rfl⟩:=ry;exact PySem.EqMixed.eq_int_str (XU I q (by simp))
  |_=>exact absurd (show false=true from hs) Bool.false_ne_true
 |str i=>
  obtain⟨t,rfl⟩:=rx
  cases y with
  |non=>cases ry;exact PySem.EqNone.eq_str_none (XU I q (by simp))
  |bl j=>cases ry;exact PySem.EqMixed.eq_str_bool (XU I q (by simp))
  |int j=>obtain⟨t',rfl⟩:=ry;exact PySem.EqMixed.eq_str_int (XU I q (by simp))
  |str j=>obtain⟨t',rfl⟩:=ry;exact eq_str (XU I q EC)
  |_=>exact absurd (show false=true from hs) Bool.false_ne_true
 |byt i=>
  obtain⟨t,rfl⟩:=rx
  cases y with
  |byt j=>obtain⟨t',rfl⟩:=ry;exact PySem.W.eq_bytes (XU I q BB)
  |_=>exact absurd (show false=true from hs) Bool.false_ne_true
 |_=>cases y<;> exact absurd (show false=true from hs) Bool.false_ne_true
theorem Ig:OpR X (compareOp .NotEq) rNe:=by
 intro pins s σ H x y v u Q I rx ry h
 obtain⟨hs,q⟩:=h
 cases x with
 |non=>
  cases rx
  cases y with
  |non=>cases ry;exact PySem.EqNone.ne_none_none (XU I q (by simp))
  |bl j=>cases ry;exact PySem.EqNone.ne_none_bool (XU I q (by simp))
  |int j=>obtain⟨t',rfl⟩:=ry;exact PySem.EqNone.ne_none_int (XU I q (by simp))
  |str j=>obtain⟨t',rfl⟩:=ry;exact PySem.EqNone.ne_none_str (XU I q (by simp))
  |_=>exact absurd (show false=true from hs) Bool.false_ne_true
 |bl i=>
  cases rx
  cases y with
  |non=>cases ry;exact PySem.EqNone.ne_bool_none (XU I q (by simp))
  |bl j=>cases ry;exact ne_bool (XU I q (congrArg not LD))
  |str j=>obtain⟨t',rfl⟩:=ry;exact PySem.EqMixed.ne_bool_str (XU I q (by simp))
  |_=>exact absurd (show false=true from hs) Bool.false_ne_true
 |int i=>
  obtain⟨t,rfl⟩:=rx
  cases y with
  |non=>cases ry;exact PySem.EqNone.ne_int_none (XU I q (by simp))
  |int j=>obtain⟨t',rfl⟩:=ry;exact ne_int (XU I q (congrArg not Hh))
  |str j=>obtain⟨t',rfl⟩:=ry;exact PySem.EqMixed.ne_int_str (XU I q (by simp))
  |_=>exact absurd (show false=true from hs) Bool.false_ne_true
 |str i=>
  obtain⟨t,rfl⟩:=rx
  cases y with
  |non=>cases ry;exact PySem.EqNone.ne_str_none (XU I q (by simp))
  |bl j=>cases ry;exact PySem.EqMixed.ne_str_bool (XU I q (by simp))
  |int j=>obtain⟨t',rfl⟩:=ry;exact PySem.EqMixed.ne_str_int (XU I q (by simp))
  |str j=>obtain⟨t',rfl⟩:=ry;exact ne_str (XU I q (congrArg not EC))
  |_=>exact absurd (show false=true from hs) Bool.false_ne_true
 |byt i=>
  obtain⟨t,rfl⟩:=rx
  cases y with
  |byt j=>obtain⟨t',rfl⟩:=ry;exact PySem.W.ne_bytes (XU I q (congrArg not BB))
  |_=>exact absurd (show false=true from hs) Bool.false_ne_true
 |_=>cases y<;> exact absurd (show false=true from hs) Bool.false_ne_true
theorem Qz:OpR X (compareOp .Lt) (rI0 λi j=>.bl (decide (i<j))):=Pp λ_ _ _ _ _ _ _ q=>lt_int q
theorem Pv:OpR X (compareOp .LtE) (rI0 λi j=>.bl (decide (i<=j))):=Pp λ_ _ _ _ _ _ _ q=>le_int q
theorem CU:OpR X (compareOp .Gt) (rI0 λi j=>.bl (decide (j<i))):=Pp λ_ _ _ _ _ _ _ q=>gt_int q
theorem OW:OpR X (compareOp .GtE) (rI0 λi j=>.bl (decide (j<=i))):=Pp λ_ _ _ _ _ _ _ q=>ge_int q
theorem Lr:OpR X (compareOp .Is) (λx y H Q=>y= .non/\Q (.bl (decide (x= .non))) H):=by
 intro pins s σ H x y v u Q I rx ry h
 obtain⟨rfl,q⟩:=h
 cases ry
 refine is_none_gen (XU I q ?_)
 cases x<;> first
  | (cases rx;rfl)
  | (obtain⟨t,rfl⟩:=rx;rfl)
theorem Xx (b:Expr){op:CmpOp}(h:op≠ .In:=by decide)(h2:op≠ .NotIn:=by decide):behindInMarks op b=false:=by
 have e1:(op==CmpOp.In)=false:=by cases op<;> first |rfl |exact absurd rfl h
 have e2:(op==CmpOp.NotIn)=false:=by cases op<;> first |rfl |exact absurd rfl h2
 cases b<;> simp[behindInMarks,e1,e2]
theorem Fj {op:CmpOp}{r:R2}(ho:OpR X (compareOp op) r)(ha:PE X a ta)(hb:PE X b tb)(hm:behindInMarks op b=false):PE X (.Compare a [op] [b] pos) (tOp r ta tb):=by
 intro pins s σ H Q I h
 exact wpAny_Compare1 (Rc ha hb I h λv u s2 x y H2 I2 rx ry q=>ho pins s2 σ H2 x y v u Q I2 rx ry q) hm
noncomputable def Mt (t:TE):TT:=λσ H Q=>t σ H λx H'=>∃ k,x= .bl k/\Q k H'
theorem Xp {op:CmpOp}{r:R2}(ho:OpR X (compareOp op) r)(ha:PE X a ta)(hb:PE X b tb)(hm:behindInMarks op b=false):PT X (.Compare a [op] [b] pos) (Mt (tOp r ta tb)):=by
 intro pins s σ H Q I h
 refine wpAny_isTrue_Compare1 (thn (ha pins s σ H _ I h) λv s1 ⟨x,H1,I1,r1,q1⟩=>thn (hb pins s1 σ H1 _ I1 q1) λu s2 ⟨y,H2,I2,r2,q2⟩=>
  thn (ho pins s2 σ H2 x y v u _ I2 r1 r2 q2) λc s3 ⟨z,H3,I3,r3,k,e,q3⟩=>?_) hm
 subst e
 cases r3
 exact wpAny_truthy_bool ⟨H3,I3,q3⟩
theorem DB:(sizeLine:Nat)<2^63:=by rw[sizeLine_eq];decide
theorem UU {x:V}{us:List Value}(r:Ya [x] us):∃u,us=[u]/\X4 x u:=by
 cases r with
 |cons r1 r2=>cases r2;exact⟨_,rfl,r1⟩
theorem Oh {x y:V}{us:List Value}(r:Ya [x,y] us):∃u w',us=[u,w']/\X4 x u/\X4 y w':=by
 cases r with
 |cons r1 r2=>
  cases r2 with
  |cons r3 r4=>cases r4;exact⟨_,_,rfl,r1,r3⟩
theorem Dz:Z2 X (.builtin "abs") (λxs H Q=>∃ i,xs=[.int i]/\Q (.int (if i<0 then-i else i)) H):=by
 intro pins s σ H xs us Q I r h
 obtain⟨i,rfl,q⟩:=h
 obtain⟨u,rfl,t,rfl⟩:=UU r
 exact call_abs_int λu tk=>⟨.int (if i<0 then-i else i),H,I.tok _,⟨_,rfl⟩,q⟩
theorem Vc (hc:X.calm=true):Z2 X (.builtin "max") (λxs H Q=>∃ i j,xs=[.int i, .int j]/\Q (.int (if j > i then j else i)) H):=by
 intro pins s σ H xs us Q I r h
 obtain⟨i,j,rfl,q⟩:=h
 obtain⟨u,w',rfl,⟨t,rfl⟩,⟨t',rfl⟩⟩:=Oh r
 refine max_two_ints (I.ok.hd hc) λh' tk k=>⟨_,H,I.kept k,?_,q⟩
 by_cases hj:j > i
 ·rw[if_pos hj,if_pos hj];exact⟨_,rfl⟩
 ·rw[if_neg hj,if_neg hj];exact⟨_,rfl⟩
theorem Gs (hc:X.calm=true):Z2 X (.builtin "min") (λxs H Q=>∃ i j,xs=[.int i, .int j]/\Q (.int (if j<i then j else i)) H):=by
 intro pins s σ H xs us Q I r h
 obtain⟨i,j,rfl,q⟩:=h
 obtain⟨u,w',rfl,⟨t,rfl⟩,⟨t',rfl⟩⟩:=Oh r
 refine min_two_ints (I.ok.hd hc) λh' tk k=>⟨_,H,I.kept k,?_,q⟩
 by_cases hj:j<i
 ·rw[if_pos hj,if_pos hj];exact⟨_,rfl⟩
 ·rw[if_neg hj,if_neg hj];exact⟨_,rfl⟩
end
structure ObjM (h:Heap)(x dx C:Addr)(mA:Str->Option Value):Prop where
 obj:h.get? x=some (PySem.W.instObj C dx)
 ns:h.Ns1 dx mA
 ne:dx≠x
theorem EK {h:Heap}{dx:Addr}{mA:Str->Option Value}(n:h.Ns1 dx mA):∃od,h.get? dx=some od/\∀name,PySem.W.lookIn name od=some (mA name):=by
 obtain⟨o,es,ep,ho,hd,hk,_,hm⟩:=n
 refine⟨o,ho,λname=>?_⟩
 have e:=hm name
 unfold nsFind findBy at e
 rw[←Array.find?_toList] at e
 unfold PySem.W.lookIn
 rw[hd]
 dsimp only
 split
 ·rename_i y q
  rw[q] at e
  exact congrArg some e
 ·rename_i q
  rw[q] at e
  have a:es.toList.any (·.refKey)=false:=by
   rw[List.any_eq_false]
   intro y hy
   obtain⟨z,t,hkey⟩:=hk y (Array.mem_toList_iff.mp hy)
   simp[DictEntry.refKey,hkey]
  have a':¬es.toList.any (·.refKey)=true:=by rw[a];exact Bool.false_ne_true
  rw[if_neg a']
  exact congrArg some e
theorem ObjM.look {h:Heap}{x dx C:Addr}{mA:Str->Option Value}(I:ObjM h x dx C mA):∃od,PySem.W.InstAt h x (PySem.W.instObj C dx) C (some od)/\∀name,PySem.W.lookIn name od=some (mA name):=
 let ⟨od,ho,hl⟩:=EK I.ns
 ⟨od,⟨I.obj,rfl,rfl,ho⟩,hl⟩
section
variable {prog:Program}{w:World}{A:Around}{E:Value->Shared->Prop}{s:Shared}{K:PySem.W.Frag}{x dx C f:Addr}{mA:Str->Option Value}{name:Str}{v:Value}
end
theorem ET.some_of {v:V}{o:Option Value}(r:ET (some v) o):∃u,o=some u/\X4 v u:=by
 cases o with
 |none=>exact(show False from r).elim
 |some u=>exact⟨u,rfl,r⟩
section
variable {P:Program}{w:World}{H H':Hp}{h h':Heap}{a C dx:Addr}{fs fs':List (Str×V)}
theorem LS (hok:HOk P w H h)(e:H a=some (.ins C dx fs)):∃mA,ObjM h a dx C mA/\(∀f,ET (fs.lookup f) (mA f))/\PySem.Within mA (fs.map (·.1))/\fs.length<=1000/\H dx=some (.own a):=by
 obtain⟨d,z,ne,ob,mA,n,r,q⟩:=(show YG P w H h a (.ins C dx fs) from hok a _ e)
 exact⟨mA,⟨ob,n,ne⟩,r,q,z,d⟩
end
structure Cls (K:PySem.W.Frag)(C:Addr):Prop where
 pg:PySem.W.plainGet K C Str.empty=true
 hd:PySem.W.hasDictIn K C=true
 po:PySem.W.plainOver K C=true
 sa:PySem.W.findIn K (.ref C) "__setattr__" =some (some (.builtin "object.__setattr__"))
theorem Cls.get {K:PySem.W.Frag}{C:Addr}(c:Cls K C)(f:Str):PySem.W.plainGet K C f=true:=c.pg
section
variable {X:Cx}{pins:List (Addr×Obj)}{σ:St}{H:Hp}{s:Shared}{a C dx:Addr}{fs:List (Str×V)}{f:Str}{v:V}{A:Around}{E:Value->Shared->Prop}
theorem Inv.made (I:Inv X pins σ H s):Inv X pins σ (upd (upd H s.heap.objs.size (.own (s.heap.objs.size+1))) (s.heap.objs.size+1) (.ins C s.heap.objs.size []))
  {s with heap:=(s.heap.push PySem.W.emptyDict).push (PySem.W.instObj C s.heap.objs.size)}:=by
 have e1:(s.heap.push PySem.W.emptyDict).get? s.heap.objs.size=some PySem.W.emptyDict:=Heap.get?_push_size s.heap rfl
 have e2:((s.heap.push PySem.W.emptyDict).push (PySem.W.instObj C s.heap.objs.size)).get? (s.heap.objs.size+1)=some (PySem.W.instObj C s.heap.objs.size):=by
  have:=Heap.get?_push_size (s.heap.push PySem.W.emptyDict) (o:=PySem.W.instObj C s.heap.objs.size) rfl
  rwa [Heap.size_push] at this
 have e3:(s.heap.push PySem.W.emptyDict).Ns s.heap.objs.size (λ_=>none):=⟨PySem.W.emptyDict, #[],_,e1,rfl,(λe he=>absurd he (by simp)),λ_=>rfl⟩
 have I1:=I.laid (a:=s.heap.objs.size) (o:=.own (s.heap.objs.size+1)) (h':=s.heap.push PySem.W.emptyDict) (t':=s.toks) (λb u q=>Heap.get?_push_of_some _ q) (Nat.le_refl _) ⟨_,e1⟩
 refine I1.laid (a:=s.heap.objs.size+1) (o:=.ins C s.heap.objs.size []) (t':=s.toks) (λb u q=>Heap.get?_push_of_some _ q) (Nat.le_of_eq (Heap.size_push _ _)) ?_
 have ne:s.heap.objs.size≠s.heap.objs.size+1:=Nat.ne_of_lt (Nat.lt_succ_self _)
 refine⟨by rw[XL ne,Yd],Nat.zero_le _,ne,e2,λ_=>none,(Heap.Ns1.of_empty e3).at λo q=>Heap.get?_push_of_some _ q,λ_=>True.intro,λy hy=>absurd rfl hy⟩
end
section
variable {X:Cx}{o e value:Expr}{f:Str}{pos pos' tpos:Pos}{ta tv:TE}
end
section
variable {X:Cx}{pins:List (Addr×Obj)}{σ:St}{H:Hp}{s:Shared}{A:Around}{E:Value->Shared->Prop}{Q:Value->Shared->Prop}{c:Value}{b:Bool}
inductive TyOf (K:PySem.W.Frag)(H:Hp):V->Value->Prop where
 |non:TyOf K H .non (.type "NoneType")
 |bl (x:Bool):TyOf K H (.bl x) (.type "bool")
 |int (i:Int):TyOf K H (.int i) (.type "int")
 |str (x:Str):TyOf K H (.str x) (.type "str")
 |flt (x:UInt64):TyOf K H (.flt x) (.type "float")
 |lst {a:Addr}{xs:List V} (e:H a=some (.lst xs)):TyOf K H (.ref a) (.type "list")
 |frz {a:Addr}{o:Obj}{xs:List V} (e:H a=some (.frz o (.lst xs))):TyOf K H (.ref a) (.type "list")
 |tup {a:Addr}{xs:List V} (e:H a=some (.tup xs)):TyOf K H (.ref a) (.type "tuple")
 |dK {a:Addr}{kvs:List (Key×V)} (e:H a=some (.dK kvs)):TyOf K H (.ref a) (.type "dict")
 |dT {a:Addr}{kvs:List (List Key×V)} (e:H a=some (.dT kvs)):TyOf K H (.ref a) (.type "dict")
 |ins {a C dx:Addr}{fs:List (Str×V)} (e:H a=some (.ins C dx fs)) (cl:Cls K C) (ha:PySem.W.findIn K (.ref C) "__class__" =some (some (.builtin "object.__class__")))
   (hn:PySem.W.specialIn K (.builtin "object.__class__") "__get__" =some (some (.builtin "getset_descriptor.__get__"))) (htk:PySem.W.takesIn K (.builtin "object.__class__")=some true)
   (hm:PySem.W.mroIn K C (.type "object")=some true):TyOf K H (.ref a) (.ref C)
theorem BR {x:V}{u t:Value}(I:Inv X pins σ H s)(rx:X4 x u)(ty:TyOf X.K H x t)(e:PySem.W.kitOne X.K t c=some b)(h:∀tk,Q (.bool b) {s with toks:=tk}):
  wpAny (model X.prog X.w) A (call (.builtin "isinstance") [u,c]) Q E s:=by
 cases ty with
 |non=>cases(show u=Value.none from rx);exact PySem.W.kia_one PySem.W.kitx_none I.kIn True.intro e (λz=>nomatch z) h
 |bl y=>cases(show u=Value.bool y from rx);exact PySem.W.kia_one PySem.W.kitx_bool I.kIn True.intro e (λz=>nomatch z) h
 |int i=>obtain⟨t,q⟩:=(show ∃t,u=Value.int i t from rx);cases q;exact PySem.W.kia_one PySem.W.kitx_int I.kIn True.intro e (λz=>nomatch z) h
 |str y=>obtain⟨t,q⟩:=(show ∃t,u=Value.str y t from rx);cases q;exact PySem.W.kia_one PySem.W.kitx_str I.kIn True.intro e (λz=>nomatch z) h
 |flt y=>obtain⟨t,q⟩:=(show ∃t,u=Value.float y t from rx);cases q;exact PySem.W.kia_one PySem.W.kitx_float I.kIn True.intro e (λz=>nomatch z) h
 | @lst a xs ea=>
  cases(show u=Value.ref a from rx)
  obtain⟨_,_,n,_,h1⟩:=(show YG X.prog X.w H s.heap a (.lst xs) from I.hok a _ ea)
  exact PySem.W.kia_one PySem.W.kitx_list I.kIn ⟨_,h1,rfl⟩ e (λz=>nomatch z) h
 | @frz a ob xs ea=>
  cases(show u=Value.ref a from rx)
  obtain⟨_,_,_,n,_,h1⟩:=(show YG X.prog X.w H s.heap a (.frz ob (.lst xs)) from I.hok a _ ea)
  exact PySem.W.kia_one PySem.W.kitx_list I.kIn ⟨_,h1,rfl⟩ e (λz=>nomatch z) h
 | @tup a xs ea=>
  cases(show u=Value.ref a from rx)
  obtain⟨_,_,_,p⟩:=(show YG X.prog X.w H s.heap a (.tup xs) from I.hok a _ ea)
  obtain⟨o,h1,h2,_⟩:=p
  exact PySem.W.kia_one PySem.W.kitx_tuple I.kIn ⟨o,h1,h2.1⟩ e (λz=>nomatch z) h
 | @dK a kvs ea=>
  cases(show u=Value.ref a from rx)
  obtain⟨_,_,vs,_,p⟩:=(show YG X.prog X.w H s.heap a (.dK kvs) from I.hok a _ ea)
  obtain⟨o,es,ep,h1,h2,_⟩:=p
  exact PySem.W.kia_one PySem.W.kitx_dict I.kIn ⟨o,h1,h2.1⟩ e (λz=>nomatch z) h
 | @dT a kvs ea=>
  cases(show u=Value.ref a from rx)
  obtain⟨_,_,xs,_,o,es,ep,h1,h2,_⟩:=(show YG X.prog X.w H s.heap a (.dT kvs) from I.hok a _ ea)
  exact PySem.W.kia_one PySem.W.kitx_dict I.kIn ⟨o,h1,h2.1⟩ e (λz=>nomatch z) h
 | @ins a C dx fs ea cl ha hn htk hm=>
  cases(show u=Value.ref a from rx)
  obtain⟨mA,O,_⟩:=LS I.hok ea
  obtain⟨od,J,_⟩:=O.look
  exact PySem.W.kia_one (PySem.W.kitx_own (cl.get _) cl.hd ha hn htk hm) I.kIn J e (λz=>nomatch z) h
end
structure Room (k:Nat)(A:Around):Prop where
 hd:A.handled=none
 dp:A.depth+3*k+5<recursionLimit
 un:A.units+16*k+200<cLine
theorem Room.mono {j k:Nat}{A:Around}(r:Room k A)(h:j<=k):Room j A:=⟨r.hd,by have:=r.dp;omega,by have:=r.un;omega⟩
theorem Room.deeper {k:Nat}{A:Around}(r:Room (k+1) A)(env:Env):Room k (A.deeper env):=
 ⟨r.hd,by have:=r.dp;show A.depth+1+3*k+5<_;omega,by have:=r.un;show A.units+3+16*k+200<_;omega⟩
theorem Room.depth {k:Nat}{A:Around}(r:Room k A):A.depth<recursionLimit:=by have:=r.dp;omega
theorem Room.units {k:Nat}{A:Around}(r:Room k A):A.units+64<cLine:=by have:=r.un;omega
noncomputable def YN:TA:=λ_ H Q=>Q [] H
noncomputable def Xo (ta:TE)(tr:TA):TA:=λσ H Q=>ta σ H λx H1=>tr σ H1 λxs H2=>Q (x::xs) H2
section
variable {X:Cx}{e:Expr}{es:List Expr}{te:TE}{t:TA}{pos:Pos}
theorem Xd:PA X [] YN:=λ_ _ _ _ H Q I h=>Calls.spliced_nil ⟨[],H,I, .nil,h⟩
theorem Xb (ha:PE X e te)(hr:PA X es t)(hs:starEach (e::es) X.env=(false,eval e X.env)::starEach es X.env:=by rfl):PA X (e::es) (Xo te t):=by
 intro pos pins s σ H Q I h
 rw[hs]
 show wpAny _ _ (spliced ((false,eval e X.env)::backTo pos (starEach es X.env))) _ _ s
 refine Calls.spliced_cons (thn (ha pins s σ H _ I h) λu s1 r9=>?_)
 obtain⟨x,H1,I1,r1,q1⟩:=r9
 exact thn (hr pos pins s1 σ H1 _ I1 q1) λus s2 r9=>by obtain⟨xs,H2,I2,r2,q2⟩:=r9;exact⟨x::xs,H2,I2, .cons r1 r2,q2⟩
noncomputable def NR (t:TA):TE:=λσ H Q=>t σ H λxs H1=>xs.length<=sizeLine/\∀p,H1 p=none->Q (.ref p) (upd H1 p (.tup xs))
noncomputable def CK (t:TA):TE:=λσ H Q=>t σ H λxs H1=>xs.length<=sizeLine/\∀p,H1 p=none->Q (.ref p) (upd H1 p (.lst xs))
theorem Qt {x1}(h:PA X es t):PE X (.Tuple es x1 pos) (NR t):=by
 intro pins s σ H Q I hq
 refine wpAny_Tuple_spliced (thn (h pos pins s σ H _ I hq) λus s1 ⟨xs,H1,I1,r,z,q⟩=>⟨by rw[←r.length];exact z,?_⟩)
 have hf:H1 s1.heap.objs.size=none:=I1.hok.fresh (Nat.le_refl _)
 refine⟨.ref s1.heap.objs.size,upd H1 s1.heap.objs.size (.tup xs),I1.laid (t':=s1.toks) (λb u e=>Heap.get?_push_of_some _ e) (Nat.le_refl _) ?_,rfl,q _ hf⟩
 exact⟨z,us,r,⟨_,Heap.get?_push_size _ rfl,⟨rfl,rfl⟩,_,rfl⟩⟩
theorem XH (h:PA X es t):PE X (.List es pos) (CK t):=by
 intro pins s σ H Q I hq
 refine wpAny_List_spliced (thn (h pos pins s σ H _ I hq) λus s1 ⟨xs,H1,I1,r,z,q⟩=>⟨by rw[←r.length];exact z,?_⟩)
 have hf:H1 s1.heap.objs.size=none:=I1.hok.fresh (Nat.le_refl _)
 refine⟨.ref s1.heap.objs.size,upd H1 s1.heap.objs.size (.lst xs),I1.laid (t':=s1.toks) (λb u e=>Heap.get?_push_of_some _ e) (Nat.le_refl _) ?_,rfl,q _ hf⟩
 exact⟨z,us,0,r,Heap.get?_push_size _ rfl⟩
end
noncomputable abbrev Sp:=List V->Hp->VK->XK->Prop
noncomputable abbrev CXT:=List Env->Hp->Shared->XK->Value->Shared->Prop
structure Env0 (P:Program)(w:World)(K:PySem.W.Frag)(mg:Str->Option Value)(base:Heap)(A:Around)(outer:List Env)(s:Shared)(H:Hp):Prop where
 frames:A.frames=some outer
 mod:Mod K mg base
 bs:∀b o,base.get? b=some o->s.heap.get? b=some o/\H b=none
 bsz:base.objs.size<=s.heap.objs.size
 funs:s.heap.FunFrames base outer
 frf:∀b∈frs outer,H b=none
 hok:HOk P w H s.heap
 bare:AllBare s.gens
noncomputable def CE (outer:List Env)(P:Program)(w:World)(H:Hp)(s:Shared)(Q:VK)(u:Value)(s':Shared):Prop:=
 ∃v H',s'.os=s.os/\AllBare s'.gens/\Un (frs outer) [] H H' s.heap s'.heap/\HOk P w H' s'.heap/\X4 v u/\Q v H'
noncomputable def CR (CX:CXT)(outer:List Env)(P:Program)(w:World)(H:Hp)(s:Shared)(Q:VK)(E:XK)(r:Result)(s':Shared):Prop:=
 match r with
 | .ok (.ret u)=>CE outer P w H s Q u s'
 | .ok _=>False
 | .error e=>CX outer H s E e s'
structure FnOk (P:Program)(w:World)(K:PySem.W.Frag)(mg:Str->Option Value)(base:Heap)(CX:CXT)(k:Nat)(f:Addr)(fd:FuncData)(ps:List Str)(sp:Sp):Prop where
 len:∀vs H Q E,sp vs H Q E->vs.length=ps.length
 run:∀(A:Around) (outer:List Env) (s:Shared) (H:Hp) (args:Args) (us:List Value) (vs:List V) (Q:VK) (E:XK),Room k A->Env0 P w K mg base A outer s H->BindsTo s fd args (ps.zip us)->Ya vs us->sp vs H Q E->
  codeAny (model P w) A (.call (.ref f) args) (CR CX outer P w H s Q E) s
section
variable {X:Cx}{pins:List (Addr×Obj)}{σ:St}{H:Hp}{s s':Shared}
theorem Inv.env0 (I:Inv X pins σ H s):Env0 X.prog X.w X.K X.mg X.base X.A X.stack s H:=
 ⟨I.ok.frames,I.ok.mod,I.bs,Nat.le_trans I.ok.bsz I.sz,I.stack,I.stkFree,I.hok,I.bare⟩
theorem Inv.after {Q:VK}{u:Value}(I:Inv X pins σ H s)(h:CE X.stack X.prog X.w H s Q u s'):EP X pins σ Q u s':=by
 obtain⟨v,H',os,bare,un,hok,r,q⟩:=h
 obtain⟨hh,g,d,t,os'⟩:=s'
 obtain rfl:os'=s.os:=os
 exact⟨v,H',I.call (h':=hh) (g':=g) (d':=d) (t':=t) (ch:=[]) un hok bare (λb z=>absurd z (by simp)),r,q⟩
end
noncomputable def JO (sp:Sp)(dvs:List V)(E:XK)(t:TA):TE:=λσ H Q=>t σ H λvs H1=>sp (vs++dvs) H1 Q E
noncomputable def Ff (K:PySem.W.Frag)(fd:FuncData)(ps:List Str)(ds:List Value):Prop:=
 ∀(s:Shared) (us:List Value),K.In s.heap->(us++ds).length=ps.length->BindsTo s fd ⟨us,[]⟩ (ps.zip (us++ds))
theorem Ff.all {K:PySem.W.Frag}{fd:FuncData}{ps:List Str}(h:∀us:List Value,us.length=ps.length->bindArgs fd ⟨us,[]⟩=pure (ps.zip us)):Ff K fd ps []:=λs us _ hl=>by
 rw[List.append_nil] at hl⊢
 exact .of_eq (h us hl)
noncomputable def B3 (CX:CXT)(X:Cx)(E:XK):Prop:=∀ (pins:List (Addr×Obj)) (σ:St) (H:Hp) (s:Shared) (e:Value) (s':Shared),Inv X pins σ H s->CX X.stack H s E e s'->X.xe e s'
section
variable {X:Cx}{CX:CXT}{k:Nat}{f C:Addr}{fd:FuncData}{ps:List Str}{sp:Sp}{dvs:List V}{ds:List Value}{E:XK}{x m:Str}{p pos apos:Pos}{e o:Expr}{es:List Expr}{ta:TE}{t:TA}
theorem O5 {pins:List (Addr×Obj)}{σ:St}{H:Hp}{s:Shared}{Q:VK}{us:List Value}{vs:List V}(F:FnOk X.prog X.w X.K X.mg X.base CX k f fd ps sp)(hr:Room k X.A)(hb:Ff X.K fd ps ds)(hd:Ya dvs ds)(hx:B3 CX X E)
  (I:Inv X pins σ H s)(r:Ya vs us)(h:sp (vs++dvs) H Q E):wpAny (model X.prog X.w) X.A (call (.ref f) us) (EP X pins σ Q) X.xe s:=by
 have r2:Ya (vs++dvs) (us++ds):=r.append hd
 have hl:(us++ds).length=ps.length:=by rw[←r2.length];exact F.len _ _ _ _ h
 refine wpAny_call (codeAny_mono (F.run X.A X.stack s H ⟨us,[]⟩ (us++ds) (vs++dvs) Q E hr I.env0 (hb s us I.kIn hl) r2 h) λr s' hq=>?_)
 cases r with
 |error e=>exact hx pins σ H s e s' I hq
 |ok fl=>
  cases fl with
  |ret u=>exact I.after hq
  |next=>exact False.elim hq
  |brk=>exact False.elim hq
  |cont=>exact False.elim hq
theorem Mh (F:FnOk X.prog X.w X.K X.mg X.base CX k f fd ps sp)(hr:Room k X.A)(hg:Gl X x)(hm:X.mg x=some (.ref f))(hk:PySem.W.keepIn X.K (.ref f)=true)(hb:Ff X.K fd ps ds)(hd:Ya dvs ds)(hx:B3 CX X E)
  (ha:PA X (e::es) t)(hdb:(x==("__debug__":Str))=false:=by decide)(he:starEach (e::es) X.env=(false,eval e X.env)::starEach es X.env:=by rfl)(hpl:(backTo pos (starEach es X.env)).any (·.1)=false:=by rfl):
  PE X (.Call (.Name x p) (e::es) [] pos) (JO sp dvs E t):=by
 intro pins s σ H Q I h
 refine wpAny_Call_Name_kw (Ec I hg hm ?_ hdb)
 refine PySem.W.callWith_K (h₀:=X.base) I.ok.mod.kin hk (thn (ha pos pins s σ H _ I h) λus s1 ⟨vs,H1,I1,r,q⟩=>⟨I1.kIn,?_⟩) he hpl
 exact O5 F hr hb hd hx I1 r q
end
section
variable {X:Cx}{CX:CXT}{k:Nat}{f C:Addr}{fd:FuncData}{ps ks:List Str}{sp:Sp}{E:XK}{x m:Str}{p pos apos kpos:Pos}{e o:Expr}{es:List Expr}{kws:List Keyword}{te ta:TE}{t tk:TA}{nm:Option Str}
variable {g:List Value->List Value->List Value}{gV:List V->List V->List V}
end
structure FnScope (N P:List Str)(sc:Scope):Prop where
 kind:sc.kind= .function
 co:sc.isCoroutine=false
 gen:sc.isGenerator=false
 nd:N.Nodup
 pre:N.take P.length=P
 par:∀x∈P,sc.names.lookup x=some .local∨sc.names.lookup x=some .cell
 nofree:∀y∈sc.names,y.2≠ .free
theorem GD {kindOf:Str->Option NameKind}{x:Str}:∀{binds:List (Str×Value)}{m:Str->Option Value},(∀v,(x,v)∉binds)->bindL kindOf binds m x=m x
 | [],_,_=>rfl
 | (n,v)::r,m,h=>by
  unfold bindL
  rw[GD λw hw=>h w (List.mem_cons_of_mem _ hw)]
  split
  ·have:x≠n:=by rintro rfl;exact h v List.mem_cons_self
   simp[this]
  ·rfl
theorem KC {kindOf:Str->Option NameKind}{x:Str}:∀{binds:List (Str×Value)}{m:Str->Option Value},(∀v,(x,v)∉binds)->bindC kindOf binds m x=m x
 | [],_,_=>rfl
 | (n,v)::r,m,h=>by
  unfold bindC
  rw[KC λw hw=>h w (List.mem_cons_of_mem _ hw)]
  split
  ·rfl
  ·have:x≠n:=by rintro rfl;exact h v List.mem_cons_self
   simp[this]
theorem Gc {kindOf:Str->Option NameKind}{x:Str}{v:Value}:∀{P:List Str}{vs:List Value}{i:Nat}{m:Str->Option Value},P.Nodup->P[i]?=some x->vs[i]?=some v->kindOf x=some .local->
  bindL kindOf (P.zip vs) m x=some v
 | [],_,_,_,_,h,_,_=>by simp at h
 |_::_,[],_,_,_,_,h,_=>by simp at h
 |p::P,w::vs,0,m,nd,h1,h2,hk=>by
  simp at h1 h2;subst h1;subst h2
  show bindL kindOf ((p,w)::P.zip vs) m p=_
  unfold bindL
  rw[GD λv hv=>(List.nodup_cons.mp nd).1 (List.of_mem_zip hv).1,if_pos hk]
  simp
 |p::P,w::vs,i+1,m,nd,h1,h2,hk=>by
  show bindL kindOf ((p,w)::P.zip vs) m x=_
  unfold bindL
  exact Gc (i:=i) (List.nodup_cons.mp nd).2 (by simpa using h1) (by simpa using h2) hk
theorem Gh {kindOf:Str->Option NameKind}{x:Str}{v:Value}:∀{P:List Str}{vs:List Value}{i:Nat}{m:Str->Option Value},P.Nodup->P[i]?=some x->vs[i]?=some v->kindOf x≠some .local->
  bindC kindOf (P.zip vs) m x=some v
 | [],_,_,_,_,h,_,_=>by simp at h
 |_::_,[],_,_,_,_,h,_=>by simp at h
 |p::P,w::vs,0,m,nd,h1,h2,hk=>by
  simp at h1 h2;subst h1;subst h2
  show bindC kindOf ((p,w)::P.zip vs) m p=_
  unfold bindC
  rw[KC λv hv=>(List.nodup_cons.mp nd).1 (List.of_mem_zip hv).1,if_neg hk]
  simp
 |p::P,w::vs,i+1,m,nd,h1,h2,hk=>by
  show bindC kindOf ((p,w)::P.zip vs) m x=_
  unfold bindC
  exact Gh (i:=i) (List.nodup_cons.mp nd).2 (by simpa using h1) (by simpa using h2) hk
noncomputable def Vd (N:List Str)(vs:List V):St:=vs.map some++List.replicate (N.length-vs.length) none
noncomputable def Ba (CX:CXT)(P:Program)(w:World)(K:PySem.W.Frag)(mg:Str->Option Value)(base:Heap)(N:List Str)(qual:Str)(scope:Scope)(f:Addr)(cd:Value)(A:Around)(outer:List Env)(s:Shared)(H:Hp)(E:XK):Cx where
 prog:=P
 w:=w
 K:=K
 mg:=mg
 base:=base
 A:=A.deeper (envOfC qual scope s.heap.objs.size f cd)
 N:=N
 s₀:=s
 H₀:=H
 env:=envOfC qual scope s.heap.objs.size f cd
 outer:=outer
 stack:=envOfC qual scope s.heap.objs.size f cd::outer
 ex:=[]
 calm:=true
 fn:=λ_=>true
 pn:=[]
 xe:=λe s'=>wpAny (model P w) (A.deeper (envOfC qual scope s.heap.objs.size f cd)) (leaving (envOfC qual scope s.heap.objs.size f cd) e) (λ_ s''=>CX outer H s E e s'') (λe' s''=>CX outer H s E e' s'') s'
theorem DK {sc:Scope}{n:Nat}{x:Str}(h:sc.names.lookup x=some .cell):∃c,(cellsFrom n sc.names []).lookup x=some c:=by
 have q:=PySem.W.cellsFrom_some sc.names n [] (.inl h)
 exact Option.isSome_iff_exists.mp q
theorem Em {CX:CXT}{P:Program}{w:World}{K:PySem.W.Frag}{mg:Str->Option Value}{base:Heap}{N ps:List Str}{qual:Str}{scope:Scope}{f:Addr}{cd:Value}{A:Around}{outer:List Env}{s s1:Shared}{H:Hp}{E:XK}{us:List Value}{vs:List V}
  (S:FnScope N ps scope)(hd:A.handled=none)(e0:Env0 P w K mg base A outer s H)(hl:vs.length=ps.length)(r:Ya vs us)
  (x:InCallC s s.heap.objs.size (bindL (envOfC qual scope s.heap.objs.size f cd).kindOf (ps.zip us) λ_=>none) (cellsFrom (s.heap.objs.size+1) scope.names []) (bindC (envOfC qual scope s.heap.objs.size f cd).kindOf (ps.zip us) λ_=>none) s1):
  Inv (Ba CX P w K mg base N qual scope f cd A outer s H E) [] (Vd N vs) H s1:=by
 have hpl:ps.length<=N.length:=by have:=congrArg List.length S.pre;rw[List.length_take] at this;omega
 obtain⟨h1,tk,rfl,hk⟩:=x.done
 have noA:∀b:Addr,b∉(Ba CX P w K mg base N qual scope f cd A outer s H E).ex:=λb z=>absurd (show b∈([]:List Addr) from z) (by simp)
 refine⟨⟨e0.mod,S.kind,rfl,rfl,Nat.le_refl _,λy z c h1 h2=>?_,λy hy=>?_,λy c _ h=>?_,λ_=>hd,Around.frames_deeper e0.frames, .inr ⟨rfl,rfl⟩,λb z=>absurd z (noA b),e0.bs,e0.bsz,λb _ _=>noA b,λb z=>absurd z (noA b),e0.funs,e0.frf⟩,
  rfl,e0.bare,Un.kept hk,⟨_,x.toInCall.ns,λi y v h1 h2 h3=>?_⟩,λy c h=>⟨_,x.cell y c h⟩,e0.hok.fresh (Nat.le_refl _),λy c h=>?_,λp hp=>absurd (show p∈([]:List (Addr×Obj)) from hp) (by simp),e0.hok.kept hk,?_⟩
 ·exact name_of_addr x.apart (PySem.mem_of_lookup h1) (PySem.mem_of_lookup h2)
 ·have hy:scope.names.lookup y=some .cell∨scope.names.lookup y=some .free:=hy
  rcases hy with hy |hy
  ·exact DK hy
  ·exact absurd rfl (S.nofree _ (PySem.mem_of_lookup hy))
 ·exact Nat.le_of_lt (x.above y c (PySem.mem_of_lookup h))
 ·have hi:i<vs.length:=by
   unfold Vd at h2
   by_cases hi:i<vs.length
   ·exact hi
   ·rw[List.getElem?_append_right (by simpa using hi)] at h2
    rw[List.getElem?_replicate] at h2
    split at h2<;> cases h2
  have ha:vs[i]?=some v:=by
   unfold Vd at h2
   rw[List.getElem?_append_left (by simpa using hi),List.getElem?_map] at h2
   cases e:vs[i]? with
   |none=>rw[e] at h2;cases h2
   |some a=>rw[e] at h2;cases h2;rfl
  obtain⟨u,hu,rv⟩:=r.get ha
  have hp:ps[i]?=some y:=by
   rw[←S.pre,List.getElem?_take_of_lt (by omega)];exact h1
  have ndP:ps.Nodup:=by rw[←S.pre];exact S.nd.sublist (List.take_sublist _ _)
  refine⟨u,rv,?_⟩
  rcases S.par y (List.mem_of_getElem? hp) with k |k
  ·exact .inl ⟨k,Gc ndP hp hu k⟩
  ·obtain⟨c,e⟩:=DK (n:=s.heap.objs.size+1) k
   refine .inr ⟨.inl k,c,e,?_⟩
   have q:=x.cell y c e
   rw[Gh ndP hp hu (by show scope.names.lookup y≠_;rw[k];decide)] at q
   exact q
 ·exact e0.hok.fresh (Nat.le_of_lt (x.above y c (PySem.mem_of_lookup h)))
 ·unfold Vd
  show _=N.length
  rw[List.length_append,List.length_map,List.length_replicate]
  omega
theorem Rh {CX:CXT}{P:Program}{w:World}{K:PySem.W.Frag}{mg:Str->Option Value}{base:Heap}{k:Nat}{f:Addr}{name qual:Str}{params:Arguments}{body:List Stmt}{scope:Scope}{dV kV doc pm cdv ct oc:Value}{an od:Option Addr}
  {osl:Array (Option Value)}{N ps:List Str}{sp:Sp}(lk:K.lookup f=some ⟨oc,od, .func (PySem.W.fnOf name qual params body scope dV kV doc pm an cdv ct),osl⟩)(hcd:PySem.W.codeIn K cdv qual=true)(S:FnScope N ps scope)
  (len:∀vs H Q E,sp vs H Q E->vs.length=ps.length)
  (hbody:∀(A:Around) (outer:List Env) (s:Shared) (H:Hp) (vs:List V) (Q:VK) (E:XK),Room k (A.deeper (envOfC qual scope s.heap.objs.size f cdv))->sp vs H Q E->
   ∃t,PSs (Ba CX P w K mg base N qual scope f cdv A outer s H E) body t/\t {nx:=λ_ H'=>Q .non H',rt:=Q} (Vd N vs) H):
  FnOk P w K mg base CX (k+1) f (PySem.W.fnOf name qual params body scope dV kV doc pm an cdv ct) ps sp:=by
 refine⟨len,λA outer s H args us vs Q E hr e0 hb r hsp=>?_⟩
 have hl:=len _ _ _ _ hsp
 have KX:K.In s.heap:=e0.mod.kin.keeps λb o e=>(e0.bs b o e).1
 have lim:s.heap.NoLimit:=e0.mod.nolimit.keeps λb o e=>(e0.bs b o e).1
 have hkind:∀y∈ps.zip us,scope.names.lookup y.1=some .local∨(scope.names.lookup y.1=some .cell/\((cellsFrom (s.heap.objs.size+1) scope.names []).lookup y.1).isSome=true):=λ⟨n,v⟩ hy=>by
  rcases S.par n (List.of_mem_zip hy).1 with q |q
  ·exact .inl q
  ·exact .inr ⟨q,PySem.W.cellsFrom_some _ _ _ (.inl q)⟩
 refine codeAny_call_function hr.depth (KX _ _ lk) rfl S.co S.gen rfl (PySem.W.codeRec_of KX hcd) (hb _ _ _ _ ?_)
 refine wpAny_newFunctionEnv_cells S.kind hkind λenv he s1 x=>?_
 subst he
 refine⟨lim.keeps x.toInCall.keep,codeAny_func ?_⟩
 obtain⟨t,ht,hq⟩:=hbody A outer s H vs Q E (hr.deeper _) hsp
 have I:Inv (Ba CX P w K mg base N qual scope f cdv A outer s H E) [] (Vd N vs) H s1:=Em S hr.hd e0 hl r x
 refine wpAny_mono (ht [] s1 (Vd N vs) H _ I hq) (λfl s' hs=>?_) λe s' hs=>hs
 have fin:∀{σ':St}{H':Hp}{v:V}{u:Value},Inv (Ba CX P w K mg base N qual scope f cdv A outer s H E) [] σ' H' s'->X4 v u->Q v H'->CE outer P w H s Q u s':=
  fun {σ' H' v u} J rv q=>⟨v,H',J.os,J.bare,J.base,J.hok,rv,q⟩
 cases fl with
 |ret u=>
  obtain⟨v,σ',H',J,rv,q⟩:=hs
  exact fin J rv q
 |next=>
  obtain⟨σ',H',J,q⟩:=hs
  exact fin (v:=V.non) (u:=Value.none) J rfl q
 |brk=>
  obtain⟨_,_,_,q⟩:=hs
  exact False.elim q
 |cont=>
  obtain⟨_,_,_,q⟩:=hs
  exact False.elim q
section
variable {X:Cx}{x:Str}{p pos:Pos}{e:Expr}{es:List Expr}{t:TA}{id T:String}{r:List V->Hp->VK->Prop}
noncomputable def tCB (r:List V->Hp->VK->Prop)(t:TA):TE:=λσ H Q=>t σ H λvs H1=>r vs H1 Q
theorem Xm (hc:Z2 X (.builtin id) r)(hg:Gl X x)(hm:X.mg x=none)(hv:bootBuiltins x=some (.builtin id))(ha:PA X (e::es) t)(hn:x≠ "__name__":=by decide)(hdb:(x==("__debug__":Str))=false:=by decide)
  (he:starEach (e::es) X.env=(false,eval e X.env)::starEach es X.env:=by rfl)(hpl:(backTo pos (starEach es X.env)).any (·.1)=false:=by rfl):PE X (.Call (.Name x p) (e::es) [] pos) (tCB r t):=by
 intro pins s σ H Q I h
 refine wpAny_Call_Name_kw (Vg I hg hm hv ?_ hn hdb)
 exact PyProof.Rows.callWith_builtin1 (thn (ha pos pins s σ H _ I h) λus s1 r9=>by obtain⟨vs,H1,I1,r1,q1⟩:=r9;exact hc pins s1 σ H1 vs us Q I1 r1 q1) he hpl
theorem YS (hc:Z2 X (.type T) r)(hg:Gl X x)(hm:X.mg x=none)(hv:bootBuiltins x=some (.type T))(ha:PA X (e::es) t)(hn:x≠ "__name__":=by decide)(hdb:(x==("__debug__":Str))=false:=by decide)
  (he:starEach (e::es) X.env=(false,eval e X.env)::starEach es X.env:=by rfl)(hpl:(backTo pos (starEach es X.env)).any (·.1)=false:=by rfl):PE X (.Call (.Name x p) (e::es) [] pos) (tCB r t):=by
 intro pins s σ H Q I h
 refine wpAny_Call_Name_kw (Vg I hg hm hv ?_ hn hdb)
 exact PyProof.Rows.callWith_type1 (thn (ha pos pins s σ H _ I h) λus s1 r9=>by obtain⟨vs,H1,I1,r1,q1⟩:=r9;exact hc pins s1 σ H1 vs us Q I1 r1 q1) he hpl
end
end L2
namespace HT
open PySem PyProof.Rows
section
open PySem.SeqAt
open PySem.AutoSeq1 (wpAny_loadPart')
open PySem.MeetsSeq PySem.MeetsSeq2 PySem.MeetsSeq3
end
section
variable {prog:Program}{w:World}{A:Around}{E:Value->Shared->Prop}{s:Shared}
noncomputable def sIx (n d:Nat):Option Int->Nat
 |none=>d
 |some v=>if v<0 then(v+(n:Int)).toNat else min v.toNat n
theorem sIx_none (n d:Nat):sIx n d none=d:=rfl
theorem sIx_nat (n d k:Nat):sIx n d (some (k:Int))=min k n:=by
 show(if(k:Int)<0 then((k:Int)+(n:Int)).toNat else min (k:Int).toNat n)=min k n
 rw[if_neg (by omega),Int.toNat_natCast]
theorem OP (n d:Nat)(hd:d<=n)(o:Option Int):sIx n d o<=n:=by
 cases o with
 |none=>exact hd
 |some v=>
  show(if v<0 then(v+(n:Int)).toNat else min v.toNat n)<=n
  by_cases hv:v<0
  ·rw[if_pos hv];omega
  ·rw[if_neg hv];exact Nat.min_le_right _ _
theorem Bw (v:Int)(n d:Nat):(if v<0 then max (v+(n:Int)) 0 else min v (n:Int))=((sIx n d (some v):Nat):Int):=by
 show(if v<0 then max (v+(n:Int)) 0 else min v (n:Int))=(((if v<0 then(v+(n:Int)).toNat else min v.toNat n):Nat):Int)
 by_cases hv:v<0
 ·simp only[if_pos hv];omega
 ·simp only[if_neg hv];omega
theorem Co (lo hi:Option Int)(n:Nat):Builtin.Slice.sliceAdjust lo hi 1 (n:Int)=(((sIx n 0 lo:Nat):Int),((sIx n n hi:Nat):Int)):=by
 have h1:¬((1:Int)<0):=by omega
 unfold Builtin.Slice.sliceAdjust
 simp only[h1,if_false]
 refine Prod.ext ?_ ?_
 ·cases lo with
  |none=>rfl
  |some v=>exact Bw v n 0
 ·cases hi with
  |none=>rfl
  |some v=>exact Bw v n n
theorem DX (i j:Nat):Builtin.Slice.slicePlaces (i:Int) (j:Int) 1=j-i:=by
 unfold Builtin.Slice.slicePlaces
 have h1:(1:Int) > 0:=by omega
 simp only[h1,if_true,Int.ediv_one]
 split<;> omega
theorem Up {v:Value}{o:Option Int}{Q:Option Int->Shared->Prop}(p:IsPart v o)(h:Q o s):wpAny (model prog w) A (Builtin.Slice.slicePartIndex v) Q E s:=by
 cases p with
 |none=>exact slicePart_none h
 |int i t=>exact slicePart_int h
theorem JL {sl:Addr}{vl vu:Value}{lo hi:Option Int}{n:Nat}{Q:Int×Int×Nat->Shared->Prop}(hs:s.heap.IsSliceOf sl vl vu .none)(pl:IsPart vl lo)(pu:IsPart vu hi)
  (h:Q (((sIx n 0 lo:Nat):Int),1,sIx n n hi-sIx n 0 lo) s):wpAny (model prog w) A (Builtin.Slice.sliceApplied (.ref sl) (pure (n:Int))) Q E s:=by
 obtain⟨os,hos,hcs,hds⟩:=id hs
 unfold Builtin.Slice.sliceApplied Builtin.Slice.sliceFields
 refine wpAny_bind (wpAny_bind (wpAny_field hos hds (x:=vl) rfl (wpAny_bind (wpAny_field hos hds (x:=vu) rfl (wpAny_bind (wpAny_field hos hds (x:=.none) rfl (wpAny_pure ?_)))))))
 refine wpAny_bind (slicePart_none ?_)
 show wpAny _ _ (if((1:Int)==0)=true then _ else _) _ _ s
 rw[if_neg (by decide)]
 refine wpAny_bind (Up pl (wpAny_bind (Up pu (wpAny_bind (wpAny_pure ?_)))))
 show wpAny _ _ (match Builtin.Slice.sliceAdjust lo hi 1 (n:Int) with | (lo,hi)=>pure (lo,(1:Int),Builtin.Slice.slicePlaces lo hi 1)) _ _ s
 rw[Co lo hi n]
 show wpAny _ _ (pure (((sIx n 0 lo:Nat):Int),(1:Int),Builtin.Slice.slicePlaces ((sIx n 0 lo:Nat):Int) ((sIx n n hi:Nat):Int) 1)) _ _ s
 rw[DX]
 exact wpAny_pure h
theorem HK (xs:Array Value)(i k:Nat):((List.range k).filterMap λ(m:Nat)=>xs[((i:Int)+(m:Int)*1).toNat]?).toArray=((xs.toList.drop i).take k).toArray:=by
 have e:(λ(m:Nat)=>xs[((i:Int)+(m:Int)*1).toNat]?)=λm=>xs[i+m]?:=by
  funext m
  have:((i:Int)+(m:Int)*1).toNat=i+m:=by omega
  rw[this]
 rw[e]
 have:=pick_run xs i k
 rw[List.filterMap_map] at this
 have e2:((λx=>xs[x]?)∘λx=>i+x)=λm=>xs[i+m]?:=rfl
 rw[e2] at this
 rw[this]
theorem getItem_tuple_cut {t sl:Addr}{items:Array Value}{vl vu:Value}{lo hi:Option Int}{Q:Value->Shared->Prop}(ht:IsTup s.heap t items)(hs:s.heap.IsSliceOf sl vl vu .none)(pl:IsPart vl lo)(pu:IsPart vu hi)
  (hw:¬(sIx items.size 0 lo=0/\sIx items.size items.size hi=items.size))
  (h:Q (.ref s.heap.objs.size) {s with heap:=s.heap.push {cls:=.type "tuple",data:=.seq ((items.toList.drop (sIx items.size 0 lo)).take (sIx items.size items.size hi-sIx items.size 0 lo)).toArray}})
  (hsz:items.size<=sizeLine):wpAny (model prog w) A (getItem (.ref t) (.ref sl)) Q E s:=by
 have htake:sizeOk (.seq ((items.toList.drop (sIx items.size 0 lo)).take (sIx items.size items.size hi-sIx items.size 0 lo)).toArray):=by
  show((items.toList.drop (sIx items.size 0 lo)).take (sIx items.size items.size hi-sIx items.size 0 lo)).toArray.size<=sizeLine
  rw[List.size_toArray,List.length_take,List.length_drop,Array.length_toList]
  omega
 have hj:sIx items.size items.size hi<=items.size:=OP _ _ (Nat.le_refl _) hi
 obtain⟨os,hos,hcs,hds⟩:=id hs
 have hTs:s.TypeIs (.ref sl) "slice":=⟨os,hos,hcs⟩
 unfold getItem
 try with_reducible refine wpAny_holding ?_
 first |refine wpAny_bind (wpAny_pure ?_) |skip
 refine wpAny_bind (wpAny_sequenceKey ht.typeIs (by decide) ?_)
 refine wpAny_bind (wpAny_callSpecial?_slot (name:=Str.ofString "__getitem__") ht.typeIs PyProof.Rows.slot_tuple_getitem
  (wpAny_call_entry PyProof.Rows.slot_tuple_getitem ht.typeIs entry_tuple_getitem ?_ (args_tuple_getitem _ _)))
 show wpAny _ _ (Builtin.Tuple.tupleItemsOf (.ref t) >>= _) _ _ s
 refine wpAny_bind (tupleItemsOf_ ht ?_)
 refine wpAny_bind (wpAny_typeOf hTs ?_)
 rw[if_pos (by decide)]
 refine wpAny_bind (JL hs pl pu ?_)
 have hno:¬((((sIx items.size 0 lo:Nat):Int)==0&&(1:Int)==1&&(sIx items.size items.size hi-sIx items.size 0 lo)==items.size)=true):=by
  intro q
  rw[Bool.and_eq_true,Bool.and_eq_true] at q
  have q1:((sIx items.size 0 lo:Nat):Int)=0:=eq_of_beq q.1.1
  have q2:sIx items.size items.size hi-sIx items.size 0 lo=items.size:=eq_of_beq q.2
  exact hw ⟨by omega,by omega⟩
 show wpAny _ _ (if(((sIx items.size 0 lo:Nat):Int)==0&&(1:Int)==1&&(sIx items.size items.size hi-sIx items.size 0 lo)==items.size)=true then _ else _) _ _ s
 rw[if_neg hno,HK]
 first
  |exact wpAny_bind (m:=Builtin.Tuple.tupleExact _) (wpAny_newObj_type (wpAny_pure ⟨_,rfl,wpAny_pure h⟩) htake)
  |exact wpAny_bind (m:=Builtin.Tuple.tupleExact _) (wpAny_newObj_type (wpAny_bind (wpAny_pure (wpAny_pure ⟨_,rfl,wpAny_pure h⟩))) htake)
  |exact wpAny_bind (wpAny_bind (m:=Builtin.Tuple.tupleExact _) (wpAny_newObj_type (wpAny_pure (wpAny_pure ⟨_,rfl,wpAny_pure h⟩)) htake))
  |exact wpAny_bind (wpAny_bind (m:=Builtin.Tuple.tupleExact _) (wpAny_newObj_type (wpAny_pure ⟨_,rfl,wpAny_pure h⟩) htake))
end
end HT
namespace L2
open PySem PySem.Spec PyProof.Rows
noncomputable abbrev TO:=St->Hp->(Option Int->Hp->Prop)->Prop
noncomputable def PO (X:Cx)(e:Option Expr)(t:TO):Prop:=
 ∀(pins:List (Addr×Obj)) (s:Shared) (σ:St) (H:Hp) (Q:Option Int->Hp->Prop),Inv X pins σ H s->t σ H Q->
  wpAny (model X.prog X.w) X.A (evalPart e X.env) (λu s'=>∃ o H',Inv X pins σ H' s'/\IsPart u o/\Q o H') X.xe s
noncomputable def Fh:TO:=λ_ H Q=>Q none H
noncomputable def NE (t:TE):TO:=λσ H Q=>t σ H λx H1=>∃ i,x= .int i/\Q (some i) H1
theorem DS {ns:List Int}:∀{us:List Value},Ya (ns.map V.int) us->IntsAre us ns:=by
 induction ns with
 |nil=>intro us r;rw[List.map_nil] at r;cases r;exact .nil
 |cons n ns ih=>
  intro us r
  rw[List.map_cons] at r
  cases r with
  |cons r1 r2=>
   obtain⟨t,e⟩:=r1
   subst e
   exact .cons n t (ih r2)
section
variable {X:Cx}{e:Expr}{te:TE}{lo hi:Option Expr}{tl th:TO}{pos p2:Pos}
theorem UX:PO X none Fh:=by
 intro pins s σ H Q I h
 rw[evalPart_none]
 exact wpAny_pure ⟨none,H,I, .none,h⟩
theorem U0 (h:PE X e te):PO X (some e) (NE te):=by
 intro pins s σ H Q I hw
 rw[evalPart_some]
 refine thn (h pins s σ H _ I hw) λu s1 r9=>?_
 obtain⟨x,H1,I1,r1,q1⟩:=r9
 obtain⟨i,rfl,q⟩:=q1
 obtain⟨t,rfl⟩:=r1
 exact⟨some i,H1,I1, .int i t,q⟩
noncomputable def SlR (X:Cx)(r:V->Option Int->Option Int->Hp->VK->Prop):Prop:=
 ∀(pins:List (Addr×Obj)) (s:Shared) (σ:St) (H:Hp) (x:V) (v vl vu:Value) (lo hi:Option Int) (sl:Addr) (Q:VK),Inv X pins σ H s->X4 x v->s.heap.IsSliceOf sl vl vu .none->IsPart vl lo->IsPart vu hi->r x lo hi H Q->
  ∃T id,typeLookup (.type T) "__getitem__" =pure (some (.builtin id))/\s.TypeIs v T/\wpAny (model X.prog X.w) X.A (getItem v (.ref sl)) (EP X pins σ Q) X.xe s
noncomputable def tSl (r:V->Option Int->Option Int->Hp->VK->Prop)(te:TE)(tl th:TO):TE:=λσ H Q=>te σ H λx H1=>tl σ H1 λl H2=>th σ H2 λu H3=>r x l u H3 Q
theorem JY {r:V->Option Int->Option Int->Hp->VK->Prop}(hr:SlR X r)(he:PE X e te)(hl:PO X lo tl)(hu:PO X hi th):PE X (.Subscript e (.Slice lo hi none p2) pos) (tSl r te tl th):=by
 intro pins s σ H Q I h
 refine Subscript_ (thn (he pins s σ H _ I h) λv s1 r9=>?_)
 obtain⟨x,H1,I1,r1,q1⟩:=r9
 refine wpAny_Slice (thn (hl pins s1 σ H1 _ I1 q1) λvl s2 ⟨l,H2,I2,pl,q2⟩=>thn (hu pins s2 σ H2 _ I2 q2) λvu s3 r9=>?_)
 obtain⟨u,H3,I3,pu,q3⟩:=r9
 rw[evalPart_none]
 refine wpAny_pure ?_
 have I4:Inv X pins σ H3 {s3 with heap:=s3.heap.push {cls:=.type "slice",data:=.fields #[vl,vu, .none]}}:=I3.kept (t':=s3.toks) λb ob q=>Heap.get?_push_of_some _ q
 obtain⟨T,id,hT,ht,hg⟩:=hr pins {s3 with heap:=s3.heap.push {cls:=.type "slice",data:=.fields #[vl,vu, .none]}} σ H3 x v vl vu l u s3.heap.objs.size Q I4 r1 (Heap.IsSliceOf.new ..) pl pu q3
 show wpAny (model X.prog X.w) X.A (subscriptTail e (.Slice lo hi none p2) v (.ref s3.heap.objs.size)) (EP X pins σ Q) X.xe {s3 with heap:=s3.heap.push {cls:=.type "slice",data:=.fields #[vl,vu, .none]}}
 exact tail_any (ops:=[.ref s3.heap.objs.size,v]) ht hT hg (by with_unfolding_all rfl)
noncomputable def LB (xs:List V)(lo hi:Option Int):List V:=(xs.drop (HT.sIx xs.length 0 lo)).take (HT.sIx xs.length xs.length hi-HT.sIx xs.length 0 lo)
theorem V7 (xs:List V)(lo hi:Option Int):(LB xs lo hi).length<=xs.length:=by
 unfold LB
 rw[List.length_take,List.length_drop]
 omega
noncomputable def Pq (K:PySem.W.Frag):V->Option Int->Option Int->Hp->VK->Prop:=λx lo hi H Q=>∃ a xs,x= .ref a/\SqT K H a xs/\
 ¬(HT.sIx xs.length 0 lo=0/\HT.sIx xs.length xs.length hi=xs.length)/\∀p,H p=none->Q (.ref p) (upd H p (.tup (LB xs lo hi)))
theorem OC:SlR X (Pq X.K):=by
 intro pins s σ H x v vl vu lo hi sl Q I rx hs pl pu h
 obtain⟨a,xs,rfl,hx,hw,q⟩:=h
 cases rx
 obtain⟨its,r,ht,hz⟩:=I.tuple hx
 have hlen:its.toArray.size=xs.length:=by rw[List.size_toArray];exact r.length.symm
 refine⟨"tuple",_,PyProof.Rows.slot_tuple_getitem.lookup,ht.typeIs,?_⟩
 refine HT.getItem_tuple_cut ht hs pl pu (by rw[hlen];exact hw) ?_ (by rw[hlen];exact hz)
 rw[hlen]
 refine⟨.ref s.heap.objs.size,_,I.laid (t':=s.toks) (o:=.tup (LB xs lo hi)) (λb ob q=>Heap.get?_push_of_some _ q) (Nat.le_refl _) ?_,rfl,q _ (I.hok.fresh (Nat.le_refl _))⟩
 exact⟨Nat.le_trans (V7 xs lo hi) hz,_,(r.drop (HT.sIx xs.length 0 lo)).take (HT.sIx xs.length xs.length hi-HT.sIx xs.length 0 lo),Vt.new _ _⟩
end
noncomputable def ixN (n:Nat)(i:Int):Option Nat:=if 0<=i then(if i<n then some i.toNat else none) else if-(n:Int)<=i then some (i+n).toNat else none
noncomputable def atI {α:Type}(xs:List α)(i:Int):Option α:=(ixN xs.length i).bind λj=>xs[j]?
theorem Ee {n:Nat}{i:Int}{j:Nat}(h:ixN n i=some j):seqIndex? i n=some j/\j<n/\ -(n:Int)<=i/\i<n:=by
 unfold ixN at h
 by_cases h0:0<=i
 ·rw[if_pos h0] at h
  by_cases h1:i<n
  ·rw[if_pos h1] at h
   have e:i.toNat=j:=Option.some.inj h
   exact⟨by rw[seqIndex_of h0 h1,e],by omega,by omega,h1⟩
  ·rw[if_neg h1] at h;cases h
 ·rw[if_neg h0] at h
  by_cases h1: -(n:Int)<=i
  ·rw[if_pos h1] at h
   have e:(i+n).toNat=j:=Option.some.inj h
   exact⟨by rw[seqIndex_neg (by omega) h1,e],by omega,h1,by omega⟩
  ·rw[if_neg h1] at h;cases h
theorem Hf {α:Type}{xs:List α}{i:Int}{v:α}(h:atI xs i=some v):∃j,seqIndex? i xs.length=some j/\xs[j]?=some v/\j<xs.length/\ -(xs.length:Int)<=i/\i<xs.length:=by
 unfold atI at h
 cases e:ixN xs.length i with
 |none=>rw[e] at h;cases h
 |some j=>
  rw[e] at h
  obtain⟨h1,h2,h3,h4⟩:=Ee e
  exact⟨j,h1,h,h2,h3,h4⟩
noncomputable def Bn (b:Expr):Prop:=∀ o i,subscripted b false o i=operate [o,i] (getItem o i)
noncomputable def IxR (X:Cx)(r:R2):Prop:=
 ∀(value slice:Expr) (pins:List (Addr×Obj)) (s:Shared) (σ:St) (H:Hp) (x y:V) (v u:Value) (Q:VK),Inv X pins σ H s->X4 x v->X4 y u->r x y H Q->
  subscripted slice false v u=operate [v,u] (getItem v u)->wpAny (model X.prog X.w) X.A (subscriptTail value slice v u) (EP X pins σ Q) X.xe s
noncomputable def MtR (X:Cx)(id:String)(r:V->List V->Hp->VK->Prop):Prop:=
 ∀(pins:List (Addr×Obj)) (s:Shared) (σ:St) (H:Hp) (x:V) (xs:List V) (v:Value) (us:List Value) (Q:VK),Inv X pins σ H s->X4 x v->Ya xs us->r x xs H Q->
  wpAny (model X.prog X.w) X.A (call (.builtin id) (v::us)) (EP X pins σ Q) X.xe s
section
variable {X:Cx}{a b:Expr}{ta tb:TE}{pos:Pos}
theorem GW {r:R2}(hr:IxR X r)(ha:PE X a ta)(hb:PE X b tb)(hs:Bn b):PE X (.Subscript a b pos) (tOp r ta tb):=by
 intro pins s σ H Q I h
 exact Subscript_ (Rc ha hb I h λv u s2 x y H2 I2 rx ry q=>hr a b pins s2 σ H2 x y v u Q I2 rx ry q (hs _ _))
noncomputable def HB (K:PySem.W.Frag):R2:=λx y H Q=>∃ p xs i v,x= .ref p/\y= .int i/\SqL K H p xs/\atI xs i=some v/\Q v H
noncomputable def Et (K:PySem.W.Frag):R2:=λx y H Q=>∃ p xs i v,x= .ref p/\y= .int i/\SqT K H p xs/\atI xs i=some v/\Q v H
theorem Nc:IxR X (HB X.K):=by
 intro value slice pins s σ H x y v u Q I rx ry h hs
 obtain⟨p,xs,i,z,rfl,rfl,hq,he,q⟩:=h
 cases rx
 obtain⟨t,rfl⟩:=ry
 obtain⟨its,r,pl,hz⟩:=I.list hq
 obtain⟨j,h1,h2,h3,h4,h5⟩:=Hf he
 obtain⟨w,ew,rw'⟩:=r.get h2
 have hl:=r.length
 have hn:=DB
 have fin:EP X pins σ Q w s:=⟨z,H,I,rw',q⟩
 by_cases h0:0<=i
 ·have hj:i.toNat=j:=by
   rw[seqIndex_of h0 h5] at h1
   exact Option.some.inj h1
  exact item_listR pl.isList h0 (by omega) (by rw[hj];simpa using ew) fin hs
 ·have hj:(i+(its.toArray.size:Int)).toNat=j:=by
   rw[seqIndex_neg (by omega) h4] at h1
   rw[List.size_toArray, ←hl]
   exact Option.some.inj h1
  exact subscriptTail_builtinR (x:=w) pl.isList.typeIs slot_list_getitem.lookup
   (wpAny_getItem_list_neg (Q:=λr s'=>r=w/\EP X pins σ Q r s') pl.isList (by omega) (by rw[List.size_toArray]<;> omega) (by omega) (by rw[hj];simpa using ew) ⟨rfl,fin⟩) hs
theorem OT:IxR X (Et X.K):=by
 intro value slice pins s σ H x y v u Q I rx ry h hs
 obtain⟨p,xs,i,z,rfl,rfl,hq,he,q⟩:=h
 cases rx
 obtain⟨t,rfl⟩:=ry
 obtain⟨its,r,pl,hz⟩:=I.tuple hq
 obtain⟨j,h1,h2,h3,h4,h5⟩:=Hf he
 obtain⟨w,ew,rw'⟩:=r.get h2
 have hl:=r.length
 have hn:=DB
 have fin:EP X pins σ Q w s:=⟨z,H,I,rw',q⟩
 exact subscriptTail_builtinR (x:=w) pl.typeIs slot_tuple_getitem.lookup
  (getItem_tuple (j:=j) (Q:=λr s'=>r=w/\EP X pins σ Q r s') pl (by omega) (by omega) (by rw[List.size_toArray, ←hl];exact h1) (by simpa using ew) ⟨rfl,fin⟩) hs
theorem Ce (its:List Value)(n j:Nat)(u:Value):Obj.mapSeq (·.setIfInBounds j u) {cls:=.type "list",data:=.seq its.toArray n}={cls:=.type "list",data:=.seq (its.set j u).toArray n}:=by
 simp[Obj.mapSeq]
theorem Inv.lst {pins:List (Addr×Obj)}{σ:St}{H:Hp}{s:Shared}{p:Addr}{xs:List V}(I:Inv X pins σ H s)(h:H p=some (.lst xs)):
  ∃(its:List Value) (n:Nat),Ya xs its/\s.heap.get? p=some {cls:=.type "list",data:=.seq its.toArray n}/\xs.length<=sizeLine:=by
 obtain⟨z,its,n,r,e⟩:=I.hok p _ h
 exact⟨its,n,r,e,z⟩
theorem Inv.lstUpd {pins:List (Addr×Obj)}{σ:St}{H:Hp}{s:Shared}{p:Addr}{xs ys:List V}{its its':List Value}{n n':Nat}{f:Obj->Obj}(I:Inv X pins σ H s)(h:H p=some (.lst xs))
  (ho:s.heap.get? p=some {cls:=.type "list",data:=.seq its.toArray n})(hf:f {cls:=.type "list",data:=.seq its.toArray n}={cls:=.type "list",data:=.seq its'.toArray n'})(r:Ya ys its')(hz:ys.length<=sizeLine)(t:Nat):
  Inv X pins σ (upd H p (.lst ys)) {s with heap:=s.heap.update p f,toks:=t}:=by
 have e:(s.heap.update p f).get? p=some {cls:=.type "list",data:=.seq its'.toArray n'}:=by
  rw[Heap.get?_update_self f ho (by rw[hf]<;> rfl),hf]
 refine I.write (x:=p) (e:=p) (by rw[h];trivial) (.inl rfl) (λb u hb q=>(Heap.get?_update_other _ _ (Ne.symm hb)).trans q) ⟨_,e⟩ ?_
 exact⟨hz,its',n',r,e⟩
noncomputable def IP:V->V->V->Hp->(Hp->Prop)->Prop:=λo i v H Q=>∃ p xs k j,o= .ref p/\i= .int k/\H p=some (.lst xs)/\ixN xs.length k=some j/\Q (upd H p (.lst (xs.set j v)))
theorem UY:Rr X IP:=by
 intro pins s σ H o i v ov iv u Q I ro ri rv h
 obtain⟨p,xs,k,j,rfl,rfl,hp,hj,q⟩:=h
 cases ro
 obtain⟨t,rfl⟩:=ri
 obtain⟨its,n,r,ho,hz⟩:=I.lst hp
 obtain⟨h1,h2,h3,h4⟩:=Ee hj
 have hl:=r.length
 have hn:=DB
 have I':Inv X pins σ (upd H p (.lst (xs.set j v))) {s with heap:=s.heap.update p (Obj.mapSeq (·.setIfInBounds j u))}:=
  I.lstUpd hp ho (Ce its n j u) (r.set rv j) (by rw[List.length_set];exact hz) s.toks
 by_cases h0:0<=k
 ·have hk:k.toNat=j:=by
   rw[seqIndex_of h0 h4] at h1
   exact Option.some.inj h1
  exact PySem.W.ki_setAt ho h0 (by omega) (by rw[List.size_toArray, ←hl];exact h4) (by rw[hk];exact⟨_,I',q⟩)
 ·have hk:(k+(its.toArray.size:Int)).toNat=j:=by
   rw[seqIndex_neg (by omega) h3] at h1
   rw[List.size_toArray, ←hl]
   exact Option.some.inj h1
  exact PySem.W.ki_setBack ho (by omega) (by rw[List.size_toArray, ←hl];exact h3) (by omega) (by rw[hk];exact⟨_,I',q⟩)
theorem K3 (lo hi:Option Int)(n:Nat):(sliceBounds lo hi none n).1=((HT.sIx n 0 lo:Nat):Int)/\(sliceBounds lo hi none n).2.1=((HT.sIx n n hi:Nat):Int)/\(sliceBounds lo hi none n).2.2=1:=by
 refine⟨?_,?_,rfl⟩
 ·cases lo with
  |none=>simp[sliceBounds,HT.sIx]
  |some i=>
   simp only[sliceBounds,HT.sIx,Option.getD_none,show(1:Int) > 0 by decide,if_true]
   by_cases h:i<0
   ·simp only[h,if_true]<;> omega
   ·simp only[h,if_false]<;> omega
 ·cases hi with
  |none=>simp[sliceBounds,HT.sIx]
  |some i=>
   simp only[sliceBounds,HT.sIx,Option.getD_none,show(1:Int) > 0 by decide,if_true]
   by_cases h:i<0
   ·simp only[h,if_true]<;> omega
   ·simp only[h,if_false]<;> omega
theorem Kr (its:List Value)(lo hi:Option Int):slicePick its.toArray lo hi none=((its.drop (HT.sIx its.length 0 lo)).take (HT.sIx its.length its.length hi-HT.sIx its.length 0 lo)).toArray:=by
 obtain⟨h1,h2,h3⟩:=K3 lo hi its.toArray.size
 unfold slicePick
 rw[h1,h2,h3]
 simp only[sliceRange_one,pick_run,List.size_toArray]<;> rfl
noncomputable def Pf (K:PySem.W.Frag):V->Option Int->Option Int->Hp->VK->Prop:=λx lo hi H Q=>∃ a xs,x= .ref a/\SqL K H a xs/\∀p,H p=none->Q (.ref p) (upd H p (.lst (LB xs lo hi)))
theorem Nm:SlR X (Pf X.K):=by
 intro pins s σ H x v vl vu lo hi sl Q I rx hs pl pu h
 obtain⟨a,xs,rfl,hx,q⟩:=h
 cases rx
 obtain⟨its,r,ht,hz⟩:=I.list hx
 have hlen:=r.length
 refine⟨"list",_,slot_list_getitem.lookup,ht.isList.typeIs,?_⟩
 refine wpAny_getItem_list_slice ht.isList hs pl pu .none (by simp) ?_ (by rw[List.size_toArray]<;> omega)
 rw[Kr, ←hlen]
 refine⟨.ref s.heap.objs.size,_,I.laid (t':=s.toks) (o:=.lst (LB xs lo hi)) (λb ob q=>Heap.get?_push_of_some _ q) (Nat.le_refl _) ?_,rfl,q _ (I.hok.fresh (Nat.le_refl _))⟩
 exact⟨Nat.le_trans (V7 xs lo hi) hz,_,0,(r.drop (HT.sIx xs.length 0 lo)).take (HT.sIx xs.length xs.length hi-HT.sIx xs.length 0 lo),Heap.get?_push_size _ rfl⟩
noncomputable def JP:V->Bool
 | .non=>true
 | .bl _=>true
 | .int _=>true
 | .str _=>true
 |_=>false
noncomputable def eqV:V->V->Bool
 | .non, .non=>true
 | .bl a, .bl b=>a==b
 | .bl a, .int b=>(if a then 1 else 0)==b
 | .int a, .bl b=>a==(if b then 1 else 0)
 | .int a, .int b=>a==b
 | .str a, .str b=>a==b
 |_,_=>false
theorem Ov {A:Around}{s:Shared}{y x:V}{u v:Value}(ry:X4 y u)(rx:X4 x v)(fy:JP y=true)(fx:JP x=true):SeqAt.EqAt A s u v (eqV y x):=by
 cases y with
 |non=>
  cases ry
  cases x with
  |non=>cases rx;exact SeqAt.EqAt.same _
  |bl b=>cases rx;exact SeqAt.EqAt.none_bool b
  |int b=>obtain⟨t,rfl⟩:=rx;exact SeqAt.EqAt.none_int b t
  |str b=>obtain⟨t,rfl⟩:=rx;exact SeqAt.EqAt.none_str b t
  |_=>exact absurd (show false=true from fx) Bool.false_ne_true
 |bl a=>
  cases ry
  cases x with
  |non=>cases rx;exact SeqAt.EqAt.bool_none a
  |bl b=>cases rx;exact SeqAt.EqAt.bool_bool a b
  |int b=>obtain⟨t,rfl⟩:=rx;exact SeqAt.EqAt.bool_int a b t
  |str b=>obtain⟨t,rfl⟩:=rx;exact SeqAt.EqAt.bool_str a b t
  |_=>exact absurd (show false=true from fx) Bool.false_ne_true
 |int a=>
  obtain⟨t',rfl⟩:=ry
  cases x with
  |non=>cases rx;exact SeqAt.EqAt.int_none a t'
  |bl b=>cases rx;exact SeqAt.EqAt.int_bool a t' b
  |int b=>obtain⟨t,rfl⟩:=rx;exact SeqAt.EqAt.int_int a t' b t
  |str b=>obtain⟨t,rfl⟩:=rx;exact SeqAt.EqAt.int_str a t' b t
  |_=>exact absurd (show false=true from fx) Bool.false_ne_true
 |str a=>
  obtain⟨t',rfl⟩:=ry
  cases x with
  |non=>cases rx;exact SeqAt.EqAt.str_none a t'
  |bl b=>cases rx;exact SeqAt.EqAt.str_bool a t' b
  |int b=>obtain⟨t,rfl⟩:=rx;exact SeqAt.EqAt.str_int a t' b t
  |str b=>obtain⟨t,rfl⟩:=rx;exact SeqAt.EqAt.str_str a t' b t
  |_=>exact absurd (show false=true from fx) Bool.false_ne_true
 |_=>exact absurd (show false=true from fy) Bool.false_ne_true
noncomputable def eqU (x:V)(u:Value):Bool:=match u with
 | .none=>eqV .non x
 | .bool b=>eqV (.bl b) x
 | .int i _=>eqV (.int i) x
 | .str z _=>eqV (.str z) x
 |_=>false
theorem Eb {x y:V}{u:Value}(r:X4 y u)(f:JP y=true):eqU x u=eqV y x:=by
 cases y with
 |non=>cases r;rfl
 |bl b=>cases r;rfl
 |int i=>obtain⟨t,rfl⟩:=r;rfl
 |str z=>obtain⟨t,rfl⟩:=r;rfl
 |_=>exact absurd (show false=true from f) Bool.false_ne_true
theorem GU {x:V}:∀{xs:List V}{us:List Value},Ya xs us->xs.all JP=true->us.any (eqU x)=xs.any λy=>eqV y x
 |_,_, .nil,_=>rfl
 |y::xs,u::us, .cons r t,f=>by
  rw[List.all_cons,Bool.and_eq_true] at f
  rw[List.any_cons,List.any_cons,Eb r f.1,GU t f.2]
theorem JS {A:Around}{s:Shared}{x:V}{v:Value}(rx:X4 x v)(fx:JP x=true):∀{xs:List V}{us:List Value},Ya xs us->xs.all JP=true->∀u∈us,SeqAt.EqAt A s u v (eqU x u)
 |_,_, .nil,_=>λu hu=>by cases hu
 |y::xs,u::us, .cons r t,f=>λu' hu=>by
  rw[List.all_cons,Bool.and_eq_true] at f
  rcases List.mem_cons.mp hu with rfl |hu
  ·rw[Eb r f.1];exact Ov r rx f.1 fx
  ·exact JS rx fx t f.2 u' hu
noncomputable def inV (x:V)(xs:List V):Bool:=xs.any λy=>eqV y x
noncomputable def rIn (K:PySem.W.Frag)(neg:Bool):R2:=λx y H Q=>∃ p xs,y= .ref p/\(SqL K H p xs∨SqT K H p xs)/\JP x=true/\xs.all JP=true/\Q (.bl (if neg then !inV x xs else inV x xs)) H
theorem KK:OpR X (compareOp .In) (rIn X.K false):=by
 intro pins s σ H x y v u Q I rx ry h
 obtain⟨p,xs,rfl,hq,fx,fs,q⟩:=h
 cases ry
 rcases hq with hq |hq
 ·obtain⟨its,r,pl,hz⟩:=I.list hq
  refine SeqAt.in_listAt (eqU x) pl.isList (λw hw=>JS rx fx r fs w (by simpa using hw)) ⟨.bl _,H,I,rfl,?_⟩
  rw[show its.toArray.any (eqU x)=its.any (eqU x) by simp,GU r fs]
  exact q
 ·obtain⟨its,r,pl,hz⟩:=I.tuple hq
  refine SeqAt.in_tupleAt (eqU x) pl (λw hw=>JS rx fx r fs w (by simpa using hw)) ⟨.bl _,H,I,rfl,?_⟩
  rw[show its.toArray.any (eqU x)=its.any (eqU x) by simp,GU r fs]
  exact q
theorem KE:Z2 X (.builtin "len") (λxs H Q=>∃ p ys,xs=[.ref p]/\(SqL X.K H p ys∨SqT X.K H p ys)/\Q (.int ys.length) H):=by
 intro pins s σ H xs us Q I r h
 obtain⟨p,ys,rfl,hq,q⟩:=h
 obtain⟨u,rfl,rx⟩:=UU r
 cases rx
 have hn:=DB
 rcases hq with hq |hq
 ·obtain⟨its,r',pl,hz⟩:=I.list hq
  have hlen:=r'.length
  exact Calls.call_len_list pl.isList (by simp only[List.size_toArray]<;> omega) ⟨.int ys.length,H,I.tok _,⟨s.toks+1,by rw[List.size_toArray,hlen]⟩,q⟩
 ·obtain⟨its,r',pl,hz⟩:=I.tuple hq
  have hlen:=r'.length
  exact len_tuple pl (by simp only[List.size_toArray]<;> omega) ⟨.int ys.length,H,I.tok _,⟨s.toks+1,by rw[List.size_toArray,hlen]⟩,q⟩
theorem K1:Z2 X (.type "list") (λxs H Q=>∃ p ys,xs=[.ref p]/\(SqL X.K H p ys∨SqT X.K H p ys)/\∀l,H l=none->Q (.ref l) (upd H l (.lst ys))):=by
 intro pins s σ H xs us Q I r h
 obtain⟨p,ys,rfl,hq,q⟩:=h
 obtain⟨u,rfl,rx⟩:=UU r
 cases rx
 have fin:∀(its:List Value),Ya ys its->ys.length<=sizeLine->∀(h':Heap) (c':Nat),(∀b o',s.heap.get? b=some o'->h'.get? b=some o')->
   h'.get? s.heap.objs.size=some {cls:=.type "list",dict:=none,data:=.seq its.toArray c',slots:=#[]}->EP X pins σ Q (.ref s.heap.objs.size) {s with heap:=h'}:=λits r' hz h' c' kp e=>
  ⟨.ref s.heap.objs.size,_,I.laid (t':=s.toks) kp (Nat.le_refl _) (show YG X.prog X.w _ h' _ (.lst ys) from⟨hz,its,c',r',e⟩),rfl,q _ (I.hok.fresh (Nat.le_refl _))⟩
 rcases hq with hq |hq
 ·obtain⟨its,r',pl,hz⟩:=I.list hq
  have hlen:=r'.length
  obtain⟨o,ho,hc,n,hd⟩:=pl.isList
  exact call_list_seq p (.inl rfl) ho hc hd (λh' c' kp e=>fin its r' hz h' c' kp e) (by simp only[List.size_toArray]<;> omega)
 ·obtain⟨its,r',pl,hz⟩:=I.tuple hq
  have hlen:=r'.length
  obtain⟨o,ho,hc,n,hd⟩:=pl
  exact call_list_seq p (.inr rfl) ho hc hd (λh' c' kp e=>fin its r' hz h' c' kp e) (by simp only[List.size_toArray]<;> omega)
theorem Kk:Z2 X (.type "tuple") (λxs H Q=>∃ p ys,xs=[.ref p]/\((SqL X.K H p ys/\∀l,H l=none->Q (.ref l) (upd H l (.tup ys)))∨(SqT X.K H p ys/\Q (.ref p) H))):=by
 intro pins s σ H xs us Q I r h
 obtain⟨p,ys,rfl,h⟩:=h
 obtain⟨u,rfl,rx⟩:=UU r
 cases rx
 rcases h with⟨hq,q⟩ | ⟨hq,q⟩
 ·obtain⟨its,r',pl,hz⟩:=I.list hq
  have hlen:=r'.length
  refine call_tuple_list pl.isList (λh' kp=>?_) (by simp only[List.size_toArray]<;> omega)
  have I1:Inv X pins σ H {s with heap:=h'}:=I.kept (t':=s.toks) kp
  have I2:Inv X pins σ (upd H h'.objs.size (.tup ys)) {s with heap:=h'.push {cls:=.type "tuple",data:=.seq its.toArray}}:=
   I1.laid (t':=s.toks) (λb o e=>Heap.get?_push_of_some _ e) (Nat.le_refl _) (show YG X.prog X.w _ _ _ (.tup ys) from⟨hz,its,r',Vt.new _ _⟩)
  exact⟨.ref h'.objs.size,_,I2,rfl,q _ (I1.hok.fresh (Nat.le_refl _))⟩
 ·obtain⟨its,r',pl,hz⟩:=I.tuple hq
  exact call_tuple_same pl ⟨.ref p,H,I,rfl,q⟩
noncomputable def tyV (K:PySem.W.Frag)(T:String)(x:V)(H:Hp):Prop:=match x with
 | .str _=>T= "str"
 | .int _=>T= "int"
 | .ref p=>(T= "list" /\∃xs,SqL K H p xs)∨(T= "tuple" /\∃o,K.lookup p=some o/\o.cls= .type "tuple" /\o.dict=none)∨
   (T= "dict" /\((∃kvs,H p=some (.dK kvs))∨∃kvs,H p=some (.dT kvs)))∨(T= "set" /\∃S n,H p=some (.set S n))
 |_=>False
theorem Oe {pins:List (Addr×Obj)}{σ:St}{H:Hp}{s:Shared}{T:String}{x:V}{v:Value}(I:Inv X pins σ H s)(r:X4 x v)(ty:tyV X.K T x H):
  s.TypeIs v T/\∀a,v= .ref a->∃ob,s.heap.get? a=some ob/\ob.dict=none:=by
 cases x with
 |str z=>
  obtain⟨t,rfl⟩:=r
  cases(show T= "str" from ty)
  exact⟨typeIs_str s z t,λ_ e=>nomatch e⟩
 |int i=>
  obtain⟨t,rfl⟩:=r
  cases(show T= "int" from ty)
  exact⟨typeIs_int s i t,λ_ e=>nomatch e⟩
 |ref p=>
  cases r
  rcases ty with⟨rfl,xs,hq⟩ | ⟨rfl,o,hk,hc,hd⟩ | ⟨rfl,hk⟩ | ⟨rfl,S,n,hk⟩
  ·obtain⟨its,_,pl,_⟩:=I.list hq
   refine⟨pl.isList.typeIs,λa e=>?_⟩
   cases e
   obtain⟨o,n,e,c,hd,_⟩:=pl
   exact⟨o,e,hd⟩
  ·refine⟨⟨o,I.kIn p o hk,hc⟩,λa e=>?_⟩
   cases e
   exact⟨o,I.kIn _ o hk,hd⟩
  ·have z:∃o,s.heap.get? p=some o/\o.ExactDict:=by
    rcases hk with⟨kvs,hk⟩ | ⟨kvs,hk⟩
    ·obtain⟨_,_,_,_,o,_,_,e,ex,_⟩:=I.hok p _ hk
     exact⟨o,e,ex⟩
    ·obtain⟨_,_,_,_,o,_,_,e,ex,_⟩:=I.hok p _ hk
     exact⟨o,e,ex⟩
   obtain⟨o,e,ex⟩:=z
   refine⟨⟨o,e,ex.1⟩,λa e2=>?_⟩
   cases e2
   exact⟨o,e,ex.2.1⟩
  ·obtain⟨o,_,_,_,e,ex,_⟩:=I.hok p _ hk
   refine⟨⟨o,e,ex.1⟩,λa e2=>?_⟩
   cases e2
   exact⟨o,e,ex.2.1⟩
 |_=>exact False.elim ty
noncomputable def tBM (K:PySem.W.Frag)(T:String)(r:V->List V->Hp->VK->Prop)(to:TE)(t:TA):TE:=λσ H Q=>to σ H λx H1=>tyV K T x H1/\t σ H1 λxs H2=>r x xs H2 Q
variable {o e:Expr}{es:List Expr}{to:TE}{t:TA}{name:Str}{apos cpos:Pos}{T id:String}{r:V->List V->Hp->VK->Prop}
theorem YO (pa:PlainAttrs T)(slot:Slot T name id)(hty:typeOf (.builtin id)=pure (.type "method_descriptor"))(hm:MtR X id r)(ho:PE X o to)(ha:PA X (e::es) t)
  (hbase:attributeBase o name X.env (eval o X.env)=eval o X.env:=by rfl)
  (hfew:((backTo cpos (starEach (e::es) X.env)).all (λx=>!x.1)&&(backToKw cpos (keywordEach [] X.env)).all (λx=>x.1.isSome)
   &&decide ((e::es).length+([]:List Keyword).length+(if([]:List Keyword).isEmpty then 0 else 1)<30))=true:=by rfl)
  (hline:(apos.endLine==cpos.line)=true:=by rfl)(hs:starEach (e::es) X.env=(false,eval e X.env)::starEach es X.env:=by rfl)(hplain:(backTo cpos (starEach es X.env)).any (·.1)=false:=by rfl):
  PE X (.Call (.Attribute o name apos) (e::es) [] cpos) (tBM X.K T r to t):=by
 intro pins s σ H Q I h
 refine wpAny_Call_method_late hbase hfew hline rfl (thn (ho pins s σ H _ I h) λv s1 r9=>?_)
 obtain⟨x,H1,I1,r1,ty,q1⟩:=r9
 obtain⟨h1,h2⟩:=Oe I1 r1 ty
 refine⟨T,id,pa,slot,hty,h1,h2,?_⟩
 have hA:=ha cpos pins s1 σ H1 _ I1 q1
 rw[hs] at hA⊢
 refine Calls.callWith_builtin (by show(false || (backTo cpos (starEach es X.env)).any (·.1))=false;rw[hplain]<;> rfl) (Calls.evalArgs_plain ?_)
 exact thn hA λus s2 r9=>by obtain⟨vs,H2,I2,r2,q2⟩:=r9;exact hm pins s2 σ H2 x vs v us Q I2 r1 r2 q2
/- xs.append(e), list.index on a module's tuple .. are MtR facts of 06m -/
end
noncomputable def MtM (X:Cx)(id:String)(r:V->List V->Hp->VK->Prop):Prop:=
 ∀(pins:List (Addr×Obj)) (s:Shared) (σ:St) (H:Hp) (x:V) (xs:List V) (v:Value) (us:List Value) (Q:VK),Inv X pins σ H s->X4 x v->Ya xs us->r x xs H Q->
  wpAny (model X.prog X.w) X.A (call (.builtin id) (v::us)) (EP X pins σ Q) X.xe s
theorem Ya.one:∀{x:V}{us:List Value},Ya [x] us->∃u,us=[u]/\X4 x u:=fun {x us} h=>by
 cases h with
 |cons r t=>
  cases t
  exact⟨_,rfl,r⟩
theorem Ya.two:∀{x y:V}{us:List Value},Ya [x,y] us->∃u v,us=[u,v]/\X4 x u/\X4 y v:=fun {x y us} h=>by
 cases h with
 |cons r t=>
  cases t with
  |cons q t=>
   cases t
   exact⟨_,_,rfl,r,q⟩
theorem Ya.eraseIdx:∀{xs:List V}{us:List Value} (i:Nat),Ya xs us->Ya (xs.eraseIdx i) (us.eraseIdx i)
 |_,_,_, .nil=>.nil
 |_,_,0, .cons _ t=>t
 |_,_,i+1, .cons r t=>.cons r (Ya.eraseIdx i t)
theorem Ya.rep {xs:List V}{us:List Value}(h:Ya xs us):∀k:Nat,Ya (List.replicate k xs).flatten (List.replicate k us).flatten
 |0=>.nil
 |k+1=>by
  rw[List.replicate_succ,List.replicate_succ,List.flatten_cons,List.flatten_cons]
  exact Ya.append h (Ya.rep h k)
theorem KR {α:Type}:∀(l:List α) (i:Nat),(l.eraseIdx i).length<=l.length
 | [],_=>Nat.le_refl _
 |_::_,0=>Nat.le_succ _
 |_::r,i+1=>Nat.succ_le_succ (KR r i)
theorem Gj (its:List Value):∀(k:Nat) (acc:List Value),
  List.foldl (λx1 x2=>x1++x2) acc.toArray (List.replicate k its.toArray)=(acc++(List.replicate k its).flatten).toArray
 |0,acc=>by simp
 |k+1,acc=>by
  have e:acc.toArray++its.toArray=(acc++its).toArray:=by simp
  have e2:(acc++its)++(List.replicate k its).flatten=acc++(List.replicate (k+1) its).flatten:=by
   rw[List.replicate_succ,List.flatten_cons,List.append_assoc]
  rw[←e2, ←Gj its k (acc++its), ←e,List.replicate_succ,List.foldl_cons]
section
variable {X:Cx}{pins:List (Addr×Obj)}{σ:St}{H:Hp}{s:Shared}{l b:Addr}{xs ys zs:List V}
theorem Inv.lset {its its':List Value}{n:Nat}{f:Array Value->Array Value}{t':Nat}(I:Inv X pins σ H s)(hH:H l=some (.lst xs))
  (e:s.heap.get? l=some {cls:=.type "list",data:=.seq its.toArray n})(hf:f its.toArray=its'.toArray)(hv:Ya ys its')(hz:ys.length<=sizeLine):
  Inv X pins σ (upd H l (.lst ys)) {s with heap:=s.heap.update l (Obj.mapSeq f),toks:=t'}:=by
 have q:=PySem.IsL.update e f
 rw[hf] at q
 refine I.write (x:=l) (e:=l) (by rw[hH];exact trivial) (.inl rfl) (λb' u hb hu=>(Heap.get?_update_other s.heap (Obj.mapSeq f) (Ne.symm hb)).trans hu) ⟨_,q⟩ ?_
 exact⟨hz,its',_,hv,q⟩
theorem Inv.lnew {its:List Value}{t':Nat}(I:Inv X pins σ H s)(hv:Ya ys its)(hz:ys.length<=sizeLine):
  Inv X pins σ (upd H s.heap.objs.size (.lst ys)) {s with heap:=s.heap.push {cls:=.type "list",data:=.seq its.toArray},toks:=t'}:=
 I.laid (λ_ _ q=>Heap.get?_push_of_some _ q) (Nat.le_refl _) ⟨hz,its,0,hv,Heap.get?_push_size _ rfl⟩
theorem Inv.fresh (I:Inv X pins σ H s):H s.heap.objs.size=none:=I.hok.fresh (Nat.le_refl _)
theorem Inv.lstM (I:Inv X pins σ H s)(hH:H l=some (.lst xs)):xs.length<=sizeLine/\∃(its:List Value) (n:Nat),Ya xs its/\xs.length=its.length/\s.heap.get? l=some {cls:=.type "list",data:=.seq its.toArray n}:=by
 obtain⟨z,its,n,r,e⟩:=I.hok l _ hH
 exact⟨z,its,n,r,r.length,e⟩
theorem F1 {n:Nat}(h:n<=sizeLine):Builtin.List.listTooLong n=false:=by
 unfold Builtin.List.listTooLong
 exact decide_eq_false (by omega)
end
section
variable {X:Cx}
noncomputable def VP:V->List V->Hp->VK->Prop:=λx vs H Q=>∃ l xs y,x= .ref l/\vs=[y]/\H l=some (.lst xs)/\xs.length<sizeLine/\Q .non (upd H l (.lst (xs++[y])))
theorem XA:MtM X "list.append" VP:=by
 intro pins s σ H x vs v us Q I rx rv h
 obtain⟨l,xs,y,rfl,rfl,hH,hz,q⟩:=h
 cases rx
 obtain⟨u,rfl,ru⟩:=rv.one
 obtain⟨z,its,n,r,hl,e⟩:=I.lstM hH
 refine call_meets F.slot_list_append ⟨_,e,rfl⟩ F.entry_list_append (F.args_list_append_2 _ _) (PySem.list_append l its.toArray n u (by rw[List.size_toArray];omega)) ⟨e,?_⟩
 refine⟨.non,_,I.lset (its':=its++[u]) hH e (by simp) (r.append (.cons ru .nil)) ?_,rfl,q⟩
 rw[List.length_append,List.length_singleton]
 omega
noncomputable def GL:V->List V->Hp->VK->Prop:=λx vs H Q=>∃ l b xs zs,x= .ref l/\vs=[.ref b]/\H l=some (.lst xs)/\H b=some (.lst zs)/\xs.length+zs.length<=sizeLine/\Q .non (upd H l (.lst (xs++zs)))
theorem BH:MtM X "list.extend" GL:=by
 intro pins s σ H x vs v us Q I rx rv h
 obtain⟨l,b,xs,zs,rfl,rfl,hH,hB,hz,q⟩:=h
 cases rx
 obtain⟨u,rfl,ru⟩:=rv.one
 cases ru
 obtain⟨z,its,n,r,hl,e⟩:=I.lstM hH
 obtain⟨z2,its2,n2,r2,hl2,e2⟩:=I.lstM hB
 have hsz:its.toArray.size+its2.toArray.size<=sizeLine:=by rw[List.size_toArray,List.size_toArray];omega
 have hlong:¬(!its.toArray.isEmpty&&Builtin.List.listTooLong (its.toArray.size+its2.toArray.size))=true:=by
  rw[F1 hsz,Bool.and_false]
  exact Bool.false_ne_true
 refine call_meets F.slot_list_extend ⟨_,e,rfl⟩ F.entry_list_extend (F.args_list_extend_2 _ _)
  (AutoSeq1.list_extend_list_list_0 l its.toArray n b its2.toArray n2 hlong (by rw[List.size_toArray];omega) (by omega)) ⟨e,e2,?_⟩
 refine⟨.non,_,I.lset (its':=its++its2) hH e (by simp) (r.append r2) ?_,rfl,q⟩
 rw[List.length_append]
 omega
noncomputable def GC:V->List V->Hp->VK->Prop:=λx vs H Q=>∃ l xs i k y,x= .ref l/\vs=[.int i]/\H l=some (.lst xs)/\ -(2^63)<=i/\i<2^63/\seqIndex? i xs.length=some k/\xs[k]?=some y/\Q y (upd H l (.lst (xs.eraseIdx k)))
theorem UA:MtM X "list.pop" GC:=by
 intro pins s σ H x vs v us Q I rx rv h
 obtain⟨l,xs,i,k,y,rfl,rfl,hH,h1,h2,hk,hy,q⟩:=h
 cases rx
 obtain⟨u,rfl,ru⟩:=rv.one
 obtain⟨t,rfl⟩:=ru
 obtain⟨z,its,n,r,hl,e⟩:=I.lstM hH
 obtain⟨w,hw,rw'⟩:=r.get hy
 refine call_meets F.slot_list_pop ⟨_,e,rfl⟩ F.entry_list_pop (F.args_list_pop_2 _ _)
  (MeetsSeq.list_pop_at l its.toArray n i t k w (fitsIndex_both h1 h2) (by rw[List.size_toArray, ←hl];exact hk) (by rw[←Array.getElem?_toList];exact hw) (by rw[List.size_toArray];omega)) ⟨e,?_⟩
 refine⟨y,_,I.lset (its':=its.eraseIdx k) hH e ?_ (r.eraseIdx k) ?_,rw',q⟩
 ·show its.toArray.eraseIdxIfInBounds k=(its.eraseIdx k).toArray
  rw[List.eraseIdxIfInBounds_toArray]
 ·have:=KR xs k
  omega
noncomputable def PN:R2:=λx y H Q=>∃ l b xs zs,x= .ref l/\y= .ref b/\H l=some (.lst xs)/\H b=some (.lst zs)/\xs.length+zs.length<=sizeLine/\∀p,H p=none->Q (.ref p) (upd H p (.lst (xs++zs)))
theorem Vp:OpR X (binaryOp .Add) PN:=by
 intro pins s σ H x y v u Q I rx ry h
 obtain⟨l,b,xs,zs,rfl,rfl,hH,hB,hz,q⟩:=h
 cases rx
 cases ry
 obtain⟨z,its,n,r,hl,e⟩:=I.lstM hH
 obtain⟨z2,its2,n2,r2,hl2,e2⟩:=I.lstM hB
 refine PySem.P.add_list e e2 ?_ (by rw[List.size_toArray,List.size_toArray];omega)
 have ea:its.toArray++its2.toArray=(its++its2).toArray:=by simp
 rw[ea]
 exact⟨.ref _,_,I.lnew (t':=s.toks) (r.append r2) (by rw[List.length_append];omega),rfl,q _ I.fresh⟩
noncomputable def P0:R2:=λx y H Q=>∃ l k xs,x= .ref l/\y= .int k/\H l=some (.lst xs)/\ -(2^63)<=k/\k<2^63/\xs.length*k.toNat<=sizeLine/\
 ∀p,H p=none->Q (.ref p) (upd H p (.lst (List.replicate k.toNat xs).flatten))
theorem NM {α:Type}(xs:List α)(k:Nat):(List.replicate k xs).flatten.length=k*xs.length:=by
 induction k with
 |zero=>simp
 |succ k ih=>rw[List.replicate_succ,List.flatten_cons,List.length_append,ih,Nat.succ_mul,Nat.add_comm]
theorem Ut:OpR X (binaryOp .Mult) P0:=by
 intro pins s σ H x y v u Q I rx ry h
 obtain⟨l,k,xs,rfl,rfl,hH,h1,h2,hz,q⟩:=h
 cases rx
 obtain⟨t,rfl⟩:=ry
 obtain⟨z,its,n,r,hl,e⟩:=I.lstM hH
 have hlen:its.toArray.size*k.toNat<=sizeLine:=by rw[List.size_toArray, ←hl];exact hz
 have hcap:¬its.toArray.size*k.toNat > (2^63-1)/8:=by
  have:(sizeLine:Nat)<=(2^63-1)/8:=by decide
  omega
 have hfit:¬(!Builtin.List.listFitsIndex k)=true:=by
  rw[fitsIndex_both h1 h2]
  exact Bool.false_ne_true
 have hlong:¬Builtin.List.listTooLong (its.toArray.size*k.toNat)=true:=by
  rw[F1 hlen]
  exact Bool.false_ne_true
 have hnew:List.foldl (λx1 x2=>x1++x2) #[] (List.replicate (if its.toArray.isEmpty=true then 0 else k.toNat) its.toArray)=(List.replicate k.toNat its).flatten.toArray:=by
  have f0:∀m:Nat,List.foldl (λx1 x2=>x1++x2) #[] (List.replicate m its.toArray)=(List.replicate m its).flatten.toArray:=λm=>by
   have:=Gj its m []
   rw[List.nil_append] at this
   exact this
  rw[f0]
  cases its with
  |nil=>simp
  |cons a r'=>rw[if_neg (by simp)]
 refine wpAny_binaryOp_repeat_ref (T:="list") (U:="int") (by decide) ⟨_,e,rfl⟩ (λs'=>typeIs_int s' k t) noFill_list_mul F.fills_int_mul F.slot_int_rmul repeat_list F.slot_int_index.lookup
  (call_meets F.slot_int_rmul (typeIs_int s k t) F.entry_int_rmul (F.args_int_rmul_2 _ _) (int___rmul___int_list k t l its.toArray n)
   ⟨e,rfl,⟨_,e,rfl⟩,call_meets F.slot_list_mul ⟨_,e,rfl⟩ F.entry_list_mul (F.args_list_mul_2 _ _) (AutoListH.list___mul___list_int_3 l its.toArray n k t hfit hcap hlong) ⟨e,?_⟩⟩)
 rw[hnew]
 exact⟨.ref _,_,I.lnew (t':=s.toks) (r.rep k.toNat) (by rw[NM,Nat.mul_comm];exact hz),rfl,q _ I.fresh⟩
end
section
variable {prog:Program}{w:World}{A:Around}{E:Value->Shared->Prop}{s:Shared}
end
section
variable {X:Cx}
end
end L2
namespace Att
open PySem PySem.W PySem.Calls PyProof.Rows
theorem Vw {P:Params}{h:Heap}:∀(ns:List Int) (vs:List Value),WellAll P h vs (ns.map WData.int)->IntsAre vs ns:=by
 intro ns
 induction ns with
 |nil=>
  intro vs w
  rw[List.map_nil] at w
  cases w
  exact .nil
 |cons n ns ih=>
  intro vs w
  rw[List.map_cons] at w
  cases w with
  |cons a b=>
   cases a
   exact .cons _ _ (ih _ b)
theorem E4 {l:OpenLaw}{n:Nat}(hn:l.most=some n){P:Params}{h:Heap}{args:List WData}{vals:List Value}
  (hpre:l.row.toRowW.claim.pre args=true)(hwl:WellAll P h vals args):
  ∃a vs ns,vals=[Value.ref a]/\args=[WData.list (ns.map WData.int)]/\h.get? a=some {cls:=.type "list",data:=.seq vs.toArray}/\IntsAre vs ns/\ns.length<=n:=by
 have hsh:WShape.hasAll [] args [.list .int]=true:=(pre_splitW hpre).1
 have hc:l.pre.holds [] {args:=args}=true:=(pre_splitW hpre).2
 obtain⟨d,r,rfl,h1,h2⟩:=hasAllW_cons hsh
 obtain rfl:=hasAllW_nil h2
 obtain⟨xs,rfl,h3⟩:=hasW_list h1
 obtain⟨ns,rfl⟩:=items_int h3
 have hlen:ns.length<=n:=by
  unfold OpenLaw.pre at hc
  have h4:(WTm.not (.lt (.lit (.int (n:Int))) (.len (.arg 0)))).holds [] {args:=[.list (ns.map .int)]}=true:=by
   have h4:=(holds_andW hc).1
   rw[hn] at h4
   exact h4
  have h5:=condW_of h4 (w_not (w_lt w_lit (w_len_list (w_arg rfl))))
  rw[List.length_map] at h5
  refine Nat.le_of_not_lt λq=>?_
  have q':(n:Int)<((ns.length:Nat):Int):=by omega
  first
   | (rw[decide_eq_true q'] at h5;exact absurd h5 (by decide))
   | (simp at h5;omega)
 cases hwl with
 |cons w1 w2=>
  cases w2
  cases w1 with
  |list ho hall=>exact⟨_,_,ns,rfl,rfl,ho,Vw ns _ hall,hlen⟩
theorem B1 (l:OpenLaw)(args:List WData):l.row.toRowW.claim.post args (.bool true) args=true:=
 postW_of (r:=l.row.toRowW) (X:=(true==true))
  (show WShape.has [] (.bool true) .bool=true by first |rfl |decide |simp[WShape.has,WShape.arms,WShape.armsAll])
  (show(WTm.eq .res (.lit (.bool true))).value [] {args:=args,res:=some (.bool true),after:=args}=some (.bool (true==true)) from w_eq_bool (w_res rfl) w_lit) rfl
theorem attach_call {l:OpenLaw}{n:Nat}{q:Program}{loose:List Str}{XP:(Str->Option Value)->Heap->Prop}{YP:World->Heap->Prop}{d:DefRec}
  (hn:l.most=some n)(hdf:d.params.defaults=[])
  (call:∀(w:World) (s₀ s₁:Shared) (mg mb:Str->Option Value) (fa:Addr) (o:Obj) (pm cd doc:Value) (a:Addr) (vs:List Value) (ns:List Int),
   Ground q loose [] XP w s₀ mg mb s₁.heap->YP w s₁.heap->
   s₁.heap.get? fa=some o->o.data= .func (docDef d.name d.params d.body d.scope pm cd doc)->s₁.heap.CodeRec cd d.name->mg d.name=some (.ref fa)->
   s₁.heap.get? a=some {cls:=.type "list",data:=.seq vs.toArray}->IntsAre vs ns->ns.length<=n->s₁.gens= #[]->
   codeAny (model l.prog w) callerA (.call (.ref fa) ⟨[.ref a],[]⟩) (λr s'=>r= .ok (.ret (.bool true))/\OldK s₁.heap s'.heap/\s'.os=s₁.os/\AllBare s'.gens) s₁):
  WalkO q loose XP YP l.row.toRowW d [] (λf vs=>PySem.call f vs):=by
 intro w s₀ s₁ mg mb G Y fa o pm cd doc dV kV ho hd hcd hD hmg hg args vals as hpre hlay hrd hwl hlo
 obtain rfl:dV= .none:=Dflts.none hD hdf
 obtain rfl:kV= .none:=Dflts.noKw hD
 obtain⟨a,vs,ns,rfl,rfl,hobj,hints,hlen⟩:=E4 hn hpre hwl
 refine enter_call (codeAny_mono (call w s₀ s₁ mg mb fa o pm cd doc a vs ns G Y ho (fd_plain hd) hcd hmg hobj hints hlen hg) λr s' hq=>?_)
 obtain⟨rfl,h2,h3,h4⟩:=hq
 exact⟨.inl ⟨.bool true, .bool true,[],rfl,λ_=>rfl, .bool true,B1 l _,λ_=>⟨List.Pairwise.nil,λ_ hm=>(nomatch hm)⟩⟩,h2,h3,h4⟩
section
variable {prog:Program}{w:World}{A:Around}{E:Value->Shared->Prop}{s:Shared}{K:Frag}
noncomputable def Rv (h:Heap)(L d:Addr):List (Addr×Obj):=(List.range h.objs.size).filterMap λa=>if a=L∨a=d then none else(h.get? a).map λo=>(a,o)
end
end Att
namespace L2
open PySem PySem.Spec PyProof.Rows
theorem Bi:∀{vs:List Value}{ns:List Int},IntsAre vs ns->Ya (ns.map V.int) vs:=λp=>by
 induction p with
 |nil=>exact .nil
 |cons n t _ ih=>exact .cons ⟨t,rfl⟩ ih
noncomputable def Rj (H:Hp):Prop:=∀ b,H b=none∨∃o xs,H b=some (.frz o (.lst xs))
theorem HU {P:Program}{w:World}{K:PySem.W.Frag}{mg mb:Str->Option Value}{CX:CXT}{k:Nat}{fa a:Addr}{fd:FuncData}{x:Str}{sp:Sp}{s₁:Shared}{vs:List Value}{ns:List Int}
  (KX:K.In s₁.heap)(hns:s₁.heap.Ns mainGlobals mg)(hb:s₁.heap.Ns builtinsNs mb)(hbb:∀x:Str,x≠ "__name__" ->mb x=bootBuiltins x)(hlim:s₁.heap.NoLimit)(hg:s₁.gens= #[])
  (ha:s₁.heap.get? a=some {cls:=.type "list",data:=.seq vs.toArray})(hi:IntsAre vs ns)(hl:ns.length<=sizeLine)(hr:Room k callerA)
  (F:∀base:Heap,K.In base->base.Ns mainGlobals mg->FnOk P w K mg base CX k fa fd [x] sp)(hbind:∀(s:Shared) (u:Value),BindsTo s fd ⟨[u],[]⟩ [(x,u)])
  (hsp:∀H:Hp,Rj H->SqL K H a (ns.map V.int)->sp [.ref a] H (λv _=>v= .bl true) λ_ _ _=>False)
  (hCX:∀H e s',CX [] H s₁ (λ_ _ _=>False) e s'->False):
  codeAny (model P w) callerA (.call (.ref fa) ⟨[.ref a],[]⟩) (λr s'=>r= .ok (.ret (.bool true))/\OldK s₁.heap s'.heap/\s'.os=s₁.os/\AllBare s'.gens) s₁:=by
 have rv:=Bi hi
 have lenV:=hi.length
 -- from an abstract heap in which nothing but the script may be tracked
 have core:∀H:Hp,Rj H->SqL K H a (ns.map V.int)->HOk P w H s₁.heap->(∀b,H b≠none->b=a)->(H a≠none->K.lookup a=none)->
   codeAny (model P w) callerA (.call (.ref fa) ⟨[.ref a],[]⟩) (λr s'=>r= .ok (.ret (.bool true))/\OldK s₁.heap s'.heap/\s'.os=s₁.os/\AllBare s'.gens) s₁:=by
  intro H hO hS hok hA hK
  have base_of:∀{b:Addr}{o:Obj},s₁.heap.get? b=some o->H b=none->(HJ s₁.heap H).get? b=some o:=λe n=>Io e n
  have noA:∀{b:Addr}{o:Obj}{es:Array DictEntry}{ep:Nat},s₁.heap.get? b=some o->o.data= .dict es ep->H b=none:=fun {b o es ep} e d=>by
   cases q:H b with
   |none=>rfl
   |some u=>
    have e':b=a:=hA b (by rw[q];simp)
    subst e'
    rw[ha] at e;cases e
    have d':Data.seq vs.toArray _=Data.dict es ep:=d
    cases d'
  have nsK:∀{b:Addr}{m:Str->Option Value},s₁.heap.Ns b m->(HJ s₁.heap H).Ns b m:=fun {b m} ⟨o,es,ep,e,d,r⟩=>⟨o,es,ep,base_of e (noA e d),d,r⟩
  have hKb:K.In (HJ s₁.heap H):=λb o e=>base_of (KX b o e) (by
   cases q:H b with
   |none=>rfl
   |some u=>
    have e':b=a:=hA b (by rw[q];simp)
    subst e'
    rw[hK (by rw[q];simp)] at e;cases e)
  have hM:Mod K mg (HJ s₁.heap H):=⟨hKb,nsK hns,⟨mb,nsK hb,hbb⟩,let ⟨mc,h1,h2⟩:=hlim;⟨mc,nsK h1,h2⟩⟩
  have e0:Env0 P w K mg (HJ s₁.heap H) callerA [] s₁ H:=⟨rfl,hM,λb o e=>Nw e,Nat.le_of_eq (Bo _ _),trivial,λb hb=>absurd (show b∈([]:List Addr) from hb) (by simp),hok, .of_eq hg⟩
  refine codeAny_mono ((F _ hKb (nsK hns)).run callerA [] s₁ H ⟨[.ref a],[]⟩ [.ref a] [.ref a] _ _ hr e0 (hbind s₁ (.ref a)) (.cons rfl .nil) (hsp H hO hS)) λr s' h=>?_
  cases r with
  |error e=>exact(hCX H e s' h).elim
  |ok fl=>
   cases fl with
   |next=>exact False.elim h
   |brk=>exact False.elim h
   |cont=>exact False.elim h
   |ret u=>
    obtain⟨v,H',os,bare,un,hok',r',q⟩:=h
    have q':v= .bl true:=q
    subst q'
    obtain rfl:u=Value.bool true:=r'
    refine⟨rfl,OldK.of_keep λb o e=>?_,os,bare⟩
    cases q:H b with
    |none=>exact un.keep b o e q (by intro z;exact absurd (show b∈([]:List Addr) from z) (by simp)) (by simp)
    |some u=>
     rcases hO b with z | ⟨ob,xs,z⟩
     ·rw[q] at z;cases z
     ·have z2:=un.frzs b ob _ z
      obtain⟨e1,_⟩:=hok b _ z
      obtain⟨e2,_⟩:=hok' b _ z2
      rw[e] at e1;cases e1
      exact e2
 cases hk:K.lookup a with
 |some o=>
  -- the script is one of the module's own objects
  have e:=KX a o hk
  rw[ha] at e
  cases e
  refine core (λ_=>none) (λ_=>.inl rfl) (.inr ⟨_,vs.toArray,_,hk,rfl,rfl,rfl,by rw[List.size_toArray,lenV];exact hl,by simpa using rv⟩) (λb u z=>by have z':(none:Option HO)=some u:=z;cases z') (λb z=>absurd rfl z) λz=>absurd rfl z
 |none=>
  refine core (λb=>if b=a then some (.frz {cls:=.type "list",data:=.seq vs.toArray} (.lst (ns.map V.int))) else none) (λb=>?_) (.inl (.inr ⟨{cls:=.type "list",data:=.seq vs.toArray},if_pos rfl⟩)) (λb u z=>?_) (λb z=>?_) λ_=>hk
  ·by_cases hb:b=a
   ·exact .inr ⟨_,_,if_pos hb⟩
   ·exact .inl (if_neg hb)
  ·by_cases hb:b=a
   ·have z':=(if_pos hb).symm.trans z
    cases z'
    subst hb
    exact⟨ha,by rw[List.length_map];exact hl,vs,_,rv,ha⟩
   ·have z':=(if_neg hb).symm.trans z
    cases z'
  ·by_cases hb:b=a
   ·exact hb
   ·exact absurd (if_neg hb) z
theorem Md {l:PySem.W.OpenLaw}{n k:Nat}{q:Program}{loose:List Str}{XP:(Str->Option Value)->Heap->Prop}{YP:World->Heap->Prop}{d:DefRec}{K:Params->PySem.W.Frag}{CX:World->CXT}{sp:World->Sp}{x:Str}
  (hn:l.most=some n)(hn2:n<=sizeLine)(hdf:d.params.defaults=[])(hr:Room k callerA)
  (hY:∀(w:World) (h:Heap),YP w h->(K w.params).In h)
  (F:∀(w:World) (mg:Str->Option Value) (fa:Addr) (h:Heap),(K w.params).In h->h.Ns mainGlobals mg->mg d.name=some (.ref fa)->
   ∃fd:FuncData,(∀(s:Shared) (u:Value),BindsTo s fd ⟨[u],[]⟩ [(x,u)])/\
    ∀base:Heap,(K w.params).In base->base.Ns mainGlobals mg->FnOk l.prog w (K w.params) mg base (CX w) k fa fd [x] (sp w))
  (hsp:∀(w:World) (H:Hp) (a:Addr) (ns:List Int),ns.length<=n->Rj H->SqL (K w.params) H a (ns.map V.int)->sp w [.ref a] H (λv _=>v= .bl true) λ_ _ _=>False)
  (hCX:∀(w:World) (H:Hp) (s:Shared) (e:Value) (s':Shared),CX w [] H s (λ_ _ _=>False) e s'->False):
  PySem.W.WalkO q loose XP YP l.row.toRowW d [] (λf vs=>PySem.call f vs):=by
 refine Att.attach_call hn hdf λw s₀ s₁ mg mb fa o pm cd doc a vs ns G Y ho hd hcd hmg hobj hints hlen hg=>?_
 have KX:=hY w _ Y
 obtain⟨fd,hb,hF⟩:=F w mg fa _ KX G.T.g hmg
 exact HU KX G.T.g G.T.b G.T.builtins G.T.nolimit hg hobj hints (Nat.le_trans hlen hn2) hr hF hb (λH hO hS=>hsp w H a ns hlen hO hS) λH e s'=>hCX w H s₁ e s'
noncomputable def Yx (s:Stmt):Arguments:=match s with
 | .FunctionDef _ a _ _ _ _ _ _ _ _=>a
 |_=>{posonlyargs:=[],args:=[],vararg:=none,kwonlyargs:=[],kw_defaults:=[],kwarg:=none,defaults:=[]}
noncomputable def XV (s:Stmt):List Stmt:=match s with
 | .FunctionDef _ _ b _ _ _ _ _ _ _=>b
 |_=>[]
noncomputable def Xg (s:Stmt):Scope:=match s with
 | .FunctionDef _ _ _ _ _ _ sc _ _ _=>sc
 |_=>{kind:=.function,names:=[],isGenerator:=false,isCoroutine:=false}
noncomputable abbrev CX0:CXT:=λ_ _ _ _ _ _=>False
noncomputable abbrev E0:XK:=λ_ _ _=>False
theorem PP {X:Cx}:B3 CX0 X E0:=λ_ _ _ _ _ _ _ h=>h.elim
structure Fun (K:PySem.W.Frag)(x qual:Str)(st:Stmt)(f:Addr)(fd:FuncData):Prop where
 ex:∃(oc:Value) (od:Option Addr) (kV doc pm:Value) (an:Option Addr) (cdv ct:Value) (osl:Array (Option Value)),
  fd=PySem.W.fnOf x qual (Yx st) (XV st) (Xg st) .none kV doc pm an cdv ct/\K.lookup f=some ⟨oc,od, .func fd,osl⟩/\PySem.W.codeIn K cdv qual=true
 kp:PySem.W.keepIn K (.ref f)=true
section
variable {P:Program}{w:World}{K:PySem.W.Frag}{mg:Str->Option Value}{base:Heap}
theorem Fun.ok {x qual:Str}{st:Stmt}{f:Addr}{fd:FuncData}{N ps:List Str}{k:Nat}{sp:Sp}(F:Fun K x qual st f fd)(S:FnScope N ps (Xg st))(len:∀vs H Q E,sp vs H Q E->vs.length=ps.length)
  (hbody:∀(cdv:Value) (A:Around) (outer:List Env) (s:Shared) (H:Hp) (vs:List V) (Q:VK) (E:XK),Room k (A.deeper (envOfC qual (Xg st) s.heap.objs.size f cdv))->sp vs H Q E->
   ∃t,PSs (Ba CX0 P w K mg base N qual (Xg st) f cdv A outer s H E).nox (XV st) t/\t {nx:=λ_ H'=>Q .non H',rt:=Q} (Vd N vs) H):FnOk P w K mg base CX0 (k+1) f fd ps sp:=by
 obtain⟨oc,od,kV,doc,pm,an,cdv,ct,osl,rfl,lk,hcd⟩:=F.ex
 refine Rh lk hcd S len λA outer s H vs Q E hr hsp=>?_
 obtain⟨t,h,q⟩:=hbody cdv A outer s H vs Q E hr hsp
 exact⟨t,h.nox,q⟩
theorem Fun.binds {x qual:Str}{st:Stmt}{f:Addr}{fd:FuncData}{ps:List Str}(F:Fun K x qual st f fd)
  (h:∀(kV doc pm:Value) (an:Option Addr) (cdv ct:Value) (us:List Value),us.length=ps.length->bindArgs (PySem.W.fnOf x qual (Yx st) (XV st) (Xg st) .none kV doc pm an cdv ct) ⟨us,[]⟩=pure (ps.zip us)):Ff K fd ps []:=by
 obtain⟨oc,od,kV,doc,pm,an,cdv,ct,osl,rfl,lk,hcd⟩:=F.ex
 exact .all (h kV doc pm an cdv ct)
theorem Z6 {x qual:Str}{st:Stmt}{f:Addr}{oc:Value}{od an:Option Addr}{osl:Array (Option Value)}{kV doc pm cdv ct:Value}(l:K.lookup f=some ⟨oc,od, .func (PySem.W.fnOf x qual (Yx st) (XV st) (Xg st) .none kV doc pm an cdv ct),osl⟩)
  (c:PySem.W.codeIn K cdv qual=true)(k:PySem.W.keepIn K (.ref f)=true):Fun K x qual st f (PySem.W.fnOf x qual (Yx st) (XV st) (Xg st) .none kV doc pm an cdv ct):=⟨⟨oc,od,kV,doc,pm,an,cdv,ct,osl,rfl,l,c⟩,k⟩
end
theorem Ud {A:Around}{k:Nat}(hr:Room k A):A.units+1<cLine:=Nat.lt_of_le_of_lt (Nat.add_le_add_left (by decide:1<=64) _) hr.units
theorem BJ {n:Nat}(h:n<=1000):n<sizeLine:=Nat.lt_of_le_of_lt h (by decide)
section
variable {X:Cx}
theorem pv (i:Nat){x:Str}{pos:Pos}(hN:X.N[i]?=some x:=by rfl)(hv:Vis X.env.scope x:=by first |exact Or.inl rfl |exact Or.inr (Or.inl rfl) |exact Or.inr (Or.inr rfl))(hd:(x==("__debug__":Str))=false:=by decide)
  (hcd:(x==("__classdict__":Str))=false:=by decide):PE X (.Name x pos) (Jz i):=N6 hN hv hd hcd
end
noncomputable def Xv (H H':Hp):Prop:=∀ b o,H b=some o->H' b=some o
theorem Xv.refl (H:Hp):Xv H H:=λ_ _ h=>h
theorem Xv.trans {H H1 H2:Hp}(a:Xv H H1)(b:Xv H1 H2):Xv H H2:=λc o h=>b c o (a c o h)
theorem Xv.seq {K:PySem.W.Frag}{H H':Hp}{a:Addr}{xs:List V}(e:Xv H H')(h:SqL K H a xs):SqL K H' a xs:=by
 rcases h with(h | ⟨o,h⟩) |h
 ·exact .inl (.inl (e _ _ h))
 ·exact .inl (.inr ⟨o,e _ _ h⟩)
 ·exact .inr h
section
variable {κ:Type}[DecidableEq κ]
noncomputable def DA (kvs:List (κ×V))(k:κ):Option V:=(kvs.find? λkv=>decide (kv.1=k)).map (·.2)
noncomputable def VI (kvs:List (κ×V))(k:κ)(v:V):List (κ×V):=
 if(kvs.any λkv=>decide (kv.1=k))=true then kvs.map (λkv=>if kv.1=k then(kv.1,v) else kv) else kvs++[(k,v)]
theorem Q1 {p:κ×V}{r:List (κ×V)}{k:κ}(e:p.1=k):DA (p::r) k=some p.2:=by simp[DA,List.find?_cons,e]
theorem QO {p:κ×V}{r:List (κ×V)}{k:κ}(e:¬p.1=k):DA (p::r) k=DA r k:=by simp[DA,List.find?_cons,e]
theorem Dy (k:κ):∀kvs:List (κ×V),(kvs.any λkv=>decide (kv.1=k))=(DA kvs k).isSome
 | []=>rfl
 |p::r=>by
  rw[List.any_cons]
  by_cases e:p.1=k
  ·simp only[Q1 e,decide_eq_true e,Bool.true_or,Option.isSome_some]
  ·rw[QO e,decide_eq_false e,Bool.false_or];exact Dy k r
theorem Vu (kvs:List (κ×V))(k:κ)(v:V):(VI kvs k v).length<=kvs.length+1:=by
 unfold VI
 split
 ·rw[List.length_map];omega
 ·rw[List.length_append,List.length_cons,List.length_nil];omega
theorem ET.isSome_eq {o:Option V}{u:Option Value}(r:ET o u):o.isSome=u.isSome:=by
 cases o with
 |none=>cases u with
  |none=>rfl
  |some _=>exact(show False from r).elim
 |some _=>cases u with
  |none=>exact(show False from r).elim
  |some _=>rfl
theorem KV.val {kvs:List (κ×V)}{vs:List (κ×Value)}(r:KV kvs vs)(k:κ):ET (DA kvs k) (valueAt vs k):=by
 unfold KV at r
 induction r with
 |nil=>exact True.intro
 | @cons p q ps qs h t ih=>
  obtain⟨h1,h2⟩:=h
  by_cases e:p.1=k
  ·have e':q.1=k:=h1.symm.trans e
   have b:valueAt (q::qs) k=some q.2:=by simp[valueAt,List.find?_cons,e']
   rw[Q1 e,b];exact h2
  ·have e':¬q.1=k:=λz=>e (h1.trans z)
   have b:valueAt (q::qs) k=valueAt qs k:=by simp[valueAt,List.find?_cons,e']
   rw[QO e,b];exact ih
theorem KV.any {kvs:List (κ×V)}{vs:List (κ×Value)}(r:KV kvs vs)(k:κ):(kvs.any λkv=>decide (kv.1=k))=vs.any λkv=>decide (kv.1=k):=by
 unfold KV at r
 induction r with
 |nil=>rfl
 |cons h t ih=>rw[List.any_cons,List.any_cons,ih,h.1]
theorem KV.repl {kvs:List (κ×V)}{vs:List (κ×Value)}(r:KV kvs vs)(k:κ){y:V}{u:Value}(ry:X4 y u):
  KV (kvs.map λkv=>if kv.1=k then(kv.1,y) else kv) (vs.map λkv=>if kv.1=k then(kv.1,u) else kv):=by
 unfold KV at r⊢
 induction r with
 |nil=>exact .nil
 | @cons p q ps qs h t ih=>
  rw[List.map_cons,List.map_cons]
  refine .cons ?_ ih
  obtain⟨h1,h2⟩:=h
  by_cases e:p.1=k
  ·rw[if_pos e,if_pos (h1.symm.trans e)];exact⟨h1,ry⟩
  ·rw[if_neg e,if_neg (λz=>e (h1.trans z))];exact⟨h1,h2⟩
theorem KV.put {kvs:List (κ×V)}{vs:List (κ×Value)}(r:KV kvs vs)(k:κ){y:V}{u:Value}(ry:X4 y u):KV (VI kvs k y) (stored vs k u):=by
 unfold VI stored
 rw[r.any k]
 by_cases e:(vs.any λkv=>decide (kv.1=k))=true
 ·rw[if_pos e,if_pos e];exact r.repl k ry
 ·rw[if_neg e,if_neg e];exact Paired.snoc r ⟨rfl,ry⟩
theorem KV.length {kvs:List (κ×V)}{vs:List (κ×Value)}(r:KV kvs vs):kvs.length=vs.length:=Paired.length r
end
theorem HG {P:Program}{w:World}{k:Key}{u:Value}(r:X4 (kV k) u):(YD P w).is k u=true:=by
 cases k with
 |inl i=>obtain⟨t,e⟩:=(show ∃t,u=Value.int i t from r);subst e;exact FD P w i t
 |inr x=>obtain⟨t,e⟩:=(show ∃t,u=Value.str x t from r);subst e;exact GY P w x t
theorem Gf {P:Program}{w:World}:∀{ks:List Key}{us:List Value},Ya (ks.map kV) us->ItemsAre (YD P w) ks us
 | [],_,r=>by rw[List.map_nil] at r;cases r;exact .nil
 |k::ks,_,r=>by
  rw[List.map_cons] at r
  cases r with
  |cons h t=>exact .cons (HG h) (Gf t)
noncomputable abbrev KT (H:Hp):List (List Key×V)->List (List Key×Addr×Value)->Prop:=Paired λp q=>p.1=q.1/\H q.2.1=some (.tup (p.1.map kV))/\X4 p.2 q.2.2
theorem KT.val {H:Hp}{kvs:List (List Key×V)}{xs:List (List Key×Addr×Value)}(r:KT H kvs xs)(k:List Key):ET (DA kvs k) ((atKey xs k).map (·.2)):=by
 induction r with
 |nil=>exact True.intro
 | @cons p q ps qs h t ih=>
  obtain⟨h1,_,h2⟩:=h
  by_cases e:p.1=k
  ·have e':q.1=k:=h1.symm.trans e
   have b:atKey (q::qs) k=some q.2:=by simp[atKey,List.find?_cons,e']
   rw[Q1 e,b];exact h2
  ·have e':¬q.1=k:=λz=>e (h1.trans z)
   have b:atKey (q::qs) k=atKey qs k:=by simp[atKey,List.find?_cons,e']
   rw[QO e,b];exact ih
theorem KT.repl {H:Hp}{kvs:List (List Key×V)}{xs:List (List Key×Addr×Value)}(r:KT H kvs xs)(k:List Key){y:V}{u:Value}(ry:X4 y u):
  KT H (kvs.map λkv=>if kv.1=k then(kv.1,y) else kv) (xs.map (putAt k u)):=by
 induction r with
 |nil=>exact .nil
 | @cons p q ps qs h t ih=>
  rw[List.map_cons,List.map_cons]
  refine .cons ?_ ih
  obtain⟨h1,h2,h3⟩:=h
  unfold putAt
  by_cases e:p.1=k
  ·rw[if_pos e,if_pos (h1.symm.trans e)];exact⟨h1,h2,ry⟩
  ·rw[if_neg e,if_neg (λz=>e (h1.trans z))];exact⟨h1,h2,h3⟩
theorem KT.put {H:Hp}{kvs:List (List Key×V)}{xs:List (List Key×Addr×Value)}(r:KT H kvs xs)(k:List Key){b:Addr}{y:V}{u:Value}(hb:H b=some (.tup (k.map kV)))(ry:X4 y u):
  KT H (VI kvs k y) (storedH xs k b u):=by
 have e:(kvs.any λkv=>decide (kv.1=k))=(atKey xs k).isSome:=by
  rw[Dy,(r.val k).isSome_eq,Option.isSome_map]
 unfold VI storedH
 rw[e]
 by_cases q:(atKey xs k).isSome=true
 ·rw[if_pos q,if_pos q];exact r.repl k ry
 ·rw[if_neg q,if_neg q];exact Paired.snoc r ⟨rfl,hb,ry⟩
theorem KT.keeps {H H':Hp}{kvs:List (List Key×V)}{xs:List (List Key×Addr×Value)}(r:KT H kvs xs)(ht:∀b ys,H b=some (.tup ys)->H' b=some (.tup ys)):KT H' kvs xs:=
 Paired.mapP r λ_ _ z=>⟨z.1,ht _ _ z.2.1,z.2.2⟩
section
variable {P:Program}{w:World}{H:Hp}{h:Heap}{a:Addr}
theorem N9 {u:HO}(ok:HOk P w H h)(e:Rd H a u):YG P w H h a u:=e.ok ok
theorem HH {kvs:List (Key×V)}(ok:HOk P w H h)(e:Rd H a (.dK kvs)):kvs.length<=sizeLine/\(a==sysModules)=false/\∃vs,KV kvs vs/\h.DictOf (YD P w) a vs:=
 show YG P w H h a (.dK kvs) from N9 ok e
theorem P9 {kvs:List (Key×V)}(ok:HOk P w H h)(e:H a=some (.dK kvs)):kvs.length<=sizeLine/\(a==sysModules)=false/\∃vs,KV kvs vs/\h.DictOf (YD P w) a vs:=HH ok (.inl e)
theorem Da {ks:List Key}(ok:HOk P w H h)(e:H a=some (.tup (ks.map kV))):(tupleKind (YD P w)).is h ks a:=by
 obtain⟨_,its,r,o,h1,h2,n,h3⟩:=(show YG P w H h a (.tup (ks.map kV)) from ok a _ e)
 exact⟨o,its.toArray,n,h1,h2.1,h3,by simpa using Gf r⟩
theorem IZ {kvs:List (List Key×V)}(ok:HOk P w H h)(e:Rd H a (.dT kvs)):kvs.length<=sizeLine/\(a==sysModules)=false/\
  ∃xs,KT H kvs xs/\h.DictOfH (tupleKind (YD P w)) a xs:=by
 obtain⟨z,y,xs,r,o,es,ep,h1,h2,h3,h4,h5⟩:=(show YG P w H h a (.dT kvs) from N9 ok e)
 refine⟨z,y,xs,r,o,es,ep,h1,h2,h3,h4,λx hx=>?_,h5⟩
 have all:∀{l:List (List Key×V)}{m:List (List Key×Addr×Value)},KT H l m->∀x∈m,(tupleKind (YD P w)).is h x.1 x.2.1:=by
  intro l m q
  induction q with
  |nil=>intro x hx;exact nomatch hx
  | @cons p q ps qs hq t ih=>
   intro x hx
   rcases List.mem_cons.mp hx with e |hx
   ·subst e
    exact Da ok (by rw[←hq.1];exact hq.2.1)
   ·exact ih x hx
 exact all r x hx
theorem Ph {kvs:List (List Key×V)}(ok:HOk P w H h)(e:H a=some (.dT kvs)):kvs.length<=sizeLine/\(a==sysModules)=false/\
  ∃xs,KT H kvs xs/\h.DictOfH (tupleKind (YD P w)) a xs:=IZ ok (.inl e)
end
noncomputable def OG (H:Hp)(a:Addr)(y:V)(r:Option V):Prop:=
 (∃kvs k,Rd H a (.dK kvs)/\y=kV k/\r=DA kvs k)∨∃kvs k b,Rd H a (.dT kvs)/\y= .ref b/\H b=some (.tup (k.map kV))/\r=DA kvs k
noncomputable def RF (H:Hp)(a:Addr)(y v:V)(H':Hp):Prop:=
 (∃kvs k,H a=some (.dK kvs)/\y=kV k/\kvs.length<sizeLine/\H'=upd H a (.dK (VI kvs k v)))∨
 ∃kvs k b,H a=some (.dT kvs)/\y= .ref b/\H b=some (.tup (k.map kV))/\kvs.length<sizeLine/\H'=upd H a (.dT (VI kvs k v))
section
variable {X:Cx}{pins:List (Addr×Obj)}{σ:St}{H:Hp}{s:Shared}{a:Addr}{y v:V}{u r:Value}{o:Option V}{A:Around}{E:Value->Shared->Prop}
theorem Inv.big (I:Inv X pins σ H s):sysModules<s.heap.objs.size:=by
 have h:mainGlobals<s.heap.objs.size:=(I.mod.glob.keeps I.bk).lt
 exact Nat.lt_trans (by decide) h
theorem Eo {Q:Value->Shared->Prop}(hu:A.units+1<cLine)(I:Inv X pins σ H s)(g:OG H a y (some v))(ry:X4 y u)(h:∀w' s',Inv X pins σ H s'->X4 v w'->Q w' s'):
  wpAny (model X.prog X.w) A (getItem (.ref a) u) Q E s:=by
 rcases g with⟨kvs,k,e,ey,l⟩ | ⟨kvs,k,b,e,ey,eb,l⟩
 ·subst ey
  obtain⟨z,hd,vs,rel,dd⟩:=HH I.hok e
  obtain⟨w',hw,rw'⟩:=ET.some_of (v:=v) (o:=valueAt vs k) (by rw[l];exact rel.val k)
  exact wpAny_getItem_of (HG ry) dd.mapOf hw (h w' _ (I.tok _) rw')
 ·subst ey
  cases(show u=Value.ref b from ry)
  obtain⟨z,hd,xs,rel,dd⟩:=IZ I.hok e
  obtain⟨w',hw,rw'⟩:=ET.some_of (v:=v) (o:=(atKey xs k).map (·.2)) (by rw[l];exact rel.val k)
  obtain⟨p,hp,hp2⟩:=Option.map_eq_some_iff.mp hw
  refine wpAny_getItem_heap (tupleKind_room_in1 hu) (Da I.hok eb) dd hp ?_
  rw[hp2]
  exact h w' _ (I.tok _) rw'
theorem LM {Q:Value->Shared->Prop}(hu:A.units+1<cLine)(I:Inv X pins σ H s)(g:OG H a y o)(ry:X4 y u)(h:∀s',Inv X pins σ H s'->Q (.bool (!o.isSome)) s'):
  wpAny (model X.prog X.w) A (compareOp .NotIn u (.ref a)) Q E s:=by
 rcases g with⟨kvs,k,e,ey,l⟩ | ⟨kvs,k,b,e,ey,eb,l⟩
 ·subst ey
  obtain⟨z,hd,vs,rel,dd⟩:=HH I.hok e
  refine wpAny_notIn_of (HG ry) hd dd.mapOf ?_
  rw[←(rel.val k).isSome_eq, ←l]
  exact h _ (I.tok _)
 ·subst ey
  cases(show u=Value.ref b from ry)
  obtain⟨z,hd,xs,rel,dd⟩:=IZ I.hok e
  refine wpAny_notIn_heap (tupleKind_room_in1 hu) (Da I.hok eb) hd dd ?_
  have q:=(rel.val k).isSome_eq
  rw[Option.isSome_map] at q
  rw[←q, ←l]
  exact h _ (I.tok _)
theorem BE {h':Heap}{t':Nat}{ob:HO}(I:Inv X pins σ H s)(mu:Mut (H a))(hs:Heap.SameBut a s.heap h')(he:∃q,h'.get? a=some q)(new:YG X.prog X.w (upd H a ob) h' a ob):
  Inv X pins σ (upd H a ob) {s with heap:=h',toks:=t'}:=
 I.write (x:=a) (e:=a) mu (.inl rfl) (λb q hb z=>(hs.2 b hb).trans z) he new
theorem Ox {P:Program}{w:World}{H':Hp}{h':Heap}{kvs:List (Key×V)}{vs:List (Key×Value)}(z:kvs.length<=sizeLine)(hd:(a==sysModules)=false)(rel:KV kvs vs)(dd:h'.DictOf (YD P w) a vs):
  YG P w H' h' a (.dK kvs):=⟨z,hd,vs,rel,dd⟩
theorem BK {H':Hp}{Q:Unit->Shared->Prop}(hu:A.units+1<cLine)(I:Inv X pins σ H s)(g:RF H a y v H')(ry:X4 y u)(rv:X4 v r)(h:∀s',Inv X pins σ H' s'->Q () s'):
  wpAny (model X.prog X.w) A (setItem (.ref a) u r) Q E s:=by
 rcases g with⟨kvs,k,e,ey,l,eH⟩ | ⟨kvs,k,b,e,ey,eb,l,eH⟩
 ·subst ey eH
  obtain⟨z,hd,vs,rel,dd⟩:=P9 I.hok e
  have hz:vs.length<=sizeLine:=by rw[←rel.length];exact z
  have hl:(VI kvs k v).length<=sizeLine:=by have:=Vu kvs k v;omega
  refine wpAny_setItem_pairs (hsz:=hz) (HG ry) dd λh' dd' hs=>h _ ?_
  have he:∃q,h'.get? a=some q:=let ⟨q,_,_,hq,_⟩:=dd';⟨q,hq⟩
  exact BE I (by rw[e];exact True.intro) hs he (Ox hl hd (rel.put k rv) dd')
 ·subst ey eH
  cases(show u=Value.ref b from ry)
  obtain⟨z,hd,xs,rel,dd⟩:=Ph I.hok e
  have hz:xs.length<=sizeLine:=by rw[←Paired.length rel];exact z
  have hl:(VI kvs k v).length<=sizeLine:=by have:=Vu kvs k v;omega
  refine wpAny_setItem_heap (hsz:=hz) (tupleKind_room_in1 hu) (Da I.hok eb) dd λh' dd' hs=>h _ ?_
  obtain⟨q,es,ep,hq,h2,h3,h4,_,h5⟩:=dd'
  refine BE I (by rw[e];exact True.intro) hs ⟨q,hq⟩ ⟨hl,hd,_,(rel.put k eb rv).keeps λc ys ec=>?_,q,es,ep,hq,h2,h3,h4,h5⟩
  rw[XL (PV ec e (λz=>nomatch z))]
  exact ec
end
section
variable {X:Cx}{pins:List (Addr×Obj)}{σ:St}{H:Hp}{s:Shared}{a:Addr}{kvs:List (Key×V)}{k:Key}{u:Value}{A:Around}{E:Value->Shared->Prop}
end
noncomputable def Rx (i:Expr):Prop:=∀ ov iv,subscripted i false ov iv=operate [ov,iv] (getItem ov iv)
theorem MJ {prog:Program}{w:World}{A:Around}{E:Value->Shared->Prop}{s:Shared}{env:Env}{value slice:Expr}{pos:Pos}{T id:String}{Q:Value->Shared->Prop}
  (hl:typeLookup (.type T) "__getitem__" =pure (some (.builtin id)))(hs:Rx slice)
  (h:wpAny (model prog w) A (eval value env) (λo s₁=>wpAny (model prog w) A (eval slice env) (λi s₂=>s₂.TypeIs o T/\wpAny (model prog w) A (getItem o i) Q E s₂) E s₁) E s):
  wpAny (model prog w) A (eval (.Subscript value slice pos) env) Q E s:=by
 refine Subscript_ (wpAny_mono h (λo s₁ h₁=>wpAny_mono h₁ (λi s₂ h₂=>?_) λ_ _ x=>x) λ_ _ x=>x)
 obtain⟨hT,h₂⟩:=h₂
 unfold subscriptTail
 refine wpAny_bind ?_
 rw[getitemInPython_of_ne hT.not_modules]
 refine wpAny_bind (wpAny_specialOf hT hl ?_)
 have fin:wpAny (model prog w) A (subscripted slice false o i) (λr s₃=>wpAny (model prog w) A (letTemporaryGo value o r >>= λ_=>pure r) Q E s₃) E s₂:=by
  rw[hs o i]
  exact wpAny_operating (wpAny_mono h₂ (λr s₃ h₃=>wpAny_bind (wpAny_letTemporaryGo (wpAny_pure h₃))) λ_ _ x=>x)
 first
  |exact wpAny_pure (wpAny_bind fin)
  |exact wpAny_bind (wpAny_pure (wpAny_bind fin))
  |exact wpAny_bind fin
theorem GK {X:Cx}{pins:List (Addr×Obj)}{σ:St}{H:Hp}{s:Shared}{a:Addr}{y:V}{o:Option V}(I:Inv X pins σ H s)(g:OG H a y o):s.TypeIs (.ref a) "dict":=by
 rcases g with⟨kvs,k,e,_,_⟩ | ⟨kvs,k,b,e,_,_,_⟩
 ·obtain⟨_,_,vs,_,dd⟩:=HH I.hok e
  exact dd.typeIs
 ·obtain⟨_,_,xs,_,dd⟩:=IZ I.hok e
  exact dd.typeIs
noncomputable def Pb (td ty:TE):TE:=λσ H Q=>td σ H λx H1=>ty σ H1 λy H2=>∃ a v,x= .ref a/\OG H2 a y (some v)/\Q v H2
noncomputable def Hq (ty td:TE):TE:=λσ H Q=>ty σ H λy H1=>td σ H1 λx H2=>∃ a o,x= .ref a/\OG H2 a y o/\Q (.bl (!o.isSome)) H2
noncomputable def HD (td ty tv:TE):TS:=λD σ H=>tv σ H λv H1=>td σ H1 λx H2=>ty σ H2 λy H3=>∃ a H4,x= .ref a/\RF H3 a y v H4/\D.nx σ H4
section
variable {X:Cx}{o i e value:Expr}{pos pos' tpos:Pos}{td ty tv:TE}
theorem FG (hu:X.A.units+1<cLine)(ho:PE X o td)(hi:PE X i ty)(hs:Rx i):PE X (.Subscript o i pos) (Pb td ty):=by
 intro pins s σ H Q I h
 refine MJ PySem.F.slot_dict_getitem.lookup hs (thn (ho pins s σ H _ I h) λu s1 ⟨x,H1,I1,rx,q1⟩=>thn (hi pins s1 σ H1 _ I1 q1) λiv s2 r9=>?_)
 obtain⟨y,H2,I2,ry,a,v,ex,g,q2⟩:=r9
 subst ex
 obtain rfl:u=Value.ref a:=rx
 exact⟨GK I2 g,Eo hu I2 g ry λw' s3 I3 rw'=>⟨v,H2,I3,rw',q2⟩⟩
theorem K2 (hu:X.A.units+1<cLine)(hi:PE X i ty)(ho:PE X o td):PC X .NotIn i o (Hq ty td):=by
 intro pins s σ H Q I h
 refine thn (hi pins s σ H _ I h) λiv s1 ⟨y,H1,I1,ry,q1⟩=>thn (ho pins s1 σ H1 _ I1 q1) λu s2 r9=>?_
 obtain⟨x,H2,I2,rx,a,ov,ex,g,q2⟩:=r9
 subst ex
 obtain rfl:u=Value.ref a:=rx
 exact LM hu I2 g ry λs3 I3=>⟨.bl (!ov.isSome),H2,I3,rfl,q2⟩
theorem Hd (hu:X.A.units+1<cLine)(ho:PE X o td)(hi:PE X i ty)(hv:PE X value tv)(hs:swapsWith value (some (.Subscript o i pos')) pos.line X.env=pure false):
  PS X (.Assign [.Subscript o i pos'] value pos) (HD td ty tv):=by
 intro pins s σ H D I h
 refine wpAny_Assign_Subscript (thn (hv pins s σ H _ I h) λr s1 ⟨v,H1,I1,rv,q1⟩=>thn (ho pins s1 σ H1 _ I1 q1) λu s2 ⟨x,H2,I2,rx,q2⟩=>thn (hi pins s2 σ H2 _ I2 q2) λiv s3 r9=>?_) hs
 obtain⟨y,H3,I3,ry,a,H4,ex,g,q3⟩:=r9
 subst ex
 obtain rfl:u=Value.ref a:=rx
 exact BK hu I3 g ry rv λs4 I4=>⟨σ,H4,I4,q3⟩
end
theorem IC {P:Program}{w:World}{H:Hp}(h:Heap)(hb:sysModules<h.objs.size):YG P w H (h.push {cls:=.type "dict",data:=.dict #[]}) h.objs.size (.dK []):=
 ⟨Nat.zero_le _,beq_eq_false_iff_ne.mpr (Ne.symm (Nat.ne_of_lt hb)),[], .nil,Heap.DictOf.new h⟩
theorem HW {P:Program}{w:World}{H:Hp}(h:Heap)(hb:sysModules<h.objs.size):YG P w H (h.push {cls:=.type "dict",data:=.dict #[]}) h.objs.size (.dT []):=
 ⟨Nat.zero_le _,beq_eq_false_iff_ne.mpr (Ne.symm (Nat.ne_of_lt hb)),[], .nil,_, #[],0,Heap.get?_push_size _ rfl,⟨rfl,rfl,rfl⟩,rfl,rfl,List.nodup_nil⟩
noncomputable def Lg:TE:=λ_ H Q=>∀ p,H p=none->Q (.ref p) (upd H p (.dK []))
noncomputable def Lv:TE:=λ_ H Q=>∀ p,H p=none->Q (.ref p) (upd H p (.dT []))
section
variable {X:Cx}{pos:Pos}
theorem Ix:PE X (.Dict [] [] pos) Lg:=λpins s σ H Q I h=>
 wpAny_Dict_empty ⟨.ref s.heap.objs.size,_,I.laid (a:=s.heap.objs.size) (o:=.dK []) (t':=s.toks) (λ_ _ q=>Heap.get?_push_of_some _ q) (Nat.le_refl _) (IC s.heap I.big),rfl,h _ (I.hok.fresh (Nat.le_refl _))⟩
theorem Ia:PE X (.Dict [] [] pos) Lv:=λpins s σ H Q I h=>
 wpAny_Dict_empty ⟨.ref s.heap.objs.size,_,I.laid (a:=s.heap.objs.size) (o:=.dT []) (t':=s.toks) (λ_ _ q=>Heap.get?_push_of_some _ q) (Nat.le_refl _) (HW s.heap I.big),rfl,h _ (I.hok.fresh (Nat.le_refl _))⟩
end
structure M2 (X:Cx)(o:Expr)(m:Str)(apos:Pos)(e f:Expr)(cpos:Pos):Prop where
 base:attributeBase o m X.env (eval o X.env)=eval o X.env
 few:((backTo cpos (starEach [e,f] X.env)).all (λx=>!x.1)&&(backToKw cpos (keywordEach [] X.env)).all (λx=>x.1.isSome)
  &&decide (([e,f]:List Expr).length+([]:List Keyword).length+(if([]:List Keyword).isEmpty then 0 else 1)<30))=true
 line:(apos.endLine==cpos.line)=true
 trees:backTo cpos (starEach [e,f] X.env)=[(false,eval e X.env),(false,eval f X.env)]
section
variable {X:Cx}{pins:List (Addr×Obj)}{σ:St}{H:Hp}{s:Shared}{a:Addr}{y d:V}{u r:Value}{o:Option V}{A:Around}{E:Value->Shared->Prop}
end
section
variable {X:Cx}{o e f:Expr}{apos cpos:Pos}{td ty tx:TE}
end
section
variable {X:Cx}{pins:List (Addr×Obj)}{σ:St}{H:Hp}{s:Shared}{a:Addr}{kvs:List (Key×V)}{A:Around}{E:Value->Shared->Prop}
end
section
variable {X:Cx}{pins:List (Addr×Obj)}{σ:St}{H:Hp}{s:Shared}{a:Addr}{y:V}{u:Value}{A:Around}{E:Value->Shared->Prop}
end
section
variable {X:Cx}
end
section
variable {κ:Type}[DecidableEq κ]
end
theorem E2 {env:Env}:∀(names:List (Str×NameKind)),(∀x∈names,x.2=NameKind.free->∃c,env.cells.lookup x.1=some c)->
  ∀cs:List (Str×Addr),(∀x c,cs.lookup x=some c->env.cells.lookup x=some c)->
  ∃cl:List (Str×Addr),(forIn names cs (λ(x:Str×NameKind) (r:List (Str×Addr))=>(if(x.2==NameKind.free)=true then do let a ←cellOf env x.1;pure (ForInStep.yield ((x.1,a)::r)) else pure (ForInStep.yield r):Sem (ForInStep (List (Str×Addr))))))=(pure cl:Sem (List (Str×Addr)))/\
   (∀x c,cl.lookup x=some c->env.cells.lookup x=some c)/\(∀x,((x,NameKind.free)∈names∨∃c,cs.lookup x=some c)->∃c,cl.lookup x=some c)
 | [],_,cs,hs=>⟨cs,by rw[List.forIn_nil],hs,λx h=>h.elim (λz=>nomatch z) id⟩
 | (n,k)::r,hf,cs,hs=>by
  have hr:∀x∈r,x.2=NameKind.free->∃c,env.cells.lookup x.1=some c:=λx hx=>hf x (List.mem_cons_of_mem _ hx)
  by_cases hk:k=NameKind.free
  ·subst hk
   obtain⟨a,ha⟩:=hf (n,NameKind.free) List.mem_cons_self rfl
   have hs':∀x c,((n,a)::cs).lookup x=some c->env.cells.lookup x=some c:=λx c h=>by
    rw[List.lookup_cons] at h
    by_cases hx:x=n
    ·subst hx
     simp only[beq_self_eq_true] at h
     rw[←h];exact ha
    ·have:(x==n)=false:=beq_eq_false_iff_ne.mpr hx
     rw[this] at h
     exact hs x c h
   obtain⟨cl,e,h1,h2⟩:=E2 r hr ((n,a)::cs) hs'
   refine⟨cl,?_,h1,λx h=>h2 x ?_⟩
   ·rw[List.forIn_cons]
    have e1:cellOf env n=pure a:=by unfold cellOf;rw[show env.cells.lookup n=some a from ha]
    simp only[beq_self_eq_true,if_true,e1]
    exact e
   ·rcases h with h | ⟨c,h⟩
    ·rcases List.mem_cons.mp h with h |h
     ·have:x=n:=congrArg Prod.fst h
      subst this
      exact .inr ⟨a,by rw[List.lookup_cons];simp⟩
     ·exact .inl h
    ·by_cases hx:x=n
     ·subst hx;exact .inr ⟨a,by rw[List.lookup_cons];simp⟩
     ·exact .inr ⟨c,by rw[List.lookup_cons,beq_eq_false_iff_ne.mpr hx];exact h⟩
  ·obtain⟨cl,e,h1,h2⟩:=E2 r hr cs hs
   refine⟨cl,?_,h1,λx h=>h2 x ?_⟩
   ·rw[List.forIn_cons]
    have hb:(k==NameKind.free)=false:=by simpa using hk
    simp only[hb,Bool.false_eq_true,if_false]
    exact e
   ·rcases h with h |h
    ·rcases List.mem_cons.mp h with h |h
     ·exact absurd (congrArg Prod.snd h).symm hk
     ·exact .inl h
    ·exact .inr h
theorem Hs {scope:Scope}{env:Env}(hf:∀x∈scope.names,x.2=NameKind.free->∃c,env.cells.lookup x.1=some c):
  ∃cl:List (Str×Addr),closureFor scope env=pure cl/\(∀x c,cl.lookup x=some c->env.cells.lookup x=some c)/\(∀x,(x,NameKind.free)∈scope.names->∃c,cl.lookup x=some c):=by
 obtain⟨cl,e,h1,h2⟩:=E2 scope.names hf [] (λx c h=>by simp at h)
 refine⟨cl,?_,h1,λx h=>h2 x (.inl h)⟩
 unfold closureFor
 show((forIn scope.names [] (λ(x:Str×NameKind) (r:List (Str×Addr))=>(if(x.2==NameKind.free)=true then do let a ←cellOf env x.1;pure (ForInStep.yield ((x.1,a)::r)) else pure (ForInStep.yield r):Sem (ForInStep (List (Str×Addr)))))) >>= λs=>pure s)=pure cl
 rw[e]
 rfl
theorem Qu {env:Env}:∀{names:List (Str×NameKind)}{x:Str}{k:NameKind},(∀y∈names,y.2≠NameKind.cell)->
  (names.map λ(n,k)=>if(k==NameKind.free&&env.scope.kind== .function&&env.kindOf n==some .cell) then(n,NameKind.cell) else(n,k)).lookup x=some k->(k= .cell∨k= .free)->(x,NameKind.free)∈names
 | [],_,_,_,h,_=>by simp at h
 | (n,kk)::r,x,k,hc,h,hk=>by
  have ih:=@Qu env r x k (λy hy=>hc y (List.mem_cons_of_mem _ hy))
  have hh:=hc (n,kk) List.mem_cons_self
  simp only[List.map_cons] at h
  by_cases hcond:(kk==NameKind.free&&env.scope.kind== .function&&env.kindOf n==some .cell)=true
  ·rw[if_pos hcond,List.lookup_cons] at h
   have hfree:kk=NameKind.free:=by
    rw[Bool.and_eq_true,Bool.and_eq_true] at hcond
    simpa using hcond.1.1
   cases hx:x==n with
   |true=>
    have:x=n:=by simpa using hx
    subst this;subst hfree
    exact List.mem_cons_self
   |false=>rw[hx] at h;exact List.mem_cons_of_mem _ (ih h hk)
  ·rw[if_neg hcond,List.lookup_cons] at h
   cases hx:x==n with
   |true=>
    rw[hx] at h
    have hkk:kk=k:=Option.some.inj h
    have:x=n:=by simpa using hx
    subst this;subst hkk
    rcases hk with z |z
    ·exact absurd z hh
    ·subst z;exact List.mem_cons_self
   |false=>rw[hx] at h;exact List.mem_cons_of_mem _ (ih h hk)
theorem JF {env:Env}:∀{names:List (Str×NameKind)}{x:Str},names.lookup x=some .free->
  let l:=(names.map λ(n,k)=>if(k==NameKind.free&&env.scope.kind== .function&&env.kindOf n==some .cell) then(n,NameKind.cell) else(n,k))
  l.lookup x=some .cell∨l.lookup x=some .free
 | [],_,h=>by simp at h
 | (n,kk)::r,x,h=>by
  have ih:=@JF env r x
  simp only[List.map_cons]
  rw[List.lookup_cons] at h
  by_cases hcond:(kk==NameKind.free&&env.scope.kind== .function&&env.kindOf n==some .cell)=true
  ·rw[if_pos hcond,List.lookup_cons]
   cases hx:x==n with
   |true=>exact .inl rfl
   |false=>rw[hx] at h;exact ih h
  ·rw[if_neg hcond,List.lookup_cons]
   cases hx:x==n with
   |true=>rw[hx] at h;exact .inr h
   |false=>rw[hx] at h;exact ih h
noncomputable abbrev Cx.comp (X:Cx)(N:List Str)(scope:Scope)(cl:List (Str×Addr))(C:Addr)(s:Shared)(H:Hp)(ex:List Addr)(E:Value->Shared->Prop):Cx:=
 {X with N:=N,s₀:=s,H₀:=H,env:=compEnvC scope cl C X.env,outer:=X.stack,ex:=ex,fn:=λ_=>false,pn:=[],xe:=E}
noncomputable def PTs (X:Cx)(ifs:List Expr)(t:TT):Prop:=
 ∀(pins:List (Addr×Obj)) (s:Shared) (σ:St) (H:Hp) (Q:Bool->Hp->Prop),Inv X pins σ H s->t σ H Q->
  wpAny (model X.prog X.w) X.A (forIn ifs true λc r=>if r=true then do let ok ←isTrue c X.env (eval c X.env);pure (ForInStep.yield ok) else pure (ForInStep.yield r)) (TP X pins σ Q) X.xe s
noncomputable def UM:TT:=λ_ H Q=>Q true H
theorem OB {σ:St}{H:Hp}{A B:Hp->Prop}(h:A H):UM σ H λc H5=>if c=true then A H5 else B H5:=by
 show if true=true then A H else B H
 rw[if_pos rfl]
 exact h
theorem Y8 {X:Cx}:PTs X [] UM:=λ_ _ _ H _ I h=>wpAny_tests_nil ⟨H,I,h⟩
theorem Kv {X:Cx}{c:Expr}{t:TT}(h:PT X c t):PTs X [c] t:=λpins s σ H Q I hw=>wpAny_tests_one (h pins s σ H Q I hw)
noncomputable def Kz (n:Nat)(g:TG):Prop:=∀ x σ H Q,g x σ H Q->g x σ H λσ2 H2=>Q σ2 H2/\σ2.length=σ.length/\∀i,n<=i->σ2[i]?=σ[i]?
theorem YM {n i:Nat}(h:i<n):Kz n (YC i):=λx σ H Q q=>⟨q,by simp,λj hj=>by rw[List.getElem?_set_ne (by lia)]⟩
noncomputable def Y4 (n:Nat)(caps:List (Nat×Str))(σ:St):St:=List.replicate n none++caps.map λp=>(σ[p.1]?).join
noncomputable def Nk (g:TG)(tt:TT)(te:TE)(σ:St)(Q:VK)(J:It)(W:Nat->Nat->List V->Hp->Prop):Prop:=
 ∀i m ys H2,W i m ys H2->ys.length<=sizeLine/\
  ((J.stop i H2/\∀p,H2 p=none->Q (.ref p) (upd H2 p (.lst ys)))∨
  (J.go i H2/\∃N:List V->Hp->Prop,(∀ys' H',N ys' H'->∃m',m'<m/\W (i+1) m' ys' H')/\∀x H3,J.yld i H2 x H3->g x σ H3 λσ4 H4=>tt σ4 H4 λc H5=>
   if c=true then te σ4 H5 λv H6=>N (ys++[v]) H6 else N ys H5))
noncomputable def La (n:Nat)(caps:List (Nat×Str))(g:TG)(tt:TT)(te:TE)(σ:St)(Q:VK)(J:It)(H1:Hp):Prop:=
 ∃W:Nat->Nat->List V->Hp->Prop,(∃m,W 0 m [] H1)/\Nk g tt te (Y4 n caps σ) Q J W
noncomputable def Hn (n:Nat)(caps:List (Nat×Str))(wi:TI)(g:TG)(tt:TT)(te:TE):TE:=λσ H Q=>wi σ H λJ H1=>La n caps g tt te σ Q J H1
noncomputable def Gm (sc scope:Scope)(N0 tns:List Str)(caps:List (Nat×Str)):Bool:=
 scope.kind== .function&&scope.names.all (λy=>!(y.2== .cell))&&scope.names.all (λy=>!(y.2== .local) || scope.names.lookup y.1==some .local)&&
 scope.names.all (λy=>!(y.2== .free) || sc.names.lookup y.1==some .cell)&&caps.all (λp=>N0[p.1]?==some p.2&&sc.names.lookup p.2==some .cell&&scope.names.lookup p.2==some .free)
theorem DL {α:Type}{p:α}{P:Prop}(h:p∈([]:List α)):P:=nomatch h
noncomputable def OI (M:Model)(A:Around)(elt tg:Expr)(ifs:List Expr)(acc:Value)(env:Env)(E:Value->Shared->Prop)(K:Shared->Prop)(v:Value)(s:Shared):Prop:=
 wpAny M A (assign tg env v) (λ_ s₂=>wpAny M A (forIn ifs true λc r=>if r=true then do let ok ←isTrue c env (eval c env);pure (ForInStep.yield ok) else pure (ForInStep.yield r)) (λok s₃=>
  if ok=true then wpAny M A (eval elt env) (λx s₄=>wpAny M A (call (.builtin "list.append") [acc,x]) (λ_ s₅=>K s₅) E s₄) E s₃ else K s₃) E s₂) E s
noncomputable def PX (M:Model)(A:Around)(elt tg:Expr)(ifs:List Expr)(it acc:Value)(env:Env)(E:Value->Shared->Prop)(Rn K:Shared->Prop)(s:Shared):Prop:=
 wpAny M A (pyNext it) (λr s₁=>r=none/\Rn s₁∨∃v,r=some v/\wpAny M A (letOwnedTupleGo tg it v) (λ_ s₁=>OI M A elt tg ifs acc env E K v s₁) E s₁) E s
section
variable {prog:Program}{w:World}{A:Around}{R:Result->Shared->Prop}{s:Shared}
theorem K6 {elt target iter:Expr}{ifs:List Expr}{scope:Scope}{pos:Pos}{it acc:Value}{env:Env}{E:Value->Shared->Prop}(I:Nat->Shared->Prop)(hE:(notedBy (model prog w) A env λe s'=>R (.error e) s')=E)
  (turn:∀n s,I n s->PX (model prog w) A elt target ifs it acc env E (λs=>R (.ok .next) s) (λs=>∃ m,m<n/\I m s) s)(n:Nat)(h:I n s):
  codeAny (model prog w) A (.compLoop (.ListComp elt [⟨target,iter,ifs,0⟩] scope pos) 0 it acc env) R s:=by
 subst hE
 refine codeAny_loop rfl I (λn s hI=>?_) n h
 show wpAny _ A ((compTurn (.ListComp elt [⟨target,iter,ifs,0⟩] scope pos) 0 it acc env).onRaise (λx=>do noteFrame x env;theTreesLotGoes x)) _ _ s
 refine wpAny_noted ?_
 rw[compTurn_list]
 refine wpAny_bind (wpAny_standAt (wpAny_bind (thn (turn n s hI) λr s₁ h₁=>?_)))
 rcases h₁ with⟨rfl,h₁⟩ | ⟨v,rfl,h₁⟩
 ·exact wpAny_pure h₁
 ·refine wpAny_bind (thn h₁ λ_ s₁' h₁'=>wpAny_bind (thn h₁' λ_ s₂ h₂=>wpAny_bind (thn h₂ λok s₃ h₃=>?_)))
  cases ok with
  |false=>exact wpAny_pure ⟨rfl,h₃⟩
  |true=>exact wpAny_bind (wpAny_bind (thn h₃ λx s₄ h₄=>wpAny_bind (thn h₄ λ_ s₅ h₅=>wpAny_pure (wpAny_pure ⟨rfl,h₅⟩))))
end
noncomputable def lob (its:List Value)(k:Nat):Obj:={cls:=.type "list",data:=.seq (List.toArray its) k}
structure CIn (Y:Cx)(tn:Nat->Heap->Prop)(fp:List Addr)(D:Addr)(σ:St)(i:Nat)(H:Hp)(o:Obj)(s:Shared):Prop where
 I:Inv Y [] σ H s
 t:tn i s.heap
 f:∀b∈fp,H b=none
 l:s.heap.get? D=some o
 n:H D=none
inductive CI (Y:Cx)(tn:Nat->Heap->Prop)(fp:List Addr)(D:Addr)(σ:St)(W:Nat->Nat->List V->Hp->Prop)(m:Nat)(s:Shared):Prop
 |mk (i:Nat) (H:Hp) (ys:List V) (its:List Value) (k:Nat) (c:CIn Y tn fp D σ i H (lob its k) s) (r:Ya ys its) (w:W i m ys H)
structure CAt (Y:Cx)(fp:List Addr)(D:Addr):Prop where
 calm:Y.calm=true
 pn:Y.pn=[]
 ne:D≠Y.env.locals
 fs:D∉Y.fs
 sz:Y.s₀.heap.objs.size<=D
 cl:∀x c,Y.env.cells.lookup x=some c->c≠D
 fpn:∀b∈fp,b≠D
 ok:∀b∈fp,∀H:Hp,H b=none->CZ Y [] H b
section
variable {Y:Cx}{tn:Nat->Heap->Prop}{fp:List Addr}{D it:Addr}{σ:St}{tg elt iter:Expr}{ifs:List Expr}{J:It}{g:TG}{tt:TT}{te:TE}{n i:Nat}{H:Hp}{s:Shared}{o:Obj}{Kn:Shared->Prop}
theorem CAt.pins (c:CAt Y fp D)(hn:∀b∈fp,H b=none):∀b∈fp,CZ Y [(D,o)] H b:=λb hb=>
 have z:=c.ok b hb H (hn b hb)
 ⟨z.1,z.2.1,z.2.2.1,z.2.2.2.1,z.2.2.2.2.1,λp hp e=>by
  rw[c.pn] at hp
  cases List.mem_singleton.mp hp
  exact c.fpn b hb e.symm⟩
theorem Dt (T:Turn Y.prog Y.w Y.K tg J fp it tn){h5:Heap}(t:tn i h5)(I:Inv Y ([(D,o)]++KP fp h5) σ H s):CIn Y tn fp D σ i H o s:=
 have p:=I.pin (D,o) (List.mem_append_right _ (.head _))
 have q:∀b∈fp,∀o',h5.get? b=some o'->s.heap.get? b=some o'/\H b=none:=λb hb o' e=>have z:=I.pin (b,o') (List.mem_append_right _ (.tail _ (Jp hb e)));⟨z.1,z.2.1⟩
 ⟨I.pins_of (pins':=[]) λ_ h=>DL h,T.keep _ _ _ t λb hb o' e=>(q b hb o' e).1,λb hb=>(T.obj _ _ t b hb).elim λo' e=>(q b hb o' e.1).2,p.1,p.2.1⟩
theorem RO (T:Turn Y.prog Y.w Y.K tg J fp it tn)(a:CAt Y fp D){its:List Value}{k:Nat}{v:Value}{E:Value->Shared->Prop}(c:CIn Y tn fp D σ i H (lob its k) s)(hz:its.length<=sizeLine)
  (hQ:∀k' s',CIn Y tn fp D σ i H (lob (its++[v]) k') s'->Kn s'):wpAny (model Y.prog Y.w) Y.A (call (.builtin "list.append") [.ref D,v]) (λ_ s=>Kn s) E s:=by
 refine call_meets F.slot_list_append ⟨_,c.l,rfl⟩ F.entry_list_append (F.args_list_append_2 _ _) (PySem.list_append D (List.toArray its) k v hz) ⟨c.l,?_⟩
 have q:∃k',PySem.IsL (s.heap.update D (Obj.mapSeq (·.push v))) D ((List.toArray its).push v) k':=⟨_,PySem.IsL.update c.l (·.push v)⟩
 rw[List.push_toArray] at q
 obtain⟨k',q⟩:=q
 exact hQ k' _ ⟨c.I.turned (t':=s.toks) (h':=s.heap.update D (Obj.mapSeq (·.push v))) (it:=D) (λb o hb' e=>(Heap.get?_update_other s.heap _ (Ne.symm hb')).trans e) c.n a.ne (.inr a.sz) a.cl (λp hp=>by rw[a.pn] at hp;exact DL hp),
  T.keep _ _ _ c.t λb hb o e=>(Heap.get?_update_other s.heap _ (Ne.symm (a.fpn b hb))).trans e,c.f,q,c.n⟩
theorem IL {acc:Value}{pins:List (Addr×Obj)}{N:List V->Hp->Prop}{ys:List V}{x:V}{u:Value}(hg:PG Y tg g)(ht:PTs Y ifs tt)(he:PE Y elt te)(hG:Kz n g)(h0:∀(j:Nat) v,σ[j]?=some (some v)->n<=j)
  (I:Inv Y pins σ H s)(r:X4 x u)(st:g x σ H λσ4 H4=>tt σ4 H4 λc H5=>if c=true then te σ4 H5 λv H6=>N (ys++[v]) H6 else N ys H5)
  (hF:∀H7 s7,Inv Y pins σ H7 s7->N ys H7->Kn s7)(hT:∀H8 s8 y v,Inv Y pins σ H8 s8->X4 y v->N (ys++[y]) H8->wpAny (model Y.prog Y.w) Y.A (call (.builtin "list.append") [acc,v]) (λ_ s=>Kn s) Y.xe s8):
  OI (model Y.prog Y.w) Y.A elt tg ifs acc Y.env Y.xe Kn u s:=by
 refine thn (hg _ s _ H x u _ I r (hG _ _ _ _ st)) λ_ s6 r9=>?_
 obtain⟨σ6,H6,I6,q6,l6,k6⟩:=r9
 have wk:∀(j:Nat) v,σ[j]?=some (some v)->σ6[j]?=some (some v):=λj v e=>(k6 j (h0 j v e)).trans e
 refine thn (ht _ s6 σ6 H6 _ I6 q6) λc s7 r9=>?_
 obtain⟨H7,I7,q7⟩:=r9
 cases c with
 |false=>exact hF _ _ (I7.weak l6.symm wk) q7
 |true=>exact thn (he _ s7 σ6 H7 _ I7 q7) λv8 s8 r9=>by obtain⟨y8,H8,I8,r8,n8⟩:=r9;exact hT _ _ _ _ (I8.weak l6.symm wk) r8 n8
theorem Ca {scope:Scope}{pos:Pos}{Q:V->Hp->Prop}{R:Result->Shared->Prop}(hE:(notedBy (model Y.prog Y.w) Y.A Y.env λe s'=>R (.error e) s')=Y.xe)
  (T:Turn Y.prog Y.w Y.K tg J fp it tn)(hG:Kz n g)(hg:PG Y tg g)(ht:PTs Y ifs tt)(he:PE Y elt te)(a:CAt Y fp D)(h0:∀(j:Nat) v,σ[j]?=some (some v)->n<=j)
  {W:Nat->Nat->List V->Hp->Prop}(turn:Nk g tt te σ Q J W)
  (hEnd:∀ys its k H3 s4,Inv Y [(D,lob its k)] σ H3 s4->Ya ys its->ys.length<=sizeLine->Q (.ref D) (upd H3 D (.lst ys))->R (.ok .next) s4){m0:Nat}(hi:CI Y tn fp D σ W m0 s):
  codeAny (model Y.prog Y.w) Y.A (.compLoop (.ListComp elt [⟨tg,iter,ifs,0⟩] scope pos) 0 (.ref it) (.ref D) Y.env) R s:=by
 refine K6 (CI Y tn fp D σ W) hE (λm s3 c=>?_) m0 hi
 cases c with
 |mk i H3 ys its k c rv w3=>
 have I3:Inv Y [(D,lob its k)] σ H3 s3:=c.I.pins_of λp hp=>List.mem_singleton.mp hp▸⟨c.l,c.n,a.ne,a.fs,λ_ z=>by cases z⟩
 have t:=turn i m ys H3 w3
 refine t.2.elim (λq=>?_) λq=>?_
 ·exact thn (T.done Y rfl rfl rfl a.calm i _ s3 _ H3 Y.xe I3 (a.pins c.f) c.t q.1) λr s4 h=>.inl ⟨h.1,hEnd ys its k H3 s4 h.2 rv t.1 (q.2 D c.n)⟩
 ·refine q.2.elim λNN h=>?_
  refine thn (T.item Y rfl rfl rfl a.calm i _ s3 _ H3 Y.xe I3 (a.pins c.f) c.t q.1) λr s4 h4=>.inr (h4.elim λu h4=>⟨u,h4.1,thn h4.2 λ_ s5 h5=>h5.elim λx h5=>h5.elim λH5 h5=>?_⟩)
  exact IL hg ht he hG h0 (h5.1.pinned (a.pins h5.2.2.2.2) (T.obj _ _ h5.2.2.2.1)) h5.2.1 (h.2 x H5 h5.2.2.1)
   (λH7 s7 I7 q7=>(h.1 _ _ q7).elim λm' z=>⟨m',z.1, .mk (i+1) H7 ys its k (Dt T h5.2.2.2.1 I7) rv z.2⟩)
   λH8 s8 y v I8 r8 q8=>(h.1 _ _ q8).elim λm' z=>RO T a (Dt T h5.2.2.2.1 I8) (rv.length▸t.1) λk' s' c'=>⟨m',z.1, .mk (i+1) H8 (ys++[y]) (its++[v]) k' c' (rv.append (.cons r8 .nil)) z.2⟩
end
section
variable {X:Cx}{elt tg iter:Expr}{ifs:List Expr}{scope sc:Scope}{pos:Pos}{n:Nat}{tns:List Str}{caps:List (Nat×Str)}{wi:TI}{g:TG}{tt:TT}{te:TE}
structure CompEnd (X:Cx)(pins:List (Addr×Obj))(σ:St)(H3:Hp)(D C:Addr)(ys:List V)(s':Shared):Prop where
 inv:Inv X pins σ (upd H3 D (.lst ys)) s'
 fresh:H3 D=none
 fp:CZ X pins (upd H3 D (.lst ys)) C
 ns:∃m,s'.heap.Ns C m
theorem HF {pins:List (Addr×Obj)}{σ σ':St}{H H3:Hp}{s s4:Shared}{D C:Addr}{fp:List Addr}{its:List Value}{k:Nat}{ys:List V}{Y:Cx}(I:Inv X pins σ H s)(hf:∀b∈fp,CZ X pins H b)(hD:s.heap.objs.size<=D)(hDlt:D<C)
  (I4:Inv Y [(D,lob its k)] σ' H3 s4)(hos:s4.os=s.os)(u:Un (frs X.stack) fp H H3 s.heap s4.heap)(hok:HOk X.prog X.w H3 s4.heap)(hC:Y.env.locals=C)(rv:Ya ys its)(hz:ys.length<=sizeLine):CompEnd X pins σ H3 D C ys s4:=by
 subst hC
 have p:=I4.pin (D,lob its k) (List.mem_append_right _ (.head _))
 have hDn:H3 D=none:=p.2.1
 have up:∀{b:Addr}{o:HO},H3 b=some o->upd H3 D (.lst ys) b=some o:=λe=>(XL (XR e hDn)).trans e
 refine⟨I.call' (ch:=fp) hos ⟨u.keep,u.slot,λb o e nn hx=>(XL (Nat.ne_of_lt (Nat.lt_of_lt_of_le (Heap.lt_size e) hD))).trans (u.free b o e nn hx),u.there,λb xs e=>up (u.tups b xs e),λb o xs e=>up (u.frzs b o xs e),λb ps e=>(u.tbls b ps e).elim λmore z=>⟨more,up z⟩⟩ (λa o e=>?_) I4.bare λb hb=>have z:=hf b hb;⟨z.2.2.2.1,z.2.1,z.2.2.2.2.1,z.2.2.2.2.2⟩,hDn,I.fpOk (Nat.le_trans hD (Nat.le_of_lt hDlt)) ((XL (Nat.ne_of_gt hDlt)).trans I4.free),I4.loc.elim λm z=>⟨m,z.1⟩⟩
 by_cases ha:a=D
 ·subst ha
  rw[Yd] at e;cases e
  exact⟨hz,its,k,rv,p.1⟩
 ·rw[XL ha] at e
  exact(hok a o e).stay (λb u _ q=>q) (λb q=>up q) λb xs q=>up q
noncomputable def RN (X:Cx)(elt tg iter:Expr)(ifs:List Expr)(scope:Scope)(pos:Pos)(it:Value)(cl:List (Str×Addr))(RR:Value->Addr->Result->Shared->Prop)(E:Value->Shared->Prop)(s:Shared):Prop:=
 wpAny (model X.prog X.w) X.A (newList []) (λacc s₃=>wpAny (model X.prog X.w) X.A (newFunctionEnv scope X.env.globals cl [] X.env.qual none .none (some X.env)) (λcenv s₄=>
   codeAny (model X.prog X.w) X.A (.compStart (.ListComp elt [⟨tg,iter,ifs,0⟩] scope pos) 0 it acc {cenv with scope:=relabel scope X.env}) (RR acc cenv.locals) s₄) E s₃) E s
theorem Gp {σ:St}{i:Nat}{v:V}(e:(Y4 n caps σ)[i]?=some (some v)):n<=i/\∃p,caps[i-n]?=some p/\σ[p.1]?=some (some v):=by
 unfold Y4 at e
 by_cases h:i<n
 ·rw[List.getElem?_append_left (by simpa using h),List.getElem?_replicate,if_pos h] at e
  cases e
 ·have hi:=Nat.le_of_not_lt h
  rw[List.getElem?_append_right (by simpa using hi),List.length_replicate,List.getElem?_map] at e
  refine⟨hi,?_⟩
  cases hcp:caps[i-n]? with
  |none=>rw[hcp] at e;cases e
  |some p=>
   rw[hcp] at e
   exact⟨p,rfl,Option.join_eq_some_iff.mp (Option.some.inj e)⟩
structure COk (X:Cx)(scope:Scope)(caps:List (Nat×Str)):Prop where
 kind:scope.kind= .function
 cell:∀y∈scope.names,y.2≠NameKind.cell
 loc:∀y∈scope.names,y.2= .local->scope.names.lookup y.1=some .local
 free:∀y∈scope.names,y.2= .free->X.env.scope.names.lookup y.1=some .cell
 caps:∀p∈caps,(X.N[p.1]?=some p.2/\X.env.scope.names.lookup p.2=some .cell)/\scope.names.lookup p.2=some .free
theorem COk.of {N0:List Str}(hsc:X.env.scope=sc)(hN0:X.N=N0)(ok:Gm sc scope N0 tns caps=true):COk X scope caps:=by
 subst hsc
 subst hN0
 unfold Gm at ok
 simp only[Bool.and_eq_true,List.all_eq_true,beq_iff_eq,Bool.or_eq_true,Bool.not_eq_true',beq_eq_false_iff_ne] at ok
 exact⟨ok.1.1.1.1,ok.1.1.1.2,λy hy e=>(ok.1.1.2 y hy).resolve_left (absurd e),λy hy e=>(ok.1.2 y hy).resolve_left (absurd e),ok.2⟩
section
variable {pins:List (Addr×Obj)}{σ:St}{H:Hp}{s:Shared}{fp:List Addr}{cl:List (Str×Addr)}{C:Addr}{E:Value->Shared->Prop}{N:List Str}{h₁:Heap}
theorem Nr (ok:COk X scope caps)(I:Inv X pins σ H s)(hf:∀b∈fp,CZ X pins H b)(hlt:∀b∈fp,b<s.heap.objs.size)
  (hsub:∀x c,cl.lookup x=some c->X.env.cells.lookup x=some c)(hall:∀x,(x,NameKind.free)∈scope.names->∃c,cl.lookup x=some c)(hC:s.heap.objs.size<C):(X.comp N scope cl C s H fp E).Ok:=
 ⟨I.ok.mod,ok.kind,I.ok.glob,I.ok.blt,Nat.le_of_lt hC,λx y c h1 h2=>I.ok.inj x y c (hsub x c h1) (hsub y c h2),λx hx=>hall x (hx.elim (λz=>Qu ok.cell z (.inl rfl)) λz=>Qu ok.cell z (.inr rfl)),(λx c hx=>by cases hx),I.ok.hd,I.ok.frames, .inl rfl,
  λb hb=>⟨Nat.ne_of_lt (Nat.lt_trans (hlt b hb) hC),λx c e=>(hf b hb).2.2.2.2.1 x c (hsub x c e)⟩,I.bs,Nat.le_trans I.ok.bsz I.sz,λb o e hb=>(hf b hb).2.2.2.1.elim (I.ok.noex b o e) λz=>absurd (Nat.lt_of_lt_of_le (Heap.lt_size e) (Nat.le_trans I.ok.bsz z)) (Nat.lt_irrefl _),
  λb hb hz=>(List.mem_cons.mp (I.stkSub b hz)).elim (hf b hb).2.1 (hf b hb).2.2.1,I.stack,I.stkFree⟩
theorem IV (okc:COk X scope caps)(hn:tns.length=n)(ok:(X.comp (tns++caps.map (·.2)) scope cl C s H fp E).Ok)(I:Inv X pins σ H s)
  (hsub:∀x c,cl.lookup x=some c->X.env.cells.lookup x=some c)(hall:∀x,(x,NameKind.free)∈scope.names->∃c,cl.lookup x=some c)(hC:s.heap.objs.size<C)(hns:h₁.Ns C λ_=>none)(old:∀b o,s.heap.get? b=some o->h₁.get? b=some o){tk:Nat}:
  Inv (X.comp (tns++caps.map (·.2)) scope cl C s H fp E) [] (Y4 n caps σ) H {s with heap:=h₁,toks:=tk}:=by
 refine⟨ok,rfl,I.bare,Un.kept old,⟨_,hns,λi x v e1 e2 _=>?_⟩,λx c e=>(I.cell x c (hsub x c e)).elim λv z=>z.elim λo z=>⟨v,o,old _ _ z.1,z.2⟩,I.hok.fresh (Nat.le_of_lt hC),λx c e=>I.freeC x c (hsub x c e),λp hp=>DL (α:=Addr×Obj) hp,I.hok.kept old,by simp[Y4,hn]⟩
 obtain⟨hi,p,hp,hσ⟩:=Gp e2
 have e1':(tns++caps.map (·.2))[i]?=some x:=e1
 rw[List.getElem?_append_right (hn▸hi),hn,List.getElem?_map,hp] at e1'
 cases Option.some.inj e1'
 have p5:=okc.caps p (List.mem_of_getElem? hp)
 obtain⟨m,hm,hl⟩:=I.loc
 obtain⟨u,r,l⟩:=hl p.1 p.2 v p5.1.1 hσ (.inr (.inl p5.1.2))
 refine⟨u,r, .inr ?_⟩
 rcases l with⟨k,_⟩ | ⟨k,c,e,z⟩
 ·cases p5.1.2.symm.trans k
 ·obtain⟨c',e'⟩:=hall p.2 (PySem.mem_of_lookup p5.2)
  cases e.symm.trans (hsub _ _ e')
  exact⟨JF (env:=X.env) p5.2,c,e',z.elim λo z=>⟨o,old _ _ z.1,z.2⟩⟩
variable {J:It}{it:Addr}{tn:Nat->Heap->Prop}{Q:V->Hp->Prop}{RR:Value->Addr->Result->Shared->Prop}{W:Nat->Nat->List V->Hp->Prop}{m0:Nat}
theorem L8 (ok:COk X scope caps)(hc:X.calm=true)(hn:tns.length=n)(hG:Kz n g)
  (hb:∀cl C s H ex E,PG (X.comp (tns++caps.map (·.2)) scope cl C s H ex E) tg g/\PTs (X.comp (tns++caps.map (·.2)) scope cl C s H ex E) ifs tt/\PE (X.comp (tns++caps.map (·.2)) scope cl C s H ex E) elt te)
  (I:Inv X pins σ H s)(T:Turn X.prog X.w X.K tg J fp it tn)(t0:tn 0 s.heap)(hf:∀b∈fp,CZ X pins H b)
  (hsub:∀x c,cl.lookup x=some c->X.env.cells.lookup x=some c)(hall:∀x,(x,NameKind.free)∈scope.names->∃c,cl.lookup x=some c)
  (w0:W 0 m0 [] H)(turn:Nk g tt te (Y4 n caps σ) Q J W)
  (hRR:∀D C ys H3 s',CompEnd X pins σ H3 D C ys s'->Q (.ref D) (upd H3 D (.lst ys))->RR (.ref D) C (.ok .next) s')
  (hC:s.heap.objs.size<C)(hns:h₁.Ns C λ_=>none)(old:∀b o,s.heap.get? b=some o->h₁.get? b=some o)(hacc:h₁.get? s.heap.objs.size=some (lob [] 0)){tk:Nat}:
  codeAny (model X.prog X.w) X.A (.compStart (.ListComp elt [⟨tg,iter,ifs,0⟩] scope pos) 0 (.ref it) (.ref s.heap.objs.size) (compEnvC scope cl C X.env)) (RR (.ref s.heap.objs.size) C) {s with heap:=h₁,toks:=tk}:=by
 have hlt:∀b∈fp,b<s.heap.objs.size:=λb hb=>(T.obj _ _ t0 b hb).elim λo e=>Heap.lt_size e.1
 have okY:∀E,(X.comp (tns++caps.map (·.2)) scope cl C s H fp E).Ok:=λE=>Nr ok I hf hlt hsub hall hC
 have t1:tn 0 h₁:=T.keep _ _ _ t0 λb _ o e=>old b o e
 have loop:∀tk,codeAny (model X.prog X.w) X.A (.compLoop (.ListComp elt [⟨tg,iter,ifs,0⟩] scope pos) 0 (.ref it) (.ref s.heap.objs.size) (compEnvC scope cl C X.env)) (RR (.ref s.heap.objs.size) C) {s with heap:=h₁,toks:=tk}:=λtk=>
  have z:=hb cl C s H fp (notedBy (model X.prog X.w) X.A (compEnvC scope cl C X.env) λe s'=>RR (.ref s.heap.objs.size) C (.error e) s')
  Ca (Y:=X.comp (tns++caps.map (·.2)) scope cl C s H fp _) rfl T hG z.1 z.2.1 z.2.2
   ⟨hc,rfl,Nat.ne_of_lt hC,λhz=>(I.stack.mem hz).2.elim λo ho=>absurd (Heap.lt_size ho.1) (Nat.lt_irrefl _),Nat.le_refl _,λx c e=>(I.cell x c (hsub x c e)).elim λv z=>Nat.ne_of_lt z.lt,λb hb=>Nat.ne_of_lt (hlt b hb),
    λb hb H' h'=>⟨h',Nat.ne_of_lt (Nat.lt_trans (hlt b hb) hC),(okY λ_ _=>True).exfs b hb, .inl hb,λx c e=>(hf b hb).2.2.2.2.1 x c (hsub x c e),λp hp=>DL (α:=Addr×Obj) hp⟩⟩
   (λj v e=>(Gp e).1) turn (λys its k H3 s4 I4 rv hz q=>hRR _ C ys H3 s4 (HF I hf (Nat.le_refl _) hC I4 I4.os I4.base I4.hok rfl rv hz) q)
   (.mk 0 H [] [] 0 ⟨IV ok hn (okY _) I hsub hall hC hns old,t1,λb hb=>(hf b hb).1,hacc,I.hok.fresh (Nat.le_refl _)⟩ .nil w0)
 exact codeAny_compStart_list (loop _) (T.self _ 0 _ _ _ t1 (loop _))
theorem Uz (ok:COk X scope caps)(hc:X.calm=true)(hn:tns.length=n)(hG:Kz n g)
  (hb:∀cl C s H ex E,PG (X.comp (tns++caps.map (·.2)) scope cl C s H ex E) tg g/\PTs (X.comp (tns++caps.map (·.2)) scope cl C s H ex E) ifs tt/\PE (X.comp (tns++caps.map (·.2)) scope cl C s H ex E) elt te)
  {itv:Value}(h:PIE X pins σ tg (λJ H1=>La n caps g tt te σ Q J H1) itv s)
  (hsub:∀x c,cl.lookup x=some c->X.env.cells.lookup x=some c)(hall:∀x,(x,NameKind.free)∈scope.names->∃c,cl.lookup x=some c)
  (hRR:∀D C ys H3 s',CompEnd X pins σ H3 D C ys s'->Q (.ref D) (upd H3 D (.lst ys))->RR (.ref D) C (.ok .next) s'):
  RN X elt tg iter ifs scope pos itv cl RR E s:=by
 obtain⟨it,fp,tn,J,H',rfl,I,T,t0,hf,W,⟨m0,w0⟩,turn⟩:=h
 refine wpAny_newObj_type (wpAny_newFunctionEnv ok.cell (by intro y hy;simp at hy) (λh₁ hns₁ hsb₁=>?_) ok.kind)
 have hs:∀o,(s.heap.push o).objs.size=s.heap.objs.size+1:=λo=>Heap.size_push ..
 exact L8 ok hc hn hG hb I T t0 hf hsub hall w0 turn hRR (Nat.lt_of_lt_of_eq (Nat.lt_succ_self _) (hs _).symm) hns₁
  (λb o e=>hsb₁.extBut b o (Nat.ne_of_lt (Nat.lt_trans (Heap.lt_size e) (Nat.lt_of_lt_of_eq (Nat.lt_succ_self _) (hs _).symm))) (Heap.get?_push_of_some _ (Heap.get?_push_of_some _ e)))
  (hsb₁.extBut _ _ (Nat.ne_of_lt (Nat.lt_of_lt_of_eq (Nat.lt_succ_self _) (hs _).symm)) (Heap.get?_push_of_some _ (Heap.get?_push_size _ rfl)))
end
theorem LZ (sc:Scope)(N0:List Str)(tns:List Str)(caps:List (Nat×Str))(hc:X.calm=true)(hi:PI X tg iter wi)(hG:Kz tns.length g)
  (hb:∀cl C s H ex E,PG (X.comp (tns++caps.map (·.2)) scope cl C s H ex E) tg g/\PTs (X.comp (tns++caps.map (·.2)) scope cl C s H ex E) ifs tt/\PE (X.comp (tns++caps.map (·.2)) scope cl C s H ex E) elt te)
  (hsc:X.env.scope=sc:=by rfl)(hN0:X.N=N0:=by rfl)(ok:Gm sc scope N0 tns caps=true:=by decide+kernel)
  (hs:∀x,foldedSetIterable iter X.env x=pure x:=by intro _;rfl):
  PE X (.ListComp elt [⟨tg,iter,ifs,0⟩] scope pos) (Hn tns.length caps wi g tt te):=by
 intro pins s σ H Q I h
 have okc:=COk.of hsc hN0 ok
 obtain⟨cl,ecl,hsub,hall⟩:=Hs (scope:=scope) (env:=X.env) λx hx hfr=>I.ok.has x.1 (.inl (okc.free x hx hfr))
 rw[eval_ListComp]
 exact wpAny_comprehension_free (use:=none) rfl hs ecl okc.kind okc.loc (thn (hi pins s σ H _ I h) λxv s₁ h₁=>thn h₁ λitv s₂ h₂=>
  Uz (RR:=λacc C=>compPost (model X.prog X.w) X.A X.xe none (EP X pins σ Q) acc C) okc hc rfl hG hb h₂ hsub hall λD C ys H3 s' ce q=>ce.ns.elim λmm hns=>
   ⟨mm,hns,λh' hs'=>⟨.ref D,_,ce.inv.turned (t':=s'.toks) (λb o hb' e=>(hs'.extBut b o hb' e)) ce.fp.1 ce.fp.2.1 ce.fp.2.2.2.1 ce.fp.2.2.2.2.1 ce.fp.2.2.2.2.2,rfl,q⟩⟩)
theorem UQ {x:Str}{px spos:Pos}(j:Nat)(sc:Scope)(N0:List Str)(tns:List Str)(caps:List (Nat×Str))(hc:X.calm=true)(hN:X.N.Nodup)(hj:X.N[j]?=some x)(hx:X.env.scope.names.lookup x=some .local)(hi:PI X tg iter wi)(hG:Kz tns.length g)
  (hb:∀cl C s H ex E,PG (X.comp (tns++caps.map (·.2)) scope cl C s H ex E) tg g/\PTs (X.comp (tns++caps.map (·.2)) scope cl C s H ex E) ifs tt/\PE (X.comp (tns++caps.map (·.2)) scope cl C s H ex E) elt te)
  (hsc:X.env.scope=sc:=by rfl)(hN0:X.N=N0:=by rfl)(ok:Gm sc scope N0 tns caps=true:=by decide+kernel)
  (hsw:swapsWith (.ListComp elt [⟨tg,iter,ifs,0⟩] scope pos) (some (.Name x px)) spos.line X.env=pure true:=by rfl)
  (hs:∀x,foldedSetIterable iter X.env x=pure x:=by intro _;rfl):
  PS X (.Assign [.Name x px] (.ListComp elt [⟨tg,iter,ifs,0⟩] scope pos) spos) (DT (Hn tns.length caps wi g tt te) (YC j)):=by
 intro pins s σ H D I h
 have okc:=COk.of hsc hN0 ok
 obtain⟨cl,ecl,hsub,hall⟩:=Hs (scope:=scope) (env:=X.env) λx hx hfr=>I.ok.has x.1 (.inl (okc.free x hx hfr))
 rw[exec_Assign_Name_used _ _ _ _ hsw]
 refine wpAny_bind (wpAny_standAt (wpAny_bind ?_))
 show wpAny _ _ (do let _ ←comprehension (.ListComp elt [⟨tg,iter,ifs,0⟩] scope pos) scope X.env _ (newList []) false (eval iter X.env) (some (assign (.Name x px) X.env))) _ _ s
 refine wpAny_bind (thn (wpAny_comprehension_free (use:=some (assign (.Name x px) X.env)) (Q:=λ_ s'=>SP X pins D .next s') rfl hs ecl okc.kind okc.loc
  (thn (hi pins s σ H _ I h) λxv s₁ h₁=>thn h₁ λitv s₂ h₂=>?_)) λ_ s' hq=>wpAny_pure (wpAny_pure hq))
 refine Uz (Q:=λv H1=>YC j v σ H1 D.nx) (RR:=λacc C=>compPost (model X.prog X.w) X.A X.xe (some (assign (.Name x px) X.env)) (λ_ s'=>SP X pins D .next s') acc C) okc hc rfl hG hb h₂ hsub hall ?_
 intro DD C ys H3 s' ce q
 obtain⟨mm,hns⟩:=ce.ns
 obtain⟨c0,c1,c2,c3,c4,c5⟩:=ce.fp
 show wpAny _ _ (assign (.Name x px) X.env (.ref DD)) _ _ _
 refine wpAny_assign_Name (KW ce.inv hN hj (.inl hx) (v:=.ref DD) rfl (λs2 I2 chg=>?_) (.inr hx))
 obtain⟨c,hsb,hcc⟩:=chg
 have hCc:C≠c:=by
  rcases hcc with z |z
  ·rw[z];exact c1
  ·exact λe=>c4 x c z e.symm
 refine⟨mm,?_,λh' hs'=>?_⟩
 ·obtain⟨o,es,ep,ho,r⟩:=hns
  exact⟨o,es,ep,(hsb.2 C hCc).trans ho,r⟩
 ·exact⟨_,_,I2.turned (t':=s2.toks) (λb o hb' e=>(hs'.extBut b o hb' e)) c0 c1 c3 c4 c5,q⟩
end
section
variable {K:PySem.W.Frag}{a:Addr}{xs:List V}{n:Nat}{caps:List (Nat×Str)}{g:TG}{tt:TT}{te:TE}{σ:St}{H:Hp}{Q:V->Hp->Prop}
end
section
variable {X:Cx}{pos:Pos}
noncomputable def Fg (K:PySem.W.Frag):List V->Hp->VK->Prop:=λxs H Q=>∃ p ys,xs=[.ref p]/\(SqL K H p ys∨SqT K H p ys)/\∀l,H l=none->Q (.ref l) (upd H l (.lst ys))
noncomputable def Dk (K:PySem.W.Frag):List V->Hp->VK->Prop:=λxs H Q=>∃ p ys,xs=[.ref p]/\(SqL K H p ys∨SqT K H p ys)/\Q (.int ys.length) H
theorem Yq (K:PySem.W.Frag)(h:X.K=K):Z2 X (.type "list") (Fg K):=by subst h;exact K1
theorem Xh (K:PySem.W.Frag)(h:X.K=K):Z2 X (.builtin "len") (Dk K):=by subst h;exact KE
theorem Qp (K:PySem.W.Frag)(h:X.K=K):IxR X (HB K):=by subst h;exact Nc
theorem MT (K:PySem.W.Frag)(h:X.K=K):IxR X (Et K):=by subst h;exact OT
theorem Ko (K:PySem.W.Frag)(h:X.K=K):SlR X (Pf K):=by subst h;exact Nm
theorem MC (K:PySem.W.Frag)(h:X.K=K){es:List Expr}{k:Nat}{t:TGs}{n:Nat}(hc:X.calm=true)(hh:PGs X es t)
  (hn:(assignEach es X.env).length=n:=by rfl)(hst:(assignEach es X.env).findIdx? (·.1)=none:=by rfl):PG X (.Tuple es k pos) (Lj K n t):=by subst h;exact Q6 hc hh hn hst
end
structure Fn (P:Program)(w:World)(K:PySem.W.Frag)(mg:Str->Option Value)(base:Heap)(k:Nat)(x:Str)(ps:List Str)(sp:Sp):Prop where
 ex:∃f fd,FnOk P w K mg base CX0 k f fd ps sp/\Ff K fd ps []/\PySem.W.keepIn K (.ref f)=true/\mg x=some (.ref f)
section
variable {X:Cx}{k j:Nat}{x:Str}{ps:List Str}{sp:Sp}{e:Expr}{es:List Expr}{t:TA}{p pos:Pos}
theorem XN (G:Fn X.prog X.w X.K X.mg X.base k x ps sp)(hr:Room j X.A)(hj:k<=j)(ha:PA X (e::es) t)(hg:Gl X x:=by rfl)(hdb:(x==("__debug__":Str))=false:=by decide)
  (he:starEach (e::es) X.env=(false,eval e X.env)::starEach es X.env:=by rfl)(hpl:(backTo pos (starEach es X.env)).any (·.1)=false:=by rfl):
  PE X (.Call (.Name x p) (e::es) [] pos) (JO sp [] E0 t):=by
 obtain⟨f,fd,F,b,kp,m⟩:=G.ex
 exact Mh F (hr.mono hj) hg m kp b .nil PP ha hdb he hpl
end
noncomputable def Def (K:PySem.W.Frag)(mg:Str->Option Value)(x:Str)(st:Stmt)(ps:List Str):Prop:=∃ f fd,Fun K x x st f fd/\Ff K fd ps []/\mg x=some (.ref f)
theorem UE {P:Program}{w:World}{K:PySem.W.Frag}{mg:Str->Option Value}{base:Heap}{x:Str}{st:Stmt}{N ps:List Str}{k:Nat}{sp:Sp}(D:Def K mg x st ps)(S:FnScope N ps (Xg st))(len:∀vs H Q E,sp vs H Q E->vs.length=ps.length)
  (hbody:∀(f:Addr) (cdv:Value) (A:Around) (outer:List Env) (s:Shared) (H:Hp) (vs:List V) (Q:VK) (E:XK),Room k (A.deeper (envOfC x (Xg st) s.heap.objs.size f cdv))->sp vs H Q E->
   ∃t,PSs (Ba CX0 P w K mg base N x (Xg st) f cdv A outer s H E).nox (XV st) t/\t {nx:=λ_ H'=>Q .non H',rt:=Q} (Vd N vs) H):Fn P w K mg base (k+1) x ps sp:=by
 obtain⟨f,fd,F,b,m⟩:=D
 exact⟨f,fd,F.ok S len (hbody f),b,F.kp,m⟩
theorem En {a d c:Nat}(h:d<=8)(hu:a+8<c):a+d<c:=by omega
theorem XE {H:Hp}{p:Addr}(h:H p=none)(o:HO):Xv H (upd H p o):=λb u q=>by rw[XL (XR q h)];exact q
theorem hu8 {A:Around}{k:Nat}(hr:Room k A):A.units+8<cLine:=Nat.lt_of_le_of_lt (Nat.add_le_add_left (by decide:8<=64) _) hr.units
noncomputable abbrev Enc (α:Type):=PySem.W.Frag->Hp->V->α->Prop
noncomputable def Xc:Enc Int:=λ_ _ v i=>v= .int i
noncomputable def rL {α:Type}(r:Enc α):Enc (List α):=λK H v as=>∃ a xs,v= .ref a/\SqL K H a xs/\Paired (r K H) xs as
theorem Paired.getL {α β:Type}{F:α->β->Prop}:∀{l:List α}{m:List β}{i:Nat}{a:α},Paired F l m->l[i]?=some a->∃b,m[i]?=some b/\F a b
 |_,_,_,_, .nil,e=>by simp at e
 |_,_,0,_, .cons r _,e=>by simp at e;subst e;exact⟨_,rfl,r⟩
 |_,_,i+1,a, .cons _ t,e=>by
  obtain⟨b,h1,h2⟩:=Paired.getL (i:=i) (a:=a) t (by simpa using e)
  exact⟨b,by simpa using h1,h2⟩
theorem Paired.getR {α β:Type}{F:α->β->Prop}:∀{l:List α}{m:List β}{i:Nat}{b:β},Paired F l m->m[i]?=some b->∃a,l[i]?=some a/\F a b
 |_,_,_,_, .nil,e=>by simp at e
 |_,_,0,_, .cons r _,e=>by simp at e;subst e;exact⟨_,rfl,r⟩
 |_,_,i+1,b, .cons _ t,e=>by
  obtain⟨a,h1,h2⟩:=Paired.getR (i:=i) (b:=b) t (by simpa using e)
  exact⟨a,by simpa using h1,h2⟩
theorem Paired.len {α β:Type}{F:α->β->Prop}{l:List α}{m:List β}(h:Paired F l m):l.length=m.length:=Paired.length h
theorem Paired.app {α β:Type}{F:α->β->Prop}:∀{l l':List α}{m m':List β},Paired F l m->Paired F l' m'->Paired F (l++l') (m++m'):=λp h=>by
 induction p with
 |nil=>exact h
 |cons r _ ih=>exact .cons r ih
theorem Fu (ns:List Int):∀{K:PySem.W.Frag}{H:Hp},Paired (Xc K H) (ns.map V.int) ns:=by
 intro K H
 induction ns with
 |nil=>exact .nil
 |cons n r ih=>exact .cons rfl ih
theorem QE:∀{xs:List V}{ns:List Int}{K:PySem.W.Frag}{H:Hp},Paired (Xc K H) xs ns->xs=ns.map V.int
 |_,_,_,_, .nil=>rfl
 |_,_,_,_, .cons r t=>by
  have r':_=V.int _:=r
  rw[r',QE t];rfl
structure EqOk {α:Type}[DecidableEq α](r:Enc α)(d:Nat):Prop where
 uniq:∀{X:Cx}{pins:List (Addr×Obj)}{σ:St}{H:Hp}{s:Shared}{x:V}{a b:α},Inv X pins σ H s->r X.K H x a->r X.K H x b->a=b
 eq:∀{X:Cx}{pins:List (Addr×Obj)}{σ:St}{H:Hp}{s:Shared}{x y:V}{v u:Value}{a b:α}{A:Around},Inv X pins σ H s->X4 x v->X4 y u->r X.K H x a->r X.K H y b->A.units+d<cLine->SeqAt.EqAt A s v u (decide (a=b))
 rc:∀{X:Cx}{pins:List (Addr×Obj)}{σ:St}{H:Hp}{s:Shared}{x y:V}{v u:Value}{a b:α}{A:Around},Inv X pins σ H s->X4 x v->X4 y u->r X.K H x a->r X.K H y b->A.units+d<cLine->SeqAt.RcAt A s v u (decide (a=b))
 ne:∀{X:Cx}{pins:List (Addr×Obj)}{σ:St}{H:Hp}{s:Shared}{x y:V}{v u:Value}{a b:α}{A:Around},Inv X pins σ H s->X4 x v->X4 y u->r X.K H x a->r X.K H y b->A.units+d<cLine->SeqAt.RcNeAt A s v u (!decide (a=b))
 keep:∀{K:PySem.W.Frag}{H H':Hp}{x:V}{a:α},Xv H H'->r K H x a->r K H' x a
theorem Qd (A:Around):A.in1.units=A.units+1:=rfl
theorem IT {a b:Int}:(a==b)=decide (a=b):=by rw[Bool.eq_iff_iff];simp
theorem eq_int:EqOk Xc 0 where
 uniq:=λ_ h1 h2=>by
  have h1':_=V.int _:=h1
  have h2':_=V.int _:=h2
  rw[h1'] at h2';injection h2'
 eq:=fun {X pins σ H s x y v u a b A} I rx ry h1 h2 _=>by
  have h1':x=V.int a:=h1
  have h2':y=V.int b:=h2
  subst h1' h2'
  obtain⟨t,rfl⟩:=rx
  obtain⟨t',rfl⟩:=ry
  rw[←IT];exact SeqAt.EqAt.int_int a t b t'
 rc:=fun {X pins σ H s x y v u a b A} I rx ry h1 h2 _=>by
  have h1':x=V.int a:=h1
  have h2':y=V.int b:=h2
  subst h1' h2'
  obtain⟨t,rfl⟩:=rx
  obtain⟨t',rfl⟩:=ry
  rw[←IT];exact SeqAt.RcAt.int_int a t b t'
 ne:=fun {X pins σ H s x y v u a b A} I rx ry h1 h2 _=>by
  have h1':x=V.int a:=h1
  have h2':y=V.int b:=h2
  subst h1' h2'
  obtain⟨t,rfl⟩:=rx
  obtain⟨t',rfl⟩:=ry
  rw[←IT];exact SeqAt.RcNeAt.int_int a t b t'
 keep:=λ_ h=>h
theorem BU {α:Type}[DecidableEq α]{as bs:List α}(h:as.length=bs.length):(List.range as.length).all (λj=>decide (as[j]?=bs[j]?))=decide (as=bs):=by
 rw[Bool.eq_iff_iff]
 simp only[List.all_eq_true,List.mem_range,decide_eq_true_eq]
 constructor
 ·intro hh
  apply List.ext_getElem?
  intro i
  by_cases hi:i<as.length
  ·exact hh i hi
  ·rw[List.getElem?_eq_none (by omega),List.getElem?_eq_none (by omega)]
 ·rintro rfl;intros;rfl
theorem Paired.uniq {α β:Type}{F:α->β->Prop}(hu:∀a b c,F a b->F a c->b=c):∀{l:List α}{m m':List β},Paired F l m->Paired F l m'->m=m':=fun {l m m'} p=>by
 induction p generalizing m' with
 |nil=>intro q;cases q;rfl
 |cons r _ ih=>intro q;cases q with |cons r' t'=>rw[hu _ _ _ r r',ih t']
theorem Paired.imp2 {α β:Type}{F G:α->β->Prop}(h:∀a b,F a b->G a b):∀{l:List α}{m:List β},Paired F l m->Paired G l m:=λp=>by
 induction p with
 |nil=>exact .nil
 |cons r _ ih=>exact .cons (h _ _ r) ih
section
variable {α:Type}[DecidableEq α]{r:Enc α}{d:Nat}
theorem Ul (E:EqOk r d){X:Cx}{pins:List (Addr×Obj)}{σ:St}{H:Hp}{s:Shared}{A:Around}(I:Inv X pins σ H s)(hu:A.units+(d+1)<cLine){xs ys:List V}{as bs:List α}{its its2:List Value}
  (r1:Ya xs its)(r2:Ya ys its2)(p1:Paired (r X.K H) xs as)(p2:Paired (r X.K H) ys bs):
  ∀j (h1:j<its.toArray.size) (h2:j<its2.toArray.size),SeqAt.EqAt A.in1 s its.toArray[j] its2.toArray[j] (decide (as[j]?=bs[j]?)):=by
 intro j h1 h2
 have h1':j<its.length:=by simpa using h1
 have h2':j<its2.length:=by simpa using h2
 obtain⟨x,ex,rx⟩:=Paired.getR (i:=j) (b:=its[j]) r1 (by simp[h1'])
 obtain⟨y,ey,ry⟩:=Paired.getR (i:=j) (b:=its2[j]) r2 (by simp[h2'])
 obtain⟨a,ea,ra⟩:=Paired.getL p1 ex
 obtain⟨b,eb,rb⟩:=Paired.getL p2 ey
 have:=E.eq (A:=A.in1) I rx ry ra rb (by rw[Qd];omega)
 rw[ea,eb]
 simpa using this
theorem Hi (E:EqOk r d):EqOk (rL r) (d+1):=by
 have un:∀{X:Cx}{pins:List (Addr×Obj)}{σ:St}{H:Hp}{s:Shared}{x:V}{a b:List α},Inv X pins σ H s->rL r X.K H x a->rL r X.K H x b->a=b:=by
  intro X pins σ H s x as bs I h1 h2
  obtain⟨a,xs,rfl,q1,p1⟩:=h1
  obtain⟨b,ys,e,q2,p2⟩:=h2
  cases e
  cases I.list_inj q1 q2
  exact Paired.uniq (F:=r X.K H) (λ_ _ _ z z'=>E.uniq I z z') p1 p2
 have rc:∀{X:Cx}{pins:List (Addr×Obj)}{σ:St}{H:Hp}{s:Shared}{x y:V}{v u:Value}{a b:List α}{A:Around},Inv X pins σ H s->X4 x v->X4 y u->rL r X.K H x a->rL r X.K H y b->A.units+(d+1)<cLine->SeqAt.RcAt A s v u (decide (a=b)):=by
  intro X pins σ H s x y v u as bs A I rx ry h1 h2 hu
  obtain⟨a,xs,rfl,q1,p1⟩:=h1
  obtain⟨b,ys,rfl,q2,p2⟩:=h2
  cases rx;cases ry
  obtain⟨its,r1,l1,_⟩:=I.list q1
  obtain⟨its2,r2,l2,_⟩:=I.list q2
  have n1:=r1.length
  have n2:=r2.length
  have m1:=Paired.len p1
  have m2:=Paired.len p2
  by_cases hl:as.length=bs.length
  ·have:=SeqAt.RcAt.lists (A:=A) (e:=λj=>decide (as[j]?=bs[j]?)) l1.isList l2.isList (by simp only[List.size_toArray];omega) (by omega) (Ul E I hu r1 r2 p1 p2)
   rw[show its.toArray.size=as.length by simp only[List.size_toArray];omega,BU hl] at this
   exact this
  ·rw[decide_eq_false (λe=>hl (congrArg List.length e))]
   exact SeqAt.RcAt.lists_lengths l1.isList l2.isList (by simp only[List.size_toArray,bne_iff_ne];omega) (by omega)
 refine⟨un,?_,rc,?_,?_⟩
 ·intro X pins σ H s x y v u as bs A I rx ry h1 h2 hu
  obtain⟨a,xs,rfl,q1,p1⟩:=id h1
  obtain⟨b,ys,rfl,q2,p2⟩:=id h2
  have R:=rc (A:=A) I rx ry h1 h2 hu
  cases rx;cases ry
  by_cases e:a=b
  ·subst e
   rw[decide_eq_true (un I h1 h2)]
   exact SeqAt.EqAt.same _
  ·exact SeqAt.EqAt.of_refs e R
 ·intro X pins σ H s x y v u as bs A I rx ry h1 h2 hu
  obtain⟨a,xs,rfl,q1,p1⟩:=h1
  obtain⟨b,ys,rfl,q2,p2⟩:=h2
  cases rx;cases ry
  obtain⟨its,r1,l1,_⟩:=I.list q1
  obtain⟨its2,r2,l2,_⟩:=I.list q2
  have n1:=r1.length
  have n2:=r2.length
  have m1:=Paired.len p1
  have m2:=Paired.len p2
  by_cases hl:as.length=bs.length
  ·have:=SeqAt.RcNeAt.lists (A:=A) (e:=λj=>decide (as[j]?=bs[j]?)) l1.isList l2.isList (by simp only[List.size_toArray];omega) (by omega) (Ul E I hu r1 r2 p1 p2)
   rw[show its.toArray.size=as.length by simp only[List.size_toArray];omega,BU hl] at this
   exact this
  ·rw[decide_eq_false (λe=>hl (congrArg List.length e))]
   exact SeqAt.RcNeAt.lists_lengths l1.isList l2.isList (by simp only[List.size_toArray,bne_iff_ne];omega) (by omega)
 ·intro K H H' x as e h
  obtain⟨a,xs,rfl,q1,p1⟩:=h
  exact⟨a,xs,rfl,e.seq q1,Paired.imp2 (λ_ _ z=>E.keep e z) p1⟩
end
section
variable {α β:Type}[DecidableEq α][DecidableEq β]{r:Enc α}{q:Enc β}{d:Nat}
end
section
variable {X:Cx}{α:Type}[DecidableEq α]{r:Enc α}{d:Nat}
noncomputable def P7 (K:PySem.W.Frag)(r:Enc α):R2:=λx y H Q=>∃ a b,r K H x a/\r K H y b/\Q (.bl (decide (a=b))) H
noncomputable def PJ (K:PySem.W.Frag)(r:Enc α):R2:=λx y H Q=>∃ a b,r K H x a/\r K H y b/\Q (.bl (!decide (a=b))) H
theorem N8 (E:EqOk r d)(hu:X.A.units+d<cLine):OpR X (compareOp .Eq) (P7 X.K r):=by
 intro pins s σ H x y v u Q I rx ry h
 obtain⟨a,b,h1,h2,q⟩:=h
 exact E.rc (A:=X.A) I rx ry h1 h2 hu _ _ _ _ ⟨.bl _,H,I,rfl,q⟩
theorem Ef (E:EqOk r d)(hu:X.A.units+d<cLine):OpR X (compareOp .NotEq) (PJ X.K r):=by
 intro pins s σ H x y v u Q I rx ry h
 obtain⟨a,b,h1,h2,q⟩:=h
 exact E.ne (A:=X.A) I rx ry h1 h2 hu _ _ _ _ ⟨.bl _,H,I,rfl,q⟩
theorem ZW:Z2 X (.builtin "isinstance") (λxs H Q=>∃ x n t b,xs=[x, .ty n]/\TyOf X.K H x t/\PySem.W.kitOne X.K t (.type n)=some b/\Q (.bl b) H):=by
 intro pins s σ H xs us Q I r h
 obtain⟨x,n,t,b,rfl,ty,e,q⟩:=h
 obtain⟨u,v,rfl,ru,rv⟩:=Ya.two r
 cases(show v=Value.type n from rv)
 exact BR I ru ty e λtk=>⟨.bl b,H,I.tok tk,rfl,q⟩
theorem Q4:OpR X (binaryOp .FloorDiv) (rI (λ_ j=>0<j/\j.natAbs.log2<9000) λi j=>.int (i/j)):=opI λi j _ _ _ _ _ hc q=>by
 refine floordiv_int (by omega) ?_ (.inl (PyProof.noPylong_of_log2 hc.2))
 rw[Int.fdiv_eq_ediv_of_nonneg i (by omega)]
 exact q
end
end L2
namespace PySem
open Sem (wp)
section
variable {prog:Program}{w:World}{A:Around}{E:Value->Shared->Prop}{s:Shared}
end
end PySem
namespace L2
open PySem PySem.Spec PyProof.Rows
theorem UL {α β:Type}{F:α->β->Prop}:∀{l:List α}{m:List β}{i:Nat}{b:β},Paired F l m->m[i]?=some b->∃a,l[i]?=some a/\F a b
 |_,_,_,_, .nil,e=>by simp at e
 |_,_,0,_, .cons r _,e=>by simp at e;subst e;exact⟨_,rfl,r⟩
 |_,_,i+1,b, .cons _ t,e=>by
  obtain⟨a,h1,h2⟩:=UL (i:=i) (b:=b) t (by simpa using e)
  exact⟨a,by simpa using h1,h2⟩
section
variable {X:Cx}{e:Expr}{te:TE}
noncomputable def RC (K:PySem.W.Frag):List V->Hp->VK->Prop:=λxs H Q=>∃ (a:Addr) (ns:List Int),xs=[.ref a]/\SqL K H a (ns.map V.int)/\Q (.int ns.sum) H
theorem EM (hc:X.calm=true):Z2 X (.builtin "sum") (RC X.K):=by
 intro pins s σ H xs us Q I r h
 obtain⟨a,ns,rfl,hq,q⟩:=h
 obtain⟨u,rfl,ru⟩:=UU r
 cases ru
 obtain⟨its,rv,pl,hz⟩:=I.list hq
 have hi:IntsAre its ns:=DS rv
 have hlen:=hi.length
 have hlt:a<s.heap.objs.size:=by obtain⟨o,n,ho,_⟩:=pl;exact Heap.lt_size ho
 refine call_sum_walkG ?_
 refine wpAny_pyIter_list pl.isList ?_
 have W:=Walks.list (prog:=X.prog) (w:=X.w) (A:=X.A.in1) (I.ok.hd hc) s.heap.objs.size a (Nat.ne_of_lt hlt) its.toArray
 refine⟨s.heap.objs.size,_,_,_,_,_,λi=>ns.getD i 0,rfl,W,⟨⟨_,Heap.get?_push_size _ rfl,rfl,rfl⟩,pl.isList.at λo e=>Heap.get?_push_of_some _ e⟩,λb hb=>?_,λi v hv=>?_,λh' tk t' hk=>?_⟩
 ·rcases List.mem_cons.mp hb with e |hb
  ·rw[e,Heap.size_push];exact Nat.lt_succ_self _
  ·rw[List.mem_singleton.mp hb,Heap.size_push];exact Nat.lt_succ_of_lt hlt
 ·have hv':its[i]?=some v:=by simpa using hv
  have hil:i<its.length:=(List.getElem?_eq_some_iff.mp hv').1
  obtain⟨x,ex,rx⟩:=UL rv hv'
  rw[List.getElem?_map] at ex
  cases e:ns[i]? with
  |none=>rw[e] at ex;cases ex
  |some z=>
   rw[e] at ex
   have ex':V.int z=x:=Option.some.inj ex
   subst ex'
   obtain⟨t,rfl⟩:=rx
   exact⟨t,by simp[List.getD,e]⟩
 ·have I2:Inv X pins σ H {s with heap:=h',toks:=tk}:=I.kept (t':=tk) λb o e=>hk b o (λhm=>by
   rw[List.mem_singleton.mp hm] at e
   exact absurd (Heap.lt_size e) (Nat.lt_irrefl _)) (Heap.get?_push_of_some _ e)
  refine⟨.int ns.sum,H,I2,⟨t',?_⟩,q⟩
  rw[List.size_toArray,hlen,preSum_getD,List.take_length]
end
section
variable {X:Cx}{pins:List (Addr×Obj)}{σ:St}{H:Hp}{s:Shared}{h':Heap}
theorem Inv.turnLay {t':Nat}{ch:List Addr}{T:Addr}{u:HO}(I:Inv X pins σ H s)(k:∀b o,b∉ch->s.heap.get? b=some o->h'.get? b=some o)(hf:∀b∈ch,CZ X pins H b)
  (hp:s.heap.objs.size<=T)(new:YG X.prog X.w (upd H T u) h' T u):Inv X pins σ (upd H T u) {s with heap:=h',toks:=t'}:=by
 have hn:H T=none:=I.hok.fresh hp
 have nit:∀b o,H b=some o->b∉ch:=λb o e z=>by rw[(hf b z).1] at e;cases e
 refine I.step (g':=s.gens) (d':=s.drawn) (ch:=ch) (λb hb=>?_) (λb o _ _ hc e _=>k b o hc e) (λb o _ _ hc e _=>⟨o.slots,k b o hc e⟩)
  (λb o _ e n=>by rw[XL (Nat.ne_of_lt (Nat.lt_of_lt_of_le (Heap.lt_size e) hp))];exact n)
  (λb o hc e=>⟨o,k b o hc e⟩) (λb xs e=>by rw[XL (XR e hn)];exact e) (λb o xs e=>by rw[XL (XR e hn)];exact e) (λb ps e=>⟨#[],by rw[XL (XR e hn),e];simp⟩) (λm hm=>?_) (λb v e=>?_) I.bare
 ·obtain⟨f0,f1,f2,f3,f4,f5⟩:=hf b hb
  exact⟨f3,f1,f4,f5⟩
 ·obtain⟨o,es,ep,ho,r⟩:=hm
  exact⟨o,es,ep,k _ o (λz=>(hf _ z).2.1 rfl) ho,r⟩
 ·by_cases hb:b=T
  ·subst hb;rw[Yd] at e;cases e;exact new
  ·rw[XL hb] at e
   refine(I.hok b v e).stay (λc o hc q=>k c o ?_ q) (λc q=>by rw[XL (XR q hn)];exact q) λc xs q=>by rw[XL (XR q hn)];exact q
   rcases hc with z |z
   ·rw[z];exact nit b v e
   ·exact nit c _ z
end
noncomputable def Ite (K:PySem.W.Frag)(a:Addr):It:=
 ⟨λi H=>∃ xs x,SqL K H a xs/\xs[i]?=some x,λi H y H'=>∃ p x,y= .ref p/\H p=none/\H'=upd H p (.tup [.int (i:Int),x])/\∀xs,SqL K H a xs->xs[i]?=some x,λi H=>∃ xs,SqL K H a xs/\xs.length<=i⟩
theorem BT {P:Program}{w:World}{K:PySem.W.Frag}{elts:List Expr}{k:Nat}{pos:Pos}(a e it:Addr)(h1:e≠it)(h2:a≠e)(h3:a≠it):
  Turn P w K (.Tuple elts k pos) (Ite K a) [e,it] e (λi h=>(∃old,IsEnum h e it (i:Int) old)/\h.IsListIter it a i) where
 mem:=by simp
 obj:=λi h st b hb=>by
  obtain⟨⟨old,eo⟩,o,io,c,d⟩:=st
  rcases List.mem_cons.mp hb with z |z
  ·subst z
   exact⟨_,eo,λv z=>by cases z⟩
  ·have z:=List.mem_singleton.mp z
   subst z
   exact⟨o,io,λv z=>by rw[d] at z;cases z⟩
 keep:=λi h h' st k=>⟨let ⟨old,eo⟩:=st.1;⟨old,k e (by simp) _ eo⟩,st.2.at λo q=>k it (by simp) o q⟩
 item:=by
  intro X hP hw hK hc i pins s σ H E I hf st hg
  subst hP hw hK
  obtain⟨xs,x,hq,hx⟩:=hg
  obtain⟨its,rv,p,hz⟩:=I.list hq
  obtain⟨u,hu,ru⟩:=rv.get hx
  obtain⟨⟨old,eo⟩,io⟩:=id st
  have hu':its.toArray[i]?=some u:=by simpa using hu
  have W:=WalksT.enumerate (prog:=X.prog) (w:=X.w) (A:=X.A) (I.ok.hd hc) e it a h1 h2 h3 its.toArray
  refine wpAny_pyNext_enum_item eo io p.isList hu' h1 λh' eo' io' tup sz kk=>?_
  have hT:∀b o,s.heap.get? b=some o->s.heap.objs.size≠b:=λb o q z=>absurd (Heap.lt_size q) (by rw[←z];exact Nat.lt_irrefl _)
  have hTe:=hT e _ eo
  have hTi:s.heap.objs.size≠it:=by obtain⟨o,q,_⟩:=io;exact hT it o q
  have ha':h'.IsList a its.toArray:=p.isList.at λo q=>kk a o h2 h3 q
  refine⟨_,rfl,W.go elts k pos i s.heap.objs.size _ _ _ ⟨⟨_,eo'⟩,io',ha',hTe,hTi⟩ λh'' st' kk'=>?_⟩
  obtain⟨st2,io2,_⟩:=st'
  have tup2:=kk' _ _ (by simp[hTe,hTi]) tup
  have k2:∀b o,b∉ [e,it]->s.heap.get? b=some o->h''.get? b=some o:=λb o q1 q=>kk' b o q1 (kk b o (λz=>q1 (by simp[z])) (λz=>q1 (by simp[z])) q)
  refine⟨.ref s.heap.objs.size,upd H s.heap.objs.size (.tup [.int (i:Int),x]),I.turnLay (h':=h'') (t':=s.toks+1) k2 hf (Nat.le_refl _) ⟨by show 2<=sizeLine;decide,[.int (i:Int) s.toks,u], .cons ⟨_,rfl⟩ (.cons ru .nil),⟨_,tup2,⟨rfl,rfl⟩,_,rfl⟩⟩,rfl,
   ⟨_,x,rfl,I.hok.fresh (Nat.le_refl _),rfl,λys hy=>by rw[I.list_inj hy hq];exact hx⟩,⟨by simpa using st2,io2⟩,λb hb=>?_⟩
  rcases List.mem_cons.mp hb with z |z
  ·rw[z,XL hTe.symm];exact(hf e (by simp)).1
  ·rw[List.mem_singleton.mp z,XL hTi.symm];exact(hf it (by simp)).1
 done:=by
  intro X hP hw hK hc i pins s σ H E I hf st hg
  subst hP hw hK
  obtain⟨xs,hq,hx⟩:=hg
  obtain⟨its,rv,p,hz⟩:=I.list hq
  obtain⟨⟨old,eo⟩,io⟩:=id st
  obtain⟨f0,f1,f2,f3,f4,f5⟩:=hf it (by simp)
  have hl:=rv.length
  exact wpAny_pyNext_enum_end (I.ok.hd hc) eo io p.isList (by simp;omega) λh' eb=>⟨rfl,I.turned (t':=s.toks) (λb o hb q=>eb b o hb q) f0 f1 f3 f4 f5⟩
 self:=by
  intro A i s Q E st h
  obtain⟨⟨old,eo⟩,io⟩:=st
  exact wpAny_pyIter_enum eo h
section
variable {X:Cx}{elts:List Expr}{k:Nat}{pos0:Pos}
noncomputable def O1 (K:PySem.W.Frag)(tl:TE):TI:=λσ H R=>tl σ H λx H1=>∃ a,x= .ref a/\(∃xs,SqL K H1 a xs)/\R (Ite K a) H1
theorem Mc {l:Expr}{tl:TE}{p pos:Pos}(hg:Gl X "enumerate")(hm:X.mg "enumerate" =none)(hl:PE X l tl)(hs:starEach [l] X.env=[(false,eval l X.env)]:=by rfl):
  PI X (.Tuple elts k pos0) (.Call (.Name "enumerate" p) [l] [] pos) (O1 X.K tl):=by
 intro pins s σ H R I h
 refine wpAny_Call_Name_kw (Vg I hg hm boot_enumerate ?_)
 refine PyProof.Rows.callWith_type1 ?_ hs rfl
 rw[hs]
 show wpAny _ _ (spliced ((false,eval l X.env)::backTo pos [])) _ _ s
 refine Calls.spliced_cons (thn (hl pins s σ H _ I h) λv s1 ⟨x,H1,I1,r1,a,ex,⟨xs,hq⟩,q⟩=>?_)
 subst ex
 cases r1
 obtain⟨its,rv,pl,hz⟩:=I1.list hq
 refine Calls.spliced_nil ?_
 have hlt:a<s1.heap.objs.size:=by obtain⟨o,n,ho,_⟩:=pl;exact Heap.lt_size ho
 refine call_enumerate_list pl.isList λh' en io sz kk=>?_
 refine wpAny_pyIter_enum en ?_
 refine⟨_,[s1.heap.objs.size+1,s1.heap.objs.size],_,_,H1,rfl,I1.kept (t':=s1.toks) kk,BT a _ _ (Nat.ne_of_gt (Nat.lt_succ_self _)) (Nat.ne_of_lt (Nat.lt_succ_of_lt hlt)) (Nat.ne_of_lt hlt),⟨⟨_,en⟩,io⟩,λb hb=>?_,q⟩
 have hb':s1.heap.objs.size<=b:=by
  rcases List.mem_cons.mp hb with z |z
  ·rw[z];exact Nat.le_succ _
  ·rw[List.mem_singleton.mp z];exact Nat.le_refl _
 exact I1.fpOk hb' (I1.hok.fresh hb')
end
noncomputable def BN (K:PySem.W.Frag):V->List V->Hp->VK->Prop:=λx vs H Q=>∃ l xs y,∃j:Nat,x= .ref l/\vs=[y]/\SqL K H l xs/\JP y=true/\xs.all JP=true/\(∃z,xs[j]?=some z/\eqV z y=true)/\(∀(m:Nat) z,m<j->xs[m]?=some z->eqV z y=false)/\Q (.int (j:Int)) H
section
variable {X:Cx}
theorem I9:MtR X "list.index" (BN X.K):=by
 intro pins s σ H x vs v us Q I rx rv h
 obtain⟨l,xs,y,j,rfl,rfl,hq,fy,fs,⟨z,hz,ez⟩,hm,q⟩:=h
 cases rx
 obtain⟨u,rfl,ry⟩:=Ya.one rv
 obtain⟨its,r,pl,hle⟩:=I.list hq
 have hl:=r.length
 have hjl:=(List.getElem?_eq_some_iff.mp hz).1
 have ge:∀(m:Nat) (w:V),xs[m]?=some w->∀hm:m<its.toArray.size,eqU y its.toArray[m]=eqV w y:=λm w hw hm=>by
  obtain⟨u',hu',ru'⟩:=r.get hw
  have e:its.toArray[m]=u':=by
   have:=(List.getElem?_eq_some_iff.mp hu').2
   simpa using this
  rw[e]
  exact Eb ru' (List.all_eq_true.mp fs w (List.mem_of_getElem? hw))
 obtain⟨o,n,ho,hc,hd,hs⟩:=id pl
 obtain⟨cls,dict,data,slots⟩:=o
 cases hc;cases hd;cases hs
 refine call_meets F.slot_list_index ⟨_,ho,rfl⟩ F.entry_list_index (F.args_list_index_2 _ _) (SeqAt.list_indexAt l its.toArray n none slots u (eqU y) j (by rw[List.size_toArray];omega) ?_ ?_ ?_) ⟨ho,λw hw=>JS ry fy r fs w (by simpa using hw),?_⟩
 ·have:sizeLine<2^63-1:=by decide
  omega
 ·rw[ge j z hz];exact ez
 ·intro m hm' hlt
  rw[ge m xs[m] (List.getElem?_eq_getElem (by omega))]
  exact hm m _ hlt (List.getElem?_eq_getElem (by omega))
 ·exact⟨.int (j:Int),H,I.tok _,⟨_,rfl⟩,q⟩
end
section
variable {α:Type}[DecidableEq α]{r:Enc α}{d:Nat}
end
section
variable {X:Cx}{o e f:Expr}{td ty tx:TE}{apos cpos:Pos}
end
section
variable {X:Cx}{elt tg iter:Expr}{ifs:List Expr}{scope sc:Scope}{pos:Pos}{n:Nat}{tns:List Str}{caps:List (Nat×Str)}{wi:TI}{g:TG}{tt:TT}{te:TE}
end
theorem Vl:∀(xs:List V) (us:List Value),xs.length=us.length->(∀(j:Nat) x u,xs[j]?=some x->us[j]?=some u->X4 x u)->Ya xs us
 | [],[],_,_=>.nil
 | [],_::_,h,_=>by simp at h
 |_::_,[],h,_=>by simp at h
 |x::xs,u::us,h,r=>.cons (r 0 x u rfl rfl) (Vl xs us (by simpa using h) λj y v e1 e2=>r (j+1) y v (by simpa using e1) (by simpa using e2))
noncomputable def FV (ta:TA):TE:=λσ H Q=>ta σ H λvs H1=>∃ j:Int,vs=[.int j]/\0<=j/\j<=1000/\∀p,H1 p=none->Q (.ref p) (upd H1 p (.lst ((List.range j.toNat).map λi=>V.int ((i:Nat):Int))))
variable {X:Cx}
theorem Gi {e:Expr}{ta:TA}{p q q2 pos:Pos}(hc:X.calm=true)(hg:Gl X "list")(hg2:Gl X "range")(hm:X.mg "list" =none)(hm2:X.mg "range" =none)(ha:PA X [e] ta)
  (hs:starEach [.Call (.Name "range" q) [e] [] q2] X.env=[(false,eval (.Call (.Name "range" q) [e] [] q2) X.env)]:=by rfl)(hs2:starEach [e] X.env=[(false,eval e X.env)]:=by rfl):
  PE X (.Call (.Name "list" p) [.Call (.Name "range" q) [e] [] q2] [] pos) (FV ta):=by
 intro pins s σ H Q I h
 refine wpAny_Call_Name_kw (Vg I hg hm PyProof.Rows.boot_list ?_)
 refine PyProof.Rows.callWith_type1 ?_ hs rfl
 rw[hs]
 show wpAny _ _ (spliced ((false,eval (.Call (.Name "range" q) [e] [] q2) X.env)::backTo pos [])) _ _ s
 refine Calls.spliced_cons ?_
 refine wpAny_Call_Name_kw (Vg I hg2 hm2 boot_range ?_)
 refine PyProof.Rows.callWith_type1 (thn (ha q2 pins s σ H _ I h) λus s1 r9=>?_) hs2 rfl
 obtain⟨vs,H1,I1,r1,q1⟩:=r9
 obtain⟨j,e,h0,h1,k⟩:=q1
 subst e
 cases r1 with
 |cons r rr=>
  cases rr
  obtain⟨t,rfl⟩:=r
  refine call_range_1 ?_
  refine Calls.spliced_nil ?_
  refine call_list_range (n:=j.toNat) (I.ok.hd hc) (IsRange.new ..) (small_one (by omega) (by omega) (by omega) (by omega)) (by rw[rangeSize_one];split<;> omega) (by omega) λh' tk acc' c' hk hS hacc=>?_
  refine⟨.ref _,_,I1.laid (h':=h') (t':=tk) (o:=.lst ((List.range j.toNat).map λi=>V.int ((i:Nat):Int))) (λb o e=>hk b o (Heap.get?_push_of_some _ e)) (by rw[Heap.size_push];exact Nat.le_succ _) ?_,rfl,k _ (I1.hok.fresh (by rw[Heap.size_push];exact Nat.le_succ _))⟩
  refine⟨by rw[List.length_map,List.length_range];exact Nat.le_of_lt (BJ (by omega)),acc'.toList,c',Vl _ _ (by simp[hacc.1]) λi x u e1 e2=>?_,hS⟩
  have e2':acc'[i]?=some u:=by simpa using e2
  obtain⟨tk,rfl⟩:=hacc.2 i u e2'
  rw[List.getElem?_map] at e1
  cases e3:(List.range j.toNat)[i]? with
  |none=>rw[e3] at e1;cases e1
  |some z=>
   rw[e3] at e1
   have hz:z=i:=by
    have hi:i<j.toNat:=by have:=(List.getElem?_eq_some_iff.mp e3).1;simpa using this
    rw[List.getElem?_range hi] at e3
    exact(Option.some.inj e3).symm
   subst hz
   have:x=V.int (z:Int):=(Option.some.inj e1).symm
   subst this
   exact⟨tk,by simp⟩
theorem Q5 {l:List Expr}{p:Pos}{es:List Expr}{env:Env}:starEach (.List l p::es) env=(false,eval (.List l p) env)::starEach es env:=rfl
theorem Ku {X:Cx}{l:List Expr}{p:Pos}{es:List Expr}{te:TE}{t:TA}(ha:PE X (.List l p) te)(hr:PA X es t):PA X (.List l p::es) (Xo te t):=Xb ha hr Q5
theorem KU {X:Cx}(K:PySem.W.Frag)(h:X.K=K):MtR X "list.index" (BN K):=by subst h;exact I9
variable {X:Cx}{o e:Expr}{es:List Expr}{to:TE}{t:TA}{name:Str}{apos cpos:Pos}{T id:String}{r:V->List V->Hp->VK->Prop}
theorem Ob (K:PySem.W.Frag)(hK:X.K=K)(pa:PlainAttrs T)(slot:Slot T name id)(hty:typeOf (.builtin id)=pure (.type "method_descriptor"))(hm:MtR X id r)(ho:PE X o to)(ha:PA X (e::es) t)
  (hbase:attributeBase o name X.env (eval o X.env)=eval o X.env:=by rfl)
  (hfew:((backTo cpos (starEach (e::es) X.env)).all (λx=>!x.1)&&(backToKw cpos (keywordEach [] X.env)).all (λx=>x.1.isSome)
   &&decide ((e::es).length+([]:List Keyword).length+(if([]:List Keyword).isEmpty then 0 else 1)<30))=true:=by rfl)
  (hline:(apos.endLine==cpos.line)=true:=by rfl)(hs:starEach (e::es) X.env=(false,eval e X.env)::starEach es X.env:=by rfl)(hplain:(backTo cpos (starEach es X.env)).any (·.1)=false:=by rfl):
  PE X (.Call (.Attribute o name apos) (e::es) [] cpos) (tBM K T r to t):=by
 subst hK
 exact YO pa slot hty hm ho ha hbase hfew hline hs hplain
end L2
namespace PySem
open PySem.Spec
namespace SeqAt
open MeetsSeq
end SeqAt
end PySem
namespace L2
open PySem PySem.Spec PyProof.Rows
section
variable {X:Cx}
end
noncomputable def Rz (K:PySem.W.Frag):List V->Hp->VK->Prop:=λxs H Q=>∃ (a:Addr) (bs:List Bool),xs=[.ref a]/\SqL K H a (bs.map V.bl)/\Q (.bl (bs.all id)) H
section
variable {X:Cx}
theorem OJ:∀(bs:List Bool),((List.range bs.length).all λi=>(bs[i]?).getD true)=bs.all id:=λbs=>by
 rw[Bool.eq_iff_iff,List.all_eq_true,List.all_eq_true]
 constructor
 ·intro h b hb
  obtain⟨i,hi,rfl⟩:=List.getElem_of_mem hb
  have:=h i (List.mem_range.mpr hi)
  simpa[List.getElem?_eq_getElem hi] using this
 ·intro h i hi
  have hi':=List.mem_range.mp hi
  simpa[List.getElem?_eq_getElem hi'] using h _ (List.getElem_mem hi')
theorem E9 (hc:X.calm=true):Z2 X (.builtin "all") (Rz X.K):=by
 intro pins s σ H xs us Q I r h
 obtain⟨a,bs,rfl,hq,q⟩:=h
 obtain⟨u,rfl,ru⟩:=UU r
 cases ru
 obtain⟨its,rv,pl,hz⟩:=I.list hq
 have hlen:bs.length=its.length:=by have:=rv.length;rwa [List.length_map] at this
 have hlt:a<s.heap.objs.size:=by obtain⟨o,n,ho,_⟩:=pl;exact Heap.lt_size ho
 refine call_all_walk (wpAny_pyIter_list pl.isList ?_)
 refine⟨s.heap.objs.size,[s.heap.objs.size,a],[s.heap.objs.size],its.toArray.size,_,_,λi=>(bs[i]?).getD true,rfl,Walks.list (A:=X.A.in1) (I.ok.hd hc) _ a (Nat.ne_of_lt hlt) its.toArray,
  ⟨⟨_,Heap.get?_push_size _ rfl,rfl,rfl⟩,pl.isList.at λo e=>Heap.get?_push_of_some _ e⟩,λi v s' Q' E' hP hQ=>?_,λh' tk hk=>?_⟩
 ·have hv':its[i]?=some v:=by simpa using hP
  obtain⟨x,ex,rx⟩:=UL rv hv'
  rw[List.getElem?_map] at ex
  cases e:bs[i]? with
  |none=>rw[e] at ex;cases ex
  |some z=>
   rw[e] at ex
   have ex':V.bl z=x:=Option.some.inj ex
   subst ex'
   cases rx
   simp only[e,Option.getD_some] at hQ
   exact wpAny_truthy_bool hQ
 ·have e:((List.range its.toArray.size).all λi=>(bs[i]?).getD true)=bs.all id:=by
   rw[List.size_toArray, ←hlen];exact OJ bs
  rw[e]
  have I2:Inv X pins σ H {s with heap:=h',toks:=tk}:=I.kept (t':=tk) λb o e=>hk b o (λhm=>by
   rw[List.mem_singleton.mp hm] at e
   exact absurd (Heap.lt_size e) (Nat.lt_irrefl _)) (Heap.get?_push_of_some _ e)
  exact⟨.bl (bs.all id),H,I2,rfl,q⟩
end
section
variable {X:Cx}{α:Type}[DecidableEq α]{r:Enc α}{d:Nat}
end
section
variable {X:Cx}
end
section
variable {X:Cx}
variable {T:String}{name:Str}{id:String}{r:V->List V->Hp->VK->Prop}{o e:Expr}{es:List Expr}{to:TE}{t:TA}{apos cpos:Pos}
theorem Lq {K:PySem.W.Frag}(hK:X.K=K)(pa:PlainAttrs T)(slot:Slot T name id)(hty:typeOf (.builtin id)=pure (.type "method_descriptor"))(hm:MtR X id r)(ho:PE X o to)(ha:PA X (e::es) t)
  (hbase:attributeBase o name X.env (eval o X.env)=eval o X.env:=by rfl)
  (hfew:((backTo cpos (starEach (e::es) X.env)).all (λx=>!x.1)&&(backToKw cpos (keywordEach [] X.env)).all (λx=>x.1.isSome)
   &&decide ((e::es).length+([]:List Keyword).length+(if([]:List Keyword).isEmpty then 0 else 1)<30))=true:=by rfl)
  (hline:(apos.endLine==cpos.line)=true:=by rfl)(hs:starEach (e::es) X.env=(false,eval e X.env)::starEach es X.env:=by rfl)(hplain:(backTo cpos (starEach es X.env)).any (·.1)=false:=by rfl):
  PE X (.Call (.Attribute o name apos) (e::es) [] cpos) (tBM K T r to t):=Ob K hK pa slot hty hm ho ha hbase hfew hline hs hplain
end
section
variable {X:Cx}{elt tg iter:Expr}{ifs:List Expr}{scope:Scope}{pos:Pos}{wi:TI}{g:TG}{tt:TT}{te:TE}
theorem YK {sc:Scope}{N0:List Str}{tns:List Str}{caps:List (Nat×Str)}(hc:X.calm=true)(hi:PI X tg iter wi)(hG:Kz tns.length g)
  (hb:∀cl C s H ex E,PG (X.comp (tns++caps.map (·.2)) scope cl C s H ex E) tg g/\PTs (X.comp (tns++caps.map (·.2)) scope cl C s H ex E) ifs tt/\PE (X.comp (tns++caps.map (·.2)) scope cl C s H ex E) elt te)
  (hsc:X.env.scope=sc:=by rfl)(hN0:X.N=N0:=by rfl)(ok:Gm sc scope N0 tns caps=true:=by decide+kernel)
  (hs:∀x,foldedSetIterable iter X.env x=pure x:=by intro _;rfl):
  PE X (.ListComp elt [⟨tg,iter,ifs,0⟩] scope pos) (Hn tns.length caps wi g tt te):=LZ sc N0 tns caps hc hi hG hb hsc hN0 ok hs
end
section
variable {X:Cx}{tg l:Expr}{tl:TE}{p pos:Pos}{K:PySem.W.Frag}
theorem Xy (h:X.K=K)(hl:PE X l tl):PI X tg l (Ir K tl):=by subst h;exact Np hl
end
noncomputable def K0:List Int->Int
 | []=>0
 |a::r=>r.foldl max a
theorem Du (ns:List Int):∀k,k<ns.length->ns.getD (argBest (λi j=>decide (ns.getD i 0 > ns.getD j 0)) k) 0=K0 (ns.take (k+1))
 |0,h=>by
  cases ns with
  |nil=>simp at h
  |cons a r=>simp[argBest,K0]
 |k+1,h=>by
  have ih:=Du ns k (by omega)
  have e:K0 (ns.take (k+1+1))=max (K0 (ns.take (k+1))) (ns.getD (k+1) 0):=by
   rw[List.take_succ_eq_append_getElem h]
   cases ns with
   |nil=>simp at h
   |cons a r=>
    rw[List.take_succ_cons]
    simp only[K0,List.cons_append,List.foldl_append,List.foldl_cons,List.foldl_nil]
    rw[List.getD_eq_getElem?_getD,List.getElem?_eq_getElem h]
    rfl
  rw[e, ←ih]
  show ns.getD (if(decide (ns.getD (k+1) 0 > ns.getD (argBest _ k) 0))=true then k+1 else argBest _ k) 0=_
  by_cases hc:ns.getD (k+1) 0 > ns.getD (argBest (λi j=>decide (ns.getD i 0 > ns.getD j 0)) k) 0
  ·rw[if_pos (by simpa using hc)];omega
  ·rw[if_neg (by simpa using hc)];omega
section
variable {X:Cx}
theorem BQ {its:List Value}{ns:List Int}(rv:Ya (ns.map V.int) its):∀(i:Nat) (v:Value),its.toArray[i]?=some v->∃t,v=Value.int (ns.getD i 0) t:=λi v hv=>by
 have hv':its[i]?=some v:=by simpa using hv
 obtain⟨x,ex,rx⟩:=UL rv hv'
 rw[List.getElem?_map] at ex
 cases e:ns[i]? with
 |none=>rw[e] at ex;cases ex
 |some z=>
  rw[e] at ex
  have ex':V.int z=x:=Option.some.inj ex
  subst ex'
  obtain⟨t,rfl⟩:=rx
  exact⟨t,by simp[List.getD,e]⟩
noncomputable def Oq (K:PySem.W.Frag)(f:List Int->Int):List V->Hp->VK->Prop:=λxs H Q=>∃ (a:Addr) (ns:List Int),xs=[.ref a]/\SqT K H a (ns.map V.int)/\0<ns.length/\Q (.int (f ns)) H
theorem Gy (K:PySem.W.Frag)(hK:X.K=K)(hc:X.calm=true):Z2 X (.builtin "max") (Oq K K0):=by
 subst hK
 intro pins s σ H xs us Q I r h
 obtain⟨a,ns,rfl,hq,hne,q⟩:=h
 obtain⟨u,rfl,ru⟩:=UU r
 cases ru
 obtain⟨its,rv,pl,hz⟩:=I.tuple hq
 have hlen:its.length=ns.length:=by have:=rv.length;simpa using this.symm
 have hlt:a<s.heap.objs.size:=by obtain⟨o,ho,_⟩:=pl;exact Heap.lt_size ho
 refine call_max_walk (wpAny_pyIter_tuple pl ?_)
 refine⟨s.heap.objs.size,_,_,_,_,_,_,rfl,Walks.tuple (prog:=X.prog) (w:=X.w) (A:=X.A.in1) (I.ok.hd hc) s.heap.objs.size a (Nat.ne_of_lt hlt) its.toArray,⟨⟨_,Heap.get?_push_size _ rfl,rfl,rfl⟩,(show s.heap.IsTuple a its.toArray from pl).at λo e=>Heap.get?_push_of_some _ e⟩,λb hb=>?_,by rw[List.size_toArray,hlen];exact hne,CmpOf.ints_gt (λi=>ns.getD i 0) (BQ rv),λv h' tk hP hk=>?_⟩
 ·rcases List.mem_cons.mp hb with e |hb
  ·rw[e,Heap.size_push];exact Nat.lt_succ_self _
  ·rw[List.mem_singleton.mp hb,Heap.size_push];exact Nat.lt_succ_of_lt hlt
 ·have I2:Inv X pins σ H {s with heap:=h',toks:=tk}:=I.kept (t':=tk) λb o e=>hk b o (λhm=>by
   rw[List.mem_singleton.mp hm] at e
   exact absurd (Heap.lt_size e) (Nat.lt_irrefl _)) (Heap.get?_push_of_some _ e)
  obtain⟨t,rfl⟩:=BQ rv _ _ hP
  refine⟨.int (K0 ns),H,I2,⟨t,?_⟩,q⟩
  rw[List.size_toArray,hlen,Du ns (ns.length-1) (by omega),show ns.length-1+1=ns.length by omega,List.take_length]
theorem Nl (K:PySem.W.Frag)(h:X.K=K):SlR X (Pq K):=by subst h;exact OC
end
inductive Pay where
 |non |int (i:Int) |tag (t:Str) (xs:List Int)
 deriving DecidableEq
structure Exc where
 cls:Str
 pay:Pay
inductive Rs (α:Type) where
 |bad |err (x:Exc) |ok (a:α)
noncomputable def Rs.bind {α β:Type}:Rs α->(α->Rs β)->Rs β
 | .bad,_=>.bad
 | .err x,_=>.err x
 | .ok a,f=>f a
theorem Rs.ok_bind {α β:Type}(a:α)(f:α->Rs β):(Rs.ok a).bind f=f a:=rfl
noncomputable def chk {α:Type}(c:Prop)[Decidable c](m:Rs α):Rs α:=if c then m else .bad
theorem Xr {α:Type}{c:Prop}[Decidable c]{m:Rs α}(h:c):chk c m=m:=if_pos h
noncomputable abbrev Xq:=Addr×HO
noncomputable def NV:HO->Bool
 | .lst _=>true
 | .dK _=>true
 | .dT _=>true
 |_=>false
noncomputable def fl (OO:List (List Xq)):List Addr:=OO.flatten.map (·.1)
open Classical in
noncomputable def hid (H:Hp)(OO:List (List Xq)):Hp:=λb=>if b∈fl OO then none else H b
structure W (OO:List (List Xq))(H:Hp):Prop where
 tr:∀c∈OO.flatten,H c.1=some c.2
 nd:(fl OO).Nodup
 mu:∀c∈OO.flatten,NV c.2=true
theorem X1 {H:Hp}{OO}{b:Addr}{o:HO}(h:hid H OO b=some o):H b=some o/\b∉fl OO:=by
 unfold hid at h
 split at h
 ·cases h
 ·exact⟨h,by assumption⟩
theorem Zg {H:Hp}{OO}{b:Addr}{o:HO}(h:H b=some o)(n:b∉fl OO):hid H OO b=some o:=by
 unfold hid;rw[if_neg n];exact h
theorem Xz {H:Hp}{OO}:Xv (hid H OO) H:=λb o h=>(X1 h).1
theorem Xi {H H':Hp}{OO}(s:Xv H H'):Xv (hid H OO) (hid H' OO):=λb o h=>Zg (s _ _ (X1 h).1) (X1 h).2
theorem Qh {H H':Hp}{OO OO'}(s:Xv H H')(h:∀b,b∈fl OO'->b∈fl OO):Xv (hid H OO) (hid H' OO'):=λb o q=>Zg (s _ _ (X1 q).1) λz=>(X1 q).2 (h b z)
theorem XX {C:List Xq}{OO}:fl (C::OO)=C.map (·.1)++fl OO:=by simp[fl]
theorem Eg {OO}:fl ([]::OO)=fl OO:=by simp[fl]
theorem Y7 {H:Hp}{OO}:hid H ([]::OO)=hid H OO:=by unfold hid;rw[Eg]
theorem W.keep {OO}{H H':Hp}(w:W OO H)(s:Xv H H'):W OO H':=⟨λc hc=>s _ _ (w.tr c hc),w.nd,w.mu⟩
theorem W.of {OO OO':List (List Xq)}{H:Hp}(w:W OO H)(h:OO'.flatten.Perm OO.flatten):W OO' H:=
 ⟨λc hc=>w.tr c (h.mem_iff.mp hc),(h.map _).nodup_iff.mpr w.nd,λc hc=>w.mu c (h.mem_iff.mp hc)⟩
theorem W.sub {OO OO':List (List Xq)}{H:Hp}(w:W OO H)(h:OO'.flatten.Sublist OO.flatten):W OO' H:=
 ⟨λc hc=>w.tr c (h.mem hc),(h.map _).nodup w.nd,λc hc=>w.mu c (h.mem hc)⟩
theorem W.tail {C OO}{H:Hp}(w:W (C::OO) H):W OO H:=w.sub (by simp)
theorem W.nil {OO}{H:Hp}(w:W OO H):W ([]::OO) H:=w.of (by simp)
theorem W.cell {C OO}{H:Hp}(w:W (C::OO) H):∀c∈C,H c.1=some c.2:=λc hc=>w.tr c (by simp[hc])
theorem Uf {OO:List (List Xq)}{c:Xq}(h:c∈OO.flatten):c.1∈fl OO:=List.mem_map.mpr ⟨c,h,rfl⟩
theorem Cg {OO:List (List Xq)}{b:Addr}(h:b∈fl OO):∃o,(b,o)∈OO.flatten:=by
 obtain⟨⟨a,o⟩,hc,rfl⟩:=List.mem_map.mp h
 exact⟨o,hc⟩
theorem W.fresh {OO}{H:Hp}(w:W OO H){p:Addr}(h:H p=none):p∉fl OO:=λz=>by
 obtain⟨o,ho⟩:=Cg z
 have:=w.tr _ ho
 rw[h] at this;cases this
theorem W.new {OO}{H:Hp}(w:W OO H){p:Addr}(h:H p=none){o:HO}(m:NV o=true):W ([(p,o)]::OO) (upd H p o):=by
 have hf:=w.fresh h
 refine⟨λc hc=>?_,?_,λc hc=>?_⟩
 ·simp only[List.flatten_cons,List.cons_append,List.nil_append,List.mem_cons] at hc
  rcases hc with rfl |hc
  ·exact Yd
  ·rw[XL (λe=>hf (by rw[←e];exact Uf hc))];exact w.tr c hc
 ·rw[XX];simpa using ⟨hf,w.nd⟩
 ·simp only[List.flatten_cons,List.cons_append,List.nil_append,List.mem_cons] at hc
  rcases hc with rfl |hc
  ·exact m
  ·exact w.mu c hc
theorem VC {OO}{H:Hp}{p:Addr}(h:H p=none){o:HO}:Xv (hid H OO) (hid (upd H p o) ([(p,o)]::OO)):=λb u q=>by
 obtain⟨q1,q2⟩:=X1 q
 have hb:b≠p:=XR q1 h
 refine Zg (by rw[XL hb];exact q1) ?_
 rw[XX];simpa using ⟨hb,q2⟩
theorem QU {OO}{H:Hp}(w:W OO H){p:Addr}(h:H p=none){o:HO}:hid (upd H p o) OO p=some o:=Zg Yd (w.fresh h)
class MonoE {α:Type}(r:Enc α):Prop where
 mono:∀{K:PySem.W.Frag}{H H':Hp}{v:V}{a:α},Xv H H'->r K H v a->r K H' v a
noncomputable def RB:HO->Bool
 | .tup _=>true
 | .frz _ _=>true
 |_=>false
noncomputable def CH (H H':Hp):Prop:=∀ b o,H b=some o->RB o=true->H' b=some o
theorem Xv.i {H H':Hp}(s:Xv H H'):CH H H':=λb o h _=>s b o h
theorem W.i {OO}{H:Hp}(w:W OO H):CH H (hid H OO):=λb o h i=>Zg h λz=>by
 obtain⟨u,hu⟩:=Cg z
 have h1:=w.tr _ hu
 have h2:=w.mu _ hu
 rw[h] at h1
 have e:o=u:=Option.some.inj h1
 subst e
 revert i h2;cases o<;> simp[RB,NV]
class FlatE {α:Type}(r:Enc α):Prop where
 flat:∀{K:PySem.W.Frag}{H H':Hp}{v:V}{a:α},CH H H'->r K H v a->r K H' v a
instance {α:Type}{r:Enc α}[f:FlatE r]:MonoE r:=⟨λs h=>f.flat s.i h⟩
noncomputable def XC:Enc Bool:=λ_ _ v b=>v= .bl b
noncomputable def JQ {α:Type}(r:Enc α):Enc (Option α):=λK H v a=>match a with
 |none=>v= .non
 |some a=>v≠ .non/\r K H v a
noncomputable def rV {α:Type}(r:Enc α):Enc (List α):=λK H v as=>∃ a xs,v= .ref a/\H a=some (.lst xs)/\Paired (r K H) xs as
noncomputable def rPL {α:Type}(r:Enc α):Enc (List α):=λK H v as=>∃ a xs,v= .ref a/\H a=some (.tup xs)/\Paired (r K H) xs as
noncomputable def rP2 {α β:Type}(r:Enc α)(q:Enc β):Enc (α×β):=λK H v p=>∃ a x y,v= .ref a/\H a=some (.tup [x,y])/\r K H x p.1/\q K H y p.2
noncomputable def rP3 {α β γ:Type}(r:Enc α)(q:Enc β)(t:Enc γ):Enc (α×β×γ):=λK H v p=>∃ a x y z,v= .ref a/\H a=some (.tup [x,y,z])/\r K H x p.1/\q K H y p.2.1/\t K H z p.2.2
instance {α:Type}{r:Enc α}[m:MonoE r]:MonoE (rV r):=⟨λs r9=>by obtain⟨a,xs,e,q,p⟩:=r9;exact⟨a,xs,e,s _ _ q,Paired.imp2 (λ_ _ z=>m.mono s z) p⟩⟩
instance {α:Type}{r:Enc α}[m:MonoE r]:MonoE (rPL r):=⟨λs r9=>by obtain⟨a,xs,e,q,p⟩:=r9;exact⟨a,xs,e,s _ _ q,Paired.imp2 (λ_ _ z=>m.mono s z) p⟩⟩
instance {α:Type}{r:Enc α}[m:FlatE r]:FlatE (rPL r):=⟨λs r9=>by obtain⟨a,xs,e,q,p⟩:=r9;exact⟨a,xs,e,s _ _ q rfl,Paired.imp2 (λ_ _ z=>m.flat s z) p⟩⟩
instance {α β:Type}{r:Enc α}{q:Enc β}[m:MonoE r][n:MonoE q]:MonoE (rP2 r q):=⟨λs r9=>by obtain⟨a,x,y,e,h,p1,p2⟩:=r9;exact⟨a,x,y,e,s _ _ h,m.mono s p1,n.mono s p2⟩⟩
instance {α β:Type}{r:Enc α}{q:Enc β}[m:FlatE r][n:FlatE q]:FlatE (rP2 r q):=⟨λs r9=>by obtain⟨a,x,y,e,h,p1,p2⟩:=r9;exact⟨a,x,y,e,s _ _ h rfl,m.flat s p1,n.flat s p2⟩⟩
instance {α β γ:Type}{r:Enc α}{q:Enc β}{t:Enc γ}[m:MonoE r][n:MonoE q][k:MonoE t]:MonoE (rP3 r q t):=⟨λs r9=>by obtain⟨a,x,y,z,e,h,p1,p2,p3⟩:=r9;exact⟨a,x,y,z,e,s _ _ h,m.mono s p1,n.mono s p2,k.mono s p3⟩⟩
instance {α β γ:Type}{r:Enc α}{q:Enc β}{t:Enc γ}[m:FlatE r][n:FlatE q][k:FlatE t]:FlatE (rP3 r q t):=⟨λs r9=>by obtain⟨a,x,y,z,e,h,p1,p2,p3⟩:=r9;exact⟨a,x,y,z,e,s _ _ h rfl,m.flat s p1,n.flat s p2,k.flat s p3⟩⟩
instance:FlatE Xc:=⟨λ_ h=>h⟩
instance:FlatE XC:=⟨λ_ h=>h⟩
instance {α:Type}{r:Enc α}[m:MonoE r]:MonoE (rL r):=⟨λs r9=>by obtain⟨a,xs,e,q,p⟩:=r9;exact⟨a,xs,e,s.seq q,Paired.imp2 (λ_ _ z=>m.mono s z) p⟩⟩
instance {α:Type}{r:Enc α}[m:MonoE r]:MonoE (JQ r):=⟨fun {K H H' v a} s h=>by cases a with
 |none=>exact h
 |some a=>exact⟨h.1,m.mono s h.2⟩⟩
instance {α:Type}{r:Enc α}[m:FlatE r]:FlatE (JQ r):=⟨fun {K H H' v a} s h=>by cases a with
 |none=>exact h
 |some a=>exact⟨h.1,m.flat s h.2⟩⟩
noncomputable abbrev OE (α:Type):=PySem.W.Frag->Hp->V->α->List Xq->Prop
inductive P3 {α β γ:Type}(F:α->β->γ->Prop):List α->List β->List γ->Prop where
 |nil:P3 F [] [] []
 |cons {a b c l m n}:F a b c->P3 F l m n->P3 F (a::l) (b::m) (c::n)
noncomputable def oF {α:Type}(r:Enc α):OE α:=λK h v a C=>C=[]/\r K h v a
noncomputable def oL {α:Type}(o:OE α):OE (List α):=λK h v as C=>∃ p xs Cs,v= .ref p/\P3 (o K h) xs as Cs/\C=(p, .lst xs)::Cs.flatten
noncomputable def oT2 {α β:Type}(o:OE α)(q:OE β):OE (α×β):=λK h v a C=>∃ p x y C1 C2,v= .ref p/\h p=some (.tup [x,y])/\o K h x a.1 C1/\q K h y a.2 C2/\C=C1++C2
noncomputable def Pz {α:Type}(o:OE α):OE (Option α):=λK h v a C=>match a with
 |none=>v= .non/\C=[]
 |some a=>v≠ .non/\o K h v a C
section
variable {α β γ δ:Type}
theorem P3.imp {F G:α->β->γ->Prop}(h:∀a b c,F a b c->G a b c):∀{l m n},P3 F l m n->P3 G l m n:=λp=>by
 induction p with
 |nil=>exact .nil
 |cons r _ ih=>exact .cons (h _ _ _ r) ih
theorem P3.app {F:α->β->γ->Prop}:∀{l m n l' m' n'},P3 F l m n->P3 F l' m' n'->P3 F (l++l') (m++m') (n++n'):=λp h=>by
 induction p with
 |nil=>exact h
 |cons r _ ih=>exact .cons r ih
theorem P3.snoc {F:α->β->γ->Prop}{l m n a b c}(h:P3 F l m n)(r:F a b c):P3 F (l++[a]) (m++[b]) (n++[c]):=h.app (.cons r .nil)
theorem P3.len {F:α->β->γ->Prop}:∀{l m n},P3 F l m n->l.length=m.length/\n.length=m.length:=λp=>by
 induction p with
 |nil=>exact⟨rfl,rfl⟩
 |cons _ _ ih=>exact⟨congrArg Nat.succ ih.1,congrArg Nat.succ ih.2⟩
theorem P3.pair {F:α->β->γ->Prop}{G:α->β->Prop}:∀{l m n},P3 F l m n->(∀a b c,c∈n->F a b c->G a b)->Paired G l m:=λp h=>by
 induction p with
 |nil=>exact .nil
 |cons r _ ih=>exact .cons (h _ _ _ List.mem_cons_self r) (ih λa b c hc=>h a b c (List.mem_cons_of_mem _ hc))
theorem P3.get {F:α->β->γ->Prop}:∀{l m n}{i:Nat}{b:β},P3 F l m n->m[i]?=some b->∃a c,l[i]?=some a/\n[i]?=some c/\F a b c
 |_,_,_,_,_, .nil,e=>by simp at e
 |_,_,_,0,_, .cons r _,e=>by simp at e;subst e;exact⟨_,_,rfl,rfl,r⟩
 |_,_,_,i+1,b, .cons _ t,e=>by
  obtain⟨a,c,h1,h2,h3⟩:=P3.get (i:=i) (b:=b) t (by simpa using e)
  exact⟨a,c,by simpa using h1,by simpa using h2,h3⟩
theorem P3.set {F:α->β->γ->Prop}{a:α}{b:β}{c:γ}(r:F a b c):∀{l m n} (i:Nat),P3 F l m n->P3 F (l.set i a) (m.set i b) (n.set i c)
 |_,_,_,_, .nil=>.nil
 |_,_,_,0, .cons _ t=>.cons r t
 |_,_,_,i+1, .cons q t=>.cons q (P3.set r i t)
theorem P3.flat {F:α->β->Prop}:∀{l:List α}{m:List β}{n:List (List Xq)},P3 (λa b c=>c=[]/\F a b) l m n->Paired F l m/\n.flatten=[]:=λp=>by
 induction p with
 |nil=>exact⟨.nil,rfl⟩
 |cons r _ ih=>exact⟨.cons r.2 ih.1,by rw[List.flatten_cons,r.1,ih.2];rfl⟩
theorem P3.of {F:α->β->Prop}:∀{l:List α}{m:List β},Paired F l m->P3 (λa b (c:List Xq)=>c=[]/\F a b) l m (List.replicate m.length [])
 |_,_, .nil=>.nil
 |_,_, .cons r t=>.cons ⟨rfl,r⟩ (P3.of t)
theorem Yf:∀n:Nat,(List.replicate n ([]:List Xq)).flatten=[]
 |0=>rfl
 |n+1=>by simp[List.replicate_succ,Yf n]
end
class MonoO {α:Type}(o:OE α):Prop where
 mono:∀{K:PySem.W.Frag}{H H':Hp}{v:V}{a:α}{C:List Xq},Xv H H'->o K H v a C->o K H' v a C
class FlatO {α:Type}(o:OE α):Prop where
 flat:∀{K:PySem.W.Frag}{H H':Hp}{v:V}{a:α}{C:List Xq},CH H H'->o K H v a C->o K H' v a C
class FrzC {α:Type}(o:OE α)(r:outParam (Enc α)):Prop where
 frz:∀{K:PySem.W.Frag}{H H':Hp}{v:V}{a:α}{C:List Xq},o K H v a C->Xv H H'->(∀c∈C,H' c.1=some c.2)->r K H' v a
instance {α:Type}{r:Enc α}[m:MonoE r]:MonoO (oF r):=⟨λs h=>⟨h.1,m.mono s h.2⟩⟩
instance {α:Type}{r:Enc α}[m:FlatE r]:FlatO (oF r):=⟨λs h=>⟨h.1,m.flat s h.2⟩⟩
instance {α:Type}{r:Enc α}[m:MonoE r]:FrzC (oF r) r:=⟨λh s _=>m.mono s h.2⟩
instance {α:Type}{o:OE α}[m:MonoO o]:MonoO (oL o):=⟨λs r9=>by obtain⟨p,xs,Cs,e,q,c⟩:=r9;exact⟨p,xs,Cs,e,q.imp λ_ _ _ z=>m.mono s z,c⟩⟩
instance {α:Type}{o:OE α}[m:FlatO o]:FlatO (oL o):=⟨λs r9=>by obtain⟨p,xs,Cs,e,q,c⟩:=r9;exact⟨p,xs,Cs,e,q.imp λ_ _ _ z=>m.flat s z,c⟩⟩
instance {α:Type}{o:OE α}{r:Enc α}[m:FrzC o r]:FrzC (oL o) (rV r):=⟨λ⟨p,xs,Cs,e,q,c⟩ s hc=>by
 subst c
 exact⟨p,xs,e,hc _ List.mem_cons_self,q.pair λa b c hm z=>m.frz z s λx hx=>hc x (List.mem_cons_of_mem _ (List.mem_flatten.mpr ⟨c,hm,hx⟩))⟩⟩
instance {α β:Type}{o:OE α}{q:OE β}[m:MonoO o][n:MonoO q]:MonoO (oT2 o q):=⟨λs r9=>by obtain⟨p,x,y,C1,C2,e,h,h1,h2,c⟩:=r9;exact⟨p,x,y,C1,C2,e,s _ _ h,m.mono s h1,n.mono s h2,c⟩⟩
instance {α β:Type}{o:OE α}{q:OE β}[m:FlatO o][n:FlatO q]:FlatO (oT2 o q):=⟨λs r9=>by obtain⟨p,x,y,C1,C2,e,h,h1,h2,c⟩:=r9;exact⟨p,x,y,C1,C2,e,s _ _ h rfl,m.flat s h1,n.flat s h2,c⟩⟩
instance {α β:Type}{o:OE α}{q:OE β}{r:Enc α}{t:Enc β}[m:FrzC o r][n:FrzC q t]:FrzC (oT2 o q) (rP2 r t):=⟨λ⟨p,x,y,C1,C2,e,h,h1,h2,c⟩ s hc=>by
 subst c
 exact⟨p,x,y,e,s _ _ h,m.frz h1 s λc hm=>hc c (by simp[hm]),n.frz h2 s λc hm=>hc c (by simp[hm])⟩⟩
instance {α:Type}{o:OE α}[m:MonoO o]:MonoO (Pz o):=⟨fun {K H H' v a C} s h=>by cases a with
 |none=>exact h
 |some a=>exact⟨h.1,m.mono s h.2⟩⟩
instance {α:Type}{o:OE α}[m:FlatO o]:FlatO (Pz o):=⟨fun {K H H' v a C} s h=>by cases a with
 |none=>exact h
 |some a=>exact⟨h.1,m.flat s h.2⟩⟩
instance {α:Type}{o:OE α}{r:Enc α}[m:FrzC o r]:FrzC (Pz o) (JQ r):=⟨fun {K H H' v a C} h s hc=>by cases a with
 |none=>exact h.1
 |some a=>exact⟨h.1,m.frz h.2 s hc⟩⟩
structure SC where
 p:Hp->Prop
 mono:∀h h',Xv h h'->p h->p h'
noncomputable def SC.nil:SC:=⟨λ_=>True,λ_ _ _ _=>True.intro⟩
noncomputable def SC.and (S T:SC):SC:=⟨λh=>S.p h/\T.p h,λ_ _ s q=>⟨S.mono _ _ s q.1,T.mono _ _ s q.2⟩⟩
noncomputable def SC.one {α:Type}(K:PySem.W.Frag)(r:Enc α)[m:MonoE r](v:V)(a:α):SC:=⟨λh=>r K h v a,λ_ _ s q=>m.mono s q⟩
noncomputable def SC.oneO {α:Type}(K:PySem.W.Frag)(o:OE α)[m:MonoO o](v:V)(a:α)(C:List Xq):SC:=⟨λh=>o K h v a C,λ_ _ s q=>m.mono s q⟩
noncomputable abbrev SC.add {α:Type}(S:SC)(K:PySem.W.Frag)(r:Enc α)[m:MonoE r](v:V)(a:α):SC:=S.and (SC.one K r v a)
noncomputable abbrev SC.addO {α:Type}(S:SC)(K:PySem.W.Frag)(o:OE α)[m:MonoO o](v:V)(a:α)(C:List Xq):SC:=S.and (SC.oneO K o v a C)
theorem SC.l {S T:SC}{h:Hp}(q:(S.and T).p h):S.p h:=q.1
theorem SC.r {S T:SC}{h:Hp}(q:(S.and T).p h):T.p h:=q.2
theorem SC.i {S T:SC}{h:Hp}(q:S.p h)(p:T.p h):(S.and T).p h:=⟨q,p⟩
theorem SC.t {h:Hp}:SC.nil.p h:=True.intro
theorem SC.p.l {S T:SC}{h:Hp}(q:(S.and T).p h):S.p h:=q.1
theorem SC.p.r {S T:SC}{h:Hp}(q:(S.and T).p h):T.p h:=q.2
noncomputable def PZ {β:Type}(Er:Exc->Hp->Prop)(F:β->Hp->Prop)(H:Hp)(m:Rs β):Prop:=
 match m with
 | .bad=>False
 | .err x=>∀ H',Xv H H'->Er x H'
 | .ok b=>F b H
section
variable (K:PySem.W.Frag)(Er:Exc->Hp->Prop)(S:SC)(OO OO':List (List Xq))(σ:St)
noncomputable def FB {α:Type}(r:Enc α)(Q:VK)(a:α)(H:Hp):Prop:=∀ v H',Xv H H'->r K H' v a->Q v H'
noncomputable def FO {α:Type}(o:OE α)(Q:VK)(a:α)(H:Hp):Prop:=∀ v C H',Xv H H'->W (C::OO') H'->Xv (hid H OO) (hid H' (C::OO'))->o K (hid H' (C::OO')) v a C->Q v H'
noncomputable def FT (Q:Bool->Hp->Prop)(b:Bool)(H:Hp):Prop:=∀ H',Xv H H'->Q b H'
noncomputable def EvB {α:Type}(te:TE)(r:Enc α)(m:Rs α):Prop:=∀ H Q,W OO H->S.p (hid H OO)->PZ Er (FB K r Q) H m->te σ H Q
noncomputable def Ev {α:Type}(te:TE)(o:OE α)(m:Rs α):Prop:=∀ H Q,W OO H->S.p (hid H OO)->PZ Er (FO K OO OO' o Q) H m->te σ H Q
noncomputable def EvT (tt:TT)(m:Rs Bool):Prop:=∀ H Q,W OO H->S.p (hid H OO)->PZ Er (FT Q) H m->tt σ H Q
end
section
variable {K:PySem.W.Frag}{Er:Exc->Hp->Prop}{S:SC}{OO OO' OO2:List (List Xq)}{σ:St}{α β γ:Type}
theorem FB.tr {r:Enc α}{Q:VK}:∀a H H',Xv H H'->FB K r Q a H->FB K r Q a H':=λa H H' s h v H2 s2 q=>h v H2 (s.trans s2) q
theorem FO.tr {o:OE α}{Q:VK}:∀a H H',Xv H H'->FO K OO OO' o Q a H->FO K OO OO' o Q a H':=λa H H' s h v C H2 s2 w m q=>h v C H2 (s.trans s2) w ((Xi s).trans m) q
theorem FT.tr {Q:Bool->Hp->Prop}:∀b H H',Xv H H'->FT Q b H->FT Q b H':=λa H H' s h H2 s2=>h H2 (s.trans s2)
theorem EvB.run {te:TE}{r:Enc α}{m:Rs α}(he:EvB K Er S OO σ te r m){H:Hp}{Q:VK}(w:W OO H)(s:S.p (hid H OO)){f:α->Rs β}{F:β->Hp->Prop}(hF:∀b H H',Xv H H'->F b H->F b H')(P:PZ Er F H (m.bind f))
  (hk:∀a v H',Xv H H'->W OO H'->S.p (hid H' OO)->r K H' v a->PZ Er F H' (f a)->Q v H'):te σ H Q:=by
 refine he H Q w s ?_
 cases m with
 |bad=>exact P
 |err x=>exact P
 |ok a=>
  intro v H' s' hr
  refine hk a v H' s' (w.keep s') (S.mono _ _ (Xi s') s) hr ?_
  have P':PZ Er F H (f a):=P
  revert P'
  cases f a with
  |bad=>exact λz=>z
  |err x=>exact λz H2 s2=>z H2 (s'.trans s2)
  |ok b=>exact λz=>hF b H H' s' z
theorem EvT.run {tt:TT}{m:Rs Bool}(he:EvT Er S OO σ tt m){H:Hp}{Q:Bool->Hp->Prop}(w:W OO H)(s:S.p (hid H OO)){f:Bool->Rs β}{F:β->Hp->Prop}(hF:∀b H H',Xv H H'->F b H->F b H')(P:PZ Er F H (m.bind f))
  (hk:∀b H',Xv H H'->W OO H'->S.p (hid H' OO)->PZ Er F H' (f b)->Q b H'):tt σ H Q:=by
 refine he H Q w s ?_
 cases m with
 |bad=>exact P
 |err x=>exact P
 |ok a=>
  intro H' s'
  refine hk a H' s' (w.keep s') (S.mono _ _ (Xi s') s) ?_
  have P':PZ Er F H (f a):=P
  revert P'
  cases f a with
  |bad=>exact λz=>z
  |err x=>exact λz H2 s2=>z H2 (s'.trans s2)
  |ok b=>exact λz=>hF b H H' s' z
theorem Ev.toB {te:TE}{o:OE α}{r:Enc α}[z:FrzC o r]{m:Rs α}(he:Ev K Er S OO OO σ te o m):EvB K Er S OO σ te r m:=λH Q w s P=>by
 refine he H Q w s ?_
 cases m with
 |bad=>exact P
 |err x=>exact P
 |ok a=>exact λv C H' s' w' m' ho=>P v H' s' (z.frz ho Xz w'.cell)
theorem Ev.frz {te:TE}{o:OE α}{r:Enc α}[z:FrzC o r]{m:Rs α}(he:Ev K Er S OO OO' σ te o m):Ev K Er S OO OO' σ te (oF r) m:=λH Q w s P=>by
 refine he H Q w s ?_
 cases m with
 |bad=>exact P
 |err x=>exact P
 |ok a=>
  intro v C H' s' w' m' ho
  have hs:Xv (hid H' (C::OO')) (hid H' ([]::OO')):=Qh (Xv.refl _) λb hb=>by rw[Eg] at hb;rw[XX];simp[hb]
  refine P v [] H' s' w'.tail.nil (m'.trans hs) ⟨rfl,z.frz ho hs λc hc=>Zg (w'.cell c hc) ?_⟩
  rw[Eg]
  have:=w'.nd
  rw[XX] at this
  intro hb
  exact(List.nodup_append.mp this).2.2 c.1 (List.mem_map.mpr ⟨c,hc,rfl⟩) c.1 hb rfl
theorem Xn {r:Enc α}[z:MonoE r]{v:V}{a:α}(i:Nat)(hσ:σ[i]?=some (some v))(h:∀x,S.p x->r K x v a):EvB K Er S OO σ (Jz i) r (.ok a):=λH Q w s P=>
 ⟨v,hσ,P v H (Xv.refl _) (z.mono Xz (h _ s))⟩
theorem V5 {o:OE α}{r:Enc α}[z:FrzC o r]{v:V}{a:α}{C:List Xq}(i k:Nat)(hσ:σ[i]?=some (some v))(hk:OO[k]?=some C)(h:∀x,S.p x->o K x v a C):EvB K Er S OO σ (Jz i) r (.ok a):=λH Q w s P=>
 ⟨v,hσ,P v H (Xv.refl _) (z.frz (h _ s) Xz λc hc=>w.tr c (List.mem_flatten.mpr ⟨C,List.mem_of_getElem? hk,hc⟩))⟩
theorem XT:∀{OO:List (List Xq)}{k:Nat}{C:List Xq},OO[k]?=some C->(C::OO.set k []).flatten.Perm OO.flatten
 | [],_,_,h=>by simp at h
 |D::OO,0,C,h=>by simp at h;subst h;simp
 |D::OO,k+1,C,h=>by
  have:=XT (OO:=OO) (k:=k) (C:=C) (by simpa using h)
  simp only[List.set_cons_succ,List.flatten_cons] at this⊢
  refine List.Perm.trans ?_ (this.append_left D)
  rw[←List.append_assoc, ←List.append_assoc]
  exact List.perm_append_comm.append_right _
theorem Vq {OO OO':List (List Xq)}(h:OO'.flatten.Perm OO.flatten)(b:Addr):b∈fl OO'↔b∈fl OO:=(h.map (·.1)).mem_iff
theorem XW {H:Hp}{OO OO':List (List Xq)}(h:OO'.flatten.Perm OO.flatten):hid H OO'=hid H OO:=by
 funext b;unfold hid
 by_cases hb:b∈fl OO
 ·rw[if_pos hb,if_pos ((Vq h b).mpr hb)]
 ·rw[if_neg hb,if_neg λz=>hb ((Vq h b).mp z)]
theorem Nj {o:OE α}{v:V}{a:α}{C:List Xq}(i k:Nat)(hσ:σ[i]?=some (some v))(hk:OO[k]?=some C)(h:∀x,S.p x->o K x v a C):Ev K Er S OO (OO.set k []) σ (Jz i) o (.ok a):=λH Q w s P=>by
 have hp:=XT hk
 exact⟨v,hσ,P v C H (Xv.refl _) (w.of hp) (by rw[XW hp];exact Xv.refl _) (by rw[XW hp];exact h _ s)⟩
theorem QM (n:Int):EvB K Er S OO σ (tC (.int n)) Xc (.ok n):=λH Q w s P=>P _ H (Xv.refl _) rfl
theorem Q2 (b:Bool):EvB K Er S OO σ (tC (.bl b)) XC (.ok b):=λH Q w s P=>P _ H (Xv.refl _) rfl
theorem Jo {ta tb:TE}{g:Int->Int->V}{r:Enc β}{f:Int->Int->β}{ma mb:Rs Int}(hg:∀K H i j,r K H (g i j) (f i j))(ha:EvB K Er S OO σ ta Xc ma)(hb:EvB K Er S OO σ tb Xc mb):
  EvB K Er S OO σ (tOp (rI0 g) ta tb) r (ma.bind λa=>mb.bind λb=>.ok (f a b)):=λH Q w s P=>
 ha.run w s FB.tr P λa x H1 s1 w1 q1 r1 P1=>hb.run w1 q1 FB.tr P1 λb y H2 s2 w2 q2 r2 P2=>⟨a,b,r1,r2,P2 _ H2 (Xv.refl _) (hg K H2 a b)⟩
theorem UF {ta tb:TE}{Cc:Int->Int->Prop}{g:Int->Int->V}{r:Enc β}{f:Int->Int->Rs β}{ma mb:Rs Int}(hg:∀K H i j c,f i j= .ok c->Cc i j/\r K H (g i j) c)(he:∀i j x,f i j≠ .err x)
  (ha:EvB K Er S OO σ ta Xc ma)(hb:EvB K Er S OO σ tb Xc mb):
  EvB K Er S OO σ (tOp (rI Cc g) ta tb) r (ma.bind λa=>mb.bind λb=>f a b):=λH Q w s P=>
 ha.run w s FB.tr P λa x H1 s1 w1 q1 r1 P1=>hb.run w1 q1 FB.tr P1 λb y H2 s2 w2 q2 r2 P2=>by
  cases e:f a b with
  |bad=>rw[e] at P2;exact P2.elim
  |err x=>exact absurd e (he a b x)
  |ok c=>
   rw[e] at P2
   obtain⟨h1,h2⟩:=hg K H2 a b c e
   exact⟨a,b,r1,r2,h1,P2 _ H2 (Xv.refl _) h2⟩
noncomputable def M8 (a b:Int):Rs Int:=chk ((-(2^64)<a/\a<2^64)∨(-(2^64)<b/\b<2^64)) (.ok (a*b))
noncomputable def Mg (a b:Int):Rs Int:=chk (0<b) (.ok (a % b))
noncomputable def Pm (a b:Int):Rs Int:=chk (0<b/\b.natAbs.log2<9000) (.ok (a/b))
noncomputable def P8 (a b:Int):Rs Int:=chk (0<=b/\b<=1000000/\a.natAbs<2^64) (.ok (a^b.toNat))
theorem Zf {c:Prop}[Decidable c]{m:Rs α}{a:α}(h:chk c m= .ok a):c/\m= .ok a:=by
 unfold chk at h;split at h
 ·exact⟨by assumption,h⟩
 ·cases h
theorem Qq {c:Prop}[Decidable c]{a:α}{x:Exc}:chk c (Rs.ok a)≠ .err x:=by
 unfold chk;split<;> exact λz=>nomatch z
theorem GF {ta tb:TE}{ma mb:Rs Int}(ha:EvB K Er S OO σ ta Xc ma)(hb:EvB K Er S OO σ tb Xc mb):EvB K Er S OO σ (tOp (rI NU λi j=>.int (i*j)) ta tb) Xc (ma.bind λa=>mb.bind λb=>M8 a b):=
 UF (λK H i j c h=>by obtain⟨h1,h2⟩:=Zf h;cases h2;exact⟨h1,rfl⟩) (λi j x=>Qq) ha hb
theorem No {ta tb:TE}{ma mb:Rs Int}(ha:EvB K Er S OO σ ta Xc ma)(hb:EvB K Er S OO σ tb Xc mb):EvB K Er S OO σ (tOp (rI (λ_ j=>0<j) λi j=>.int (i % j)) ta tb) Xc (ma.bind λa=>mb.bind λb=>Mg a b):=
 UF (λK H i j c h=>by obtain⟨h1,h2⟩:=Zf h;cases h2;exact⟨h1,rfl⟩) (λi j x=>Qq) ha hb
theorem L4 {ta tb:TE}{ma mb:Rs Int}(ha:EvB K Er S OO σ ta Xc ma)(hb:EvB K Er S OO σ tb Xc mb):EvB K Er S OO σ (tOp (rI (λ_ j=>0<j/\j.natAbs.log2<9000) λi j=>.int (i/j)) ta tb) Xc (ma.bind λa=>mb.bind λb=>Pm a b):=
 UF (λK H i j c h=>by obtain⟨h1,h2⟩:=Zf h;cases h2;exact⟨h1,rfl⟩) (λi j x=>Qq) ha hb
theorem NB {ta tb:TE}{ma mb:Rs Int}(ha:EvB K Er S OO σ ta Xc ma)(hb:EvB K Er S OO σ tb Xc mb):EvB K Er S OO σ (tOp (rI Rk λi j=>.int (i^j.toNat)) ta tb) Xc (ma.bind λa=>mb.bind λb=>P8 a b):=
 UF (λK H i j c h=>by obtain⟨h1,h2⟩:=Zf h;cases h2;exact⟨h1,rfl⟩) (λi j x=>Qq) ha hb
theorem E8 {ta tb:TE}{ma mb:Rs Int}(ha:EvB K Er S OO σ ta Xc ma)(hb:EvB K Er S OO σ tb Xc mb):EvB K Er S OO σ (tOp (rI0 λi j=>.int (i+j)) ta tb) Xc (ma.bind λa=>mb.bind λb=>.ok (a+b)):=Jo (λ_ _ _ _=>rfl) ha hb
theorem MX {ta tb:TE}{ma mb:Rs Int}(ha:EvB K Er S OO σ ta Xc ma)(hb:EvB K Er S OO σ tb Xc mb):EvB K Er S OO σ (tOp (rI0 λi j=>.int (i-j)) ta tb) Xc (ma.bind λa=>mb.bind λb=>.ok (a-b)):=Jo (λ_ _ _ _=>rfl) ha hb
theorem Lh {ta tb:TE}{ma mb:Rs Int}(ha:EvB K Er S OO σ ta Xc ma)(hb:EvB K Er S OO σ tb Xc mb):EvB K Er S OO σ (tOp (rI0 λi j=>.bl (decide (i<j))) ta tb) XC (ma.bind λa=>mb.bind λb=>.ok (decide (a<b))):=Jo (λ_ _ _ _=>rfl) ha hb
theorem Pe {ta tb:TE}{ma mb:Rs Int}(ha:EvB K Er S OO σ ta Xc ma)(hb:EvB K Er S OO σ tb Xc mb):EvB K Er S OO σ (tOp (rI0 λi j=>.bl (decide (i<=j))) ta tb) XC (ma.bind λa=>mb.bind λb=>.ok (decide (a<=b))):=Jo (λ_ _ _ _=>rfl) ha hb
theorem N4 {ta tb:TE}{ma mb:Rs Int}(ha:EvB K Er S OO σ ta Xc ma)(hb:EvB K Er S OO σ tb Xc mb):EvB K Er S OO σ (tOp (rI0 λi j=>.bl (decide (j<i))) ta tb) XC (ma.bind λa=>mb.bind λb=>.ok (decide (b<a))):=Jo (λ_ _ _ _=>rfl) ha hb
theorem OH {ta tb:TE}{ma mb:Rs Int}(ha:EvB K Er S OO σ ta Xc ma)(hb:EvB K Er S OO σ tb Xc mb):EvB K Er S OO σ (tOp (rI0 λi j=>.bl (decide (j<=i))) ta tb) XC (ma.bind λa=>mb.bind λb=>.ok (decide (b<=a))):=Jo (λ_ _ _ _=>rfl) ha hb
theorem Nb {ta:TE}{ma:Rs Int}(ha:EvB K Er S OO σ ta Xc ma):EvB K Er S OO σ (tUn (rU λi=>.int (-i)) ta) Xc (ma.bind λa=>.ok (-a)):=λH Q w s P=>
 ha.run w s FB.tr P λa x H1 s1 w1 q1 r1 P1=>⟨a,r1,P1 _ H1 (Xv.refl _) rfl⟩
class Scal {α:Type}[DecidableEq α](r:Enc α):Prop where
 to:∀{K:PySem.W.Frag}{H H':Hp}{x y:V}{a b:α},r K H x a->r K H' y b->PF x y=true/\decide (x=y)=decide (a=b)
instance:Scal Xc:=⟨fun {K H H' x y a b} h1 h2=>by cases(show x= .int a from h1);cases(show y= .int b from h2);exact⟨rfl,by simp⟩⟩
instance:Scal XC:=⟨fun {K H H' x y a b} h1 h2=>by cases(show x= .bl a from h1);cases(show y= .bl b from h2);exact⟨rfl,by simp⟩⟩
theorem VB [DecidableEq α]{r:Enc α}[z:Scal r][MonoE r]{ta tb:TE}{ma mb:Rs α}(ha:EvB K Er S OO σ ta r ma)(hb:EvB K Er S OO σ tb r mb):EvB K Er S OO σ (tOp rEq ta tb) XC (ma.bind λa=>mb.bind λb=>.ok (decide (a=b))):=λH Q w s P=>
 ha.run w s FB.tr P λa x H1 s1 w1 q1 r1 P1=>hb.run w1 q1 FB.tr P1 λb y H2 s2 w2 q2 r2 P2=>by
  obtain⟨h1,h2⟩:=z.to r1 r2
  exact⟨h1,P2 _ H2 (Xv.refl _) (by rw[h2];rfl)⟩
theorem FN [DecidableEq α]{r:Enc α}[z:Scal r][MonoE r]{ta tb:TE}{ma mb:Rs α}(ha:EvB K Er S OO σ ta r ma)(hb:EvB K Er S OO σ tb r mb):EvB K Er S OO σ (tOp rNe ta tb) XC (ma.bind λa=>mb.bind λb=>.ok (!decide (a=b))):=λH Q w s P=>
 ha.run w s FB.tr P λa x H1 s1 w1 q1 r1 P1=>hb.run w1 q1 FB.tr P1 λb y H2 s2 w2 q2 r2 P2=>by
  obtain⟨h1,h2⟩:=z.to r1 r2
  exact⟨h1,P2 _ H2 (Xv.refl _) (by rw[h2];rfl)⟩
theorem Bc [DecidableEq α]{r:Enc α}[z:MonoE r]{ta tb:TE}{ma mb:Rs α}(ha:EvB K Er S OO σ ta r ma)(hb:EvB K Er S OO σ tb r mb):EvB K Er S OO σ (tOp (P7 K r) ta tb) XC (ma.bind λa=>mb.bind λb=>.ok (decide (a=b))):=λH Q w s P=>
 ha.run w s FB.tr P λa x H1 s1 w1 q1 r1 P1=>hb.run w1 q1 FB.tr P1 λb y H2 s2 w2 q2 r2 P2=>⟨a,b,z.mono s2 r1,r2,P2 _ H2 (Xv.refl _) rfl⟩
theorem UR [DecidableEq α]{r:Enc α}[z:MonoE r]{ta tb:TE}{ma mb:Rs α}(ha:EvB K Er S OO σ ta r ma)(hb:EvB K Er S OO σ tb r mb):EvB K Er S OO σ (tOp (PJ K r) ta tb) XC (ma.bind λa=>mb.bind λb=>.ok (!decide (a=b))):=λH Q w s P=>
 ha.run w s FB.tr P λa x H1 s1 w1 q1 r1 P1=>hb.run w1 q1 FB.tr P1 λb y H2 s2 w2 q2 r2 P2=>⟨a,b,z.mono s2 r1,r2,P2 _ H2 (Xv.refl _) rfl⟩
theorem UZ {te:TE}{m:Rs Bool}(h:EvB K Er S OO σ te XC m):EvT Er S OO σ (tB te) m:=λH Q w s P=>h H _ w s (by
 cases m with
 |bad=>exact P
 |err x=>exact P
 |ok a=>exact λv H' s' r=>⟨a,r,P H' s'⟩)
theorem Ym {te:TE}{m:Rs Bool}(h:EvB K Er S OO σ te XC m):EvT Er S OO σ (Mt te) m:=UZ h
theorem Jj {t:TT}{m:Rs Bool}(h:EvT Er S OO σ t m):EvT Er S OO σ (Px t) (m.bind λb=>.ok (!b)):=λH Q w s P=>h.run w s FT.tr P λb H1 s1 w1 q1 P1=>P1 H1 (Xv.refl _)
noncomputable def NO (a b:Rs Bool):Rs Bool:=a.bind λx=>if x=true then b else .ok false
noncomputable def orR (a b:Rs Bool):Rs Bool:=a.bind λx=>if x=true then .ok true else b
theorem Ma {t u:TT}{m n:Rs Bool}(h:EvT Er S OO σ t m)(k:EvT Er S OO σ u n):EvT Er S OO σ (Rb t u) (NO m n):=λH Q w s P=>h.run w s FT.tr P λb H1 s1 w1 q1 P1=>by
 cases b with
 |true=>rw[if_pos rfl] at P1⊢;exact k H1 Q w1 q1 P1
 |false=>exact P1 H1 (Xv.refl _)
theorem KY {t u:TT}{m n:Rs Bool}(h:EvT Er S OO σ t m)(k:EvT Er S OO σ u n):EvT Er S OO σ (tOr t u) (orR m n):=λH Q w s P=>h.run w s FT.tr P λb H1 s1 w1 q1 P1=>by
 cases b with
 |true=>exact P1 H1 (Xv.refl _)
 |false=>exact k H1 Q w1 q1 P1
theorem DO {t:TE}{m:Rs Bool}(h:EvB K Er S OO σ t XC m):EvB K Er S OO σ (Mj t) XC (m.bind λb=>.ok (!b)):=λH Q w s P=>h.run w s FB.tr P λb x H1 s1 w1 q1 r1 P1=>⟨b,r1,P1 _ H1 (Xv.refl _) rfl⟩
theorem Dq {t u:TE}{m n:Rs Bool}(h:EvB K Er S OO σ t XC m)(k:EvB K Er S OO σ u XC n):EvB K Er S OO σ (Mz t u) XC (NO m n):=λH Q w s P=>h.run w s FB.tr P λb x H1 s1 w1 q1 r1 P1=>⟨b,r1,by
 cases b with
 |true=>rw[if_pos rfl] at P1⊢;exact k H1 Q w1 q1 P1
 |false=>exact P1 _ H1 (Xv.refl _) rfl⟩
theorem PQ {c:TT}{ta tb:TE}{o:OE α}{mc:Rs Bool}{ma mb:Rs α}(hc:EvT Er S OO σ c mc)(ha:Ev K Er S OO OO' σ ta o ma)(hb:Ev K Er S OO OO' σ tb o mb):Ev K Er S OO OO' σ (tIf c ta tb) o (mc.bind λb=>if b=true then ma else mb):=λH Q w s P=>
 hc.run w s FO.tr P λb H1 s1 w1 q1 P1=>by
  cases b with
  |true=>rw[if_pos rfl] at P1⊢;exact ha H1 Q w1 q1 P1
  |false=>exact hb H1 Q w1 q1 P1
end
section
variable (K:PySem.W.Frag)(Er:Exc->Hp->Prop)(S:SC)(OO:List (List Xq))(σ:St)
noncomputable def FS {α:Type}(r:Enc α)(Q:VK)(a:α)(H:Hp):Prop:=∀ v H',Xv H H'->r K (hid H' OO) v a->Q v H'
noncomputable def EvS {α:Type}(te:TE)(r:Enc α)(m:Rs α):Prop:=∀ H Q,W OO H->S.p (hid H OO)->PZ Er (FS K OO r Q) H m->te σ H Q
noncomputable def rE {α:Type}(r:Enc α)(H:Hp)(v:V)(as:List α):Prop:=∃ p xs,v= .ref p/\H p=some (.lst xs)/\Paired (r K (hid H OO)) xs as
noncomputable def FL {α:Type}(r:Enc α)(Q:VK)(as:List α)(H:Hp):Prop:=∀ v H',Xv H H'->rE K OO r H' v as->Q v H'
noncomputable def EvL {α:Type}(te:TE)(r:Enc α)(m:Rs (List α)):Prop:=∀ H Q,W OO H->S.p (hid H OO)->PZ Er (FL K OO r Q) H m->te σ H Q
end
section
variable {K:PySem.W.Frag}{Er:Exc->Hp->Prop}{S:SC}{OO OO' OO2:List (List Xq)}{σ:St}{α β γ:Type}
theorem FS.tr {r:Enc α}{Q:VK}:∀a H H',Xv H H'->FS K OO r Q a H->FS K OO r Q a H':=λa H H' s h v H2 s2 q=>h v H2 (s.trans s2) q
theorem PZ.run {F:β->Hp->Prop}{f:α->Rs β}{H H':Hp}{a:α}{m:Rs α}(hm:m= .ok a)(hF:∀b H H',Xv H H'->F b H->F b H')(s:Xv H H')(P:PZ Er F H (m.bind f)):PZ Er F H' (f a):=by
 subst hm
 have P':PZ Er F H (f a):=P
 revert P'
 cases f a with
 |bad=>exact λz=>z
 |err x=>exact λz H2 s2=>z H2 (s.trans s2)
 |ok b=>exact λz=>hF b H H' s z
theorem EvS.run {te:TE}{r:Enc α}{m:Rs α}(he:EvS K Er S OO σ te r m){H:Hp}{Q:VK}(w:W OO H)(s:S.p (hid H OO)){f:α->Rs β}{F:β->Hp->Prop}(hF:∀b H H',Xv H H'->F b H->F b H')(P:PZ Er F H (m.bind f))
  (hk:∀a v H',Xv H H'->W OO H'->S.p (hid H' OO)->r K (hid H' OO) v a->PZ Er F H' (f a)->Q v H'):te σ H Q:=by
 refine he H Q w s ?_
 cases e:m with
 |bad=>rw[e] at P;exact P
 |err x=>rw[e] at P;exact P
 |ok a=>exact λv H' s' hr=>hk a v H' s' (w.keep s') (S.mono _ _ (Xi s') s) hr (PZ.run e hF s' P)
theorem EvL.run {te:TE}{r:Enc α}{m:Rs (List α)}(he:EvL K Er S OO σ te r m){H:Hp}{Q:VK}(w:W OO H)(s:S.p (hid H OO)){f:List α->Rs β}{F:β->Hp->Prop}(hF:∀b H H',Xv H H'->F b H->F b H')(P:PZ Er F H (m.bind f))
  (hk:∀a v H',Xv H H'->W OO H'->S.p (hid H' OO)->rE K OO r H' v a->PZ Er F H' (f a)->Q v H'):te σ H Q:=by
 refine he H Q w s ?_
 cases e:m with
 |bad=>rw[e] at P;exact P
 |err x=>rw[e] at P;exact P
 |ok a=>exact λv H' s' hr=>hk a v H' s' (w.keep s') (S.mono _ _ (Xi s') s) hr (PZ.run e hF s' P)
theorem PZ.imp {F G:β->Hp->Prop}{H:Hp}{m:Rs β}(P:PZ Er F H m)(h:∀b,m= .ok b->F b H->G b H):PZ Er G H m:=by
 cases m with
 |bad=>exact P
 |err x=>exact P
 |ok b=>exact h b rfl P
theorem EvS.ev {te:TE}{r:Enc α}{m:Rs α}(he:EvS K Er S OO σ te r m):Ev K Er S OO OO σ te (oF r) m:=λH Q w s P=>he H Q w s (P.imp λb _ h v H' s' q=>
 h v [] H' s' (w.keep s').nil (by rw[Y7];exact Xi s') ⟨rfl,by rw[Y7];exact q⟩)
theorem EvB.sh {te:TE}{r:Enc α}[z:FlatE r]{m:Rs α}(he:EvB K Er S OO σ te r m):EvS K Er S OO σ te r m:=λH Q w s P=>he H Q w s (P.imp λb _ h v H' s' q=>h v H' s' (z.flat (w.keep s').i q))
theorem Ev.sh {te:TE}{o:OE α}{r:Enc α}[z:FrzC o r]{m:Rs α}(he:Ev K Er S OO OO σ te o m):EvS K Er S OO σ te r m:=λH Q w s P=>he.frz H Q w s (P.imp λb _ h v C H' s' w' m' q=>by
 obtain⟨rfl,q⟩:=q
 rw[Y7] at q
 exact h v H' s' q)
theorem Yb {r:Enc α}{v:V}{a:α}(i:Nat)(hσ:σ[i]?=some (some v))(h:∀x,S.p x->r K x v a):EvS K Er S OO σ (Jz i) r (.ok a):=λH Q w s P=>⟨v,hσ,P v H (Xv.refl _) (h _ s)⟩
theorem EvS.ls {te:TE}{r:Enc α}{m:Rs (List α)}(he:EvS K Er S OO σ te (rV r) m):EvL K Er S OO σ te r m:=λH Q w s P=>he H Q w s (P.imp λb _ h v H' s' r9=>by obtain⟨p,xs,e,q,pr⟩:=r9;exact h v H' s' ⟨p,xs,e,Xz _ _ q,pr⟩)
theorem Ev.ls {te:TE}{r:Enc α}[z:MonoE r]{m:Rs (List α)}(he:Ev K Er S OO OO σ te (oL (oF r)) m):EvL K Er S OO σ te r m:=he.sh.ls
noncomputable def atR (as:List α)(i:Int):Rs α:=match atI as i with
 |some a=>.ok a
 |none=>.bad
theorem F0 {as:List α}{i:Int}{a:α}(h:atR as i= .ok a):atI as i=some a:=by
 unfold atR at h;split at h
 ·cases h;assumption
 ·cases h
theorem KI {as:List α}{i:Int}{x:Exc}:atR as i≠ .err x:=by unfold atR;split<;> exact λz=>nomatch z
theorem Jl {F:V->α->Prop}{xs:List V}{as:List α}{i:Int}{a:α}(p:Paired F xs as)(h:atI as i=some a):∃x,atI xs i=some x/\F x a:=by
 unfold atI at h⊢
 rw[Paired.len p]
 cases e:ixN as.length i with
 |none=>rw[e] at h;cases h
 |some j=>
  rw[e] at h
  obtain⟨x,h1,h2⟩:=Paired.getR p h
  exact⟨x,h1,h2⟩
theorem PZ.okOf {F:β->Hp->Prop}{H:Hp}{m:Rs β}(he:∀x,m≠ .err x)(P:PZ Er F H m):∃b,m= .ok b/\F b H:=by
 cases m with
 |bad=>exact P.elim
 |err x=>exact absurd rfl (he x)
 |ok b=>exact⟨b,rfl,P⟩
theorem Um {ta tb:TE}{r:Enc α}[z:MonoE r]{ma:Rs (List α)}{mb:Rs Int}(ha:EvB K Er S OO σ ta (rV r) ma)(hb:EvB K Er S OO σ tb Xc mb):EvB K Er S OO σ (tOp (HB K) ta tb) r (ma.bind λas=>mb.bind λi=>atR as i):=λH Q w s P=>
 ha.run w s FB.tr P λa x H1 s1 w1 q1 ⟨p,xs,e,q,pr⟩ P1=>hb.run w1 q1 FB.tr P1 λb y H2 s2 w2 q2 r2 P2=>by
  obtain⟨c,hc,P3⟩:=P2.okOf λx=>KI
  obtain⟨u,h1,h2⟩:=Jl pr (F0 hc)
  exact⟨p,xs,b,u,e,r2,SqL.of (s2 _ _ q),h1,P3 u H2 (Xv.refl _) (z.mono s2 h2)⟩
theorem O4 {ta tb:TE}{r:Enc α}[z:MonoE r]{ma:Rs (List α)}{mb:Rs Int}(ha:EvL K Er S OO σ ta r ma)(hb:EvB K Er S OO σ tb Xc mb):EvS K Er S OO σ (tOp (HB K) ta tb) r (ma.bind λas=>mb.bind λi=>atR as i):=λH Q w s P=>
 ha.run w s FS.tr P λa x H1 s1 w1 q1 ⟨p,xs,e,q,pr⟩ P1=>hb.run w1 q1 FS.tr P1 λb y H2 s2 w2 q2 r2 P2=>by
  obtain⟨c,hc,P3⟩:=P2.okOf λx=>KI
  obtain⟨u,h1,h2⟩:=Jl pr (F0 hc)
  exact⟨p,xs,b,u,e,r2,SqL.of (s2 _ _ q),h1,P3 u H2 (Xv.refl _) (z.mono (Xi s2) h2)⟩
theorem MU {ta:TE}{r:Enc α}{q:Enc β}{m:Rs (α×β)}(ha:EvB K Er S OO σ ta (rP2 r q) m):EvB K Er S OO σ (tOp (Et K) ta (tC (.int 0))) r (m.bind λp=>.ok p.1):=λH Q w s P=>
 ha.run w s FB.tr P λa x H1 s1 w1 q1 r9 P1=>by obtain⟨p,x,y,e,q,h1,h2⟩:=r9;exact⟨p,_,0,x,e,rfl,SqT.of q,rfl,P1 _ H1 (Xv.refl _) h1⟩
theorem Mq {ta:TE}{r:Enc α}{q:Enc β}{m:Rs (α×β)}(ha:EvB K Er S OO σ ta (rP2 r q) m):EvB K Er S OO σ (tOp (Et K) ta (tC (.int 1))) q (m.bind λp=>.ok p.2):=λH Q w s P=>
 ha.run w s FB.tr P λa x H1 s1 w1 q1 r9 P1=>by obtain⟨p,x,y,e,q,h1,h2⟩:=r9;exact⟨p,_,1,y,e,rfl,SqT.of q,rfl,P1 _ H1 (Xv.refl _) h2⟩
theorem MA {ta:TE}{r:Enc α}{q:Enc β}{m:Rs (α×β)}(ha:EvS K Er S OO σ ta (rP2 r q) m):EvS K Er S OO σ (tOp (Et K) ta (tC (.int 0))) r (m.bind λp=>.ok p.1):=λH Q w s P=>
 ha.run w s FS.tr P λa x H1 s1 w1 q1 r9 P1=>by obtain⟨p,x,y,e,q,h1,h2⟩:=r9;exact⟨p,_,0,x,e,rfl,SqT.of (Xz _ _ q),rfl,P1 _ H1 (Xv.refl _) h1⟩
theorem MM {ta:TE}{r:Enc α}{q:Enc β}{m:Rs (α×β)}(ha:EvS K Er S OO σ ta (rP2 r q) m):EvS K Er S OO σ (tOp (Et K) ta (tC (.int 1))) q (m.bind λp=>.ok p.2):=λH Q w s P=>
 ha.run w s FS.tr P λa x H1 s1 w1 q1 r9 P1=>by obtain⟨p,x,y,e,q,h1,h2⟩:=r9;exact⟨p,_,1,y,e,rfl,SqT.of (Xz _ _ q),rfl,P1 _ H1 (Xv.refl _) h2⟩
theorem Qy {ta:TE}{r:Enc α}{m:Rs (List α)}(ha:EvB K Er S OO σ ta (rV r) m):EvB K Er S OO σ (tCB (Dk K) (Xo ta YN)) Xc (m.bind λas=>.ok (as.length:Int)):=λH Q w s P=>
 ha.run w s FB.tr P λa x H1 s1 w1 q1 r9 P1=>by obtain⟨p,xs,e,q,pr⟩:=r9;exact⟨p,xs,by rw[e], .inl (SqL.of q),P1 _ H1 (Xv.refl _) (by rw[Paired.len pr];rfl)⟩
theorem M7 {r:Enc α}[z:MonoE r]{xs:List V}{as:List α}{H:Hp}{Q:VK}(w:W OO H)(pr:Paired (r K (hid H OO)) xs as)(P:FO K OO OO (oL (oF r)) Q as H):∀p,H p=none->Q (.ref p) (upd H p (.lst xs)):=λp hp=>by
 have hn:=VC (OO:=OO) hp (o:=.lst xs)
 refine P (.ref p) [(p, .lst xs)] _ (XE hp _) (w.new hp rfl) hn ?_
 refine⟨p,xs,List.replicate as.length [],rfl,(P3.of (Paired.imp2 (λ_ _ h=>z.mono hn h) pr)).imp λ_ _ _ h=>h,by rw[Yf]⟩
theorem Paired.take' {F:α->β->Prop}:∀{l:List α}{m:List β} (n:Nat),Paired F l m->Paired F (l.take n) (m.take n)
 |_,_,0,_=>.nil
 |_,_,_+1, .nil=>.nil
 |_,_,n+1, .cons r t=>.cons r (Paired.take' n t)
theorem Paired.drop' {F:α->β->Prop}:∀{l:List α}{m:List β} (n:Nat),Paired F l m->Paired F (l.drop n) (m.drop n)
 |_,_,0,h=>h
 |_,_,_+1, .nil=>.nil
 |_,_,n+1, .cons _ t=>Paired.drop' n t
theorem Paired.rep' {F:α->β->Prop}{l:List α}{m:List β}(h:Paired F l m):∀n:Nat,Paired F (List.replicate n l).flatten (List.replicate n m).flatten
 |0=>.nil
 |n+1=>by simp only[List.replicate_succ,List.flatten_cons];exact Paired.app h (Paired.rep' h n)
noncomputable def CY (as:List α)(lo hi:Option Int):List α:=(as.drop (HT.sIx as.length 0 lo)).take (HT.sIx as.length as.length hi-HT.sIx as.length 0 lo)
theorem Ju {F:V->α->Prop}{xs:List V}{as:List α}(p:Paired F xs as)(lo hi:Option Int):Paired F (LB xs lo hi) (CY as lo hi):=by
 unfold LB CY;rw[Paired.len p];exact Paired.take' _ (Paired.drop' _ p)
noncomputable def FP (Q:Option Int->Hp->Prop)(a:Option Int)(H:Hp):Prop:=∀ H',Xv H H'->Q a H'
noncomputable def EvP (Er:Exc->Hp->Prop)(S:SC)(OO:List (List Xq))(σ:St)(t:TO)(m:Rs (Option Int)):Prop:=∀ H Q,W OO H->S.p (hid H OO)->PZ Er (FP Q) H m->t σ H Q
theorem EvP.run {t:TO}{m:Rs (Option Int)}(he:EvP Er S OO σ t m){H:Hp}{Q:Option Int->Hp->Prop}(w:W OO H)(s:S.p (hid H OO)){f:Option Int->Rs β}{F:β->Hp->Prop}(hF:∀b H H',Xv H H'->F b H->F b H')(P:PZ Er F H (m.bind f))
  (hk:∀a H',Xv H H'->W OO H'->S.p (hid H' OO)->PZ Er F H' (f a)->Q a H'):t σ H Q:=by
 refine he H Q w s ?_
 cases e:m with
 |bad=>rw[e] at P;exact P
 |err x=>rw[e] at P;exact P
 |ok a=>exact λH' s'=>hk a H' s' (w.keep s') (S.mono _ _ (Xi s') s) (PZ.run e hF s' P)
theorem IJ:EvP Er S OO σ Fh (.ok none):=λH Q w s P=>P H (Xv.refl _)
theorem HX {te:TE}{m:Rs Int}(h:EvB K Er S OO σ te Xc m):EvP Er S OO σ (NE te) (m.bind λi=>.ok (some i)):=λH Q w s P=>
 h.run w s (λ_ _ _ s h H2 s2=>h H2 (s.trans s2)) P λa v H1 s1 w1 q1 r1 P1=>⟨a,r1,P1 H1 (Xv.refl _)⟩
theorem Iu {te:TE}{tl th:TO}{r:Enc α}[z:MonoE r]{m:Rs (List α)}{ml mh:Rs (Option Int)}(he:EvL K Er S OO σ te r m)(hl:EvP Er S OO σ tl ml)(hh:EvP Er S OO σ th mh):
  Ev K Er S OO OO σ (tSl (Pf K) te tl th) (oL (oF r)) (m.bind λas=>ml.bind λlo=>mh.bind λhi=>.ok (CY as lo hi)):=λH Q w s P=>
 he.run w s FO.tr P λas x H1 s1 w1 q1 ⟨p,xs,e,q,pr⟩ P1=>hl.run w1 q1 FO.tr P1 λlo H2 s2 w2 q2 P2=>hh.run w2 q2 FO.tr P2 λhi H3 s3 w3 q3 P3'=>
  ⟨p,xs,e,SqL.of (s3 _ _ (s2 _ _ q)),M7 w3 (Ju (Paired.imp2 (λ_ _ h=>z.mono ((Xi s2).trans (Xi s3)) h) pr) lo hi) P3'⟩
theorem Im {ta:TE}{r:Enc α}{m:Rs (List α)}(ha:EvB K Er S OO σ ta (rL r) m):EvB K Er S OO σ (tCB (Dk K) (Xo ta YN)) Xc (m.bind λas=>.ok (as.length:Int)):=λH Q w s P=>
 ha.run w s FB.tr P λa x H1 s1 w1 q1 r9 P1=>by obtain⟨p,xs,e,q,pr⟩:=r9;exact⟨p,xs,by rw[e], .inl q,P1 _ H1 (Xv.refl _) (by rw[Paired.len pr];rfl)⟩
theorem MZ {ta tb:TE}{ma:Rs (List Int)}{mb:Rs Int}(ha:EvB K Er S OO σ ta (rL Xc) ma)(hb:EvB K Er S OO σ tb Xc mb):EvB K Er S OO σ (tOp (HB K) ta tb) Xc (ma.bind λas=>mb.bind λi=>atR as i):=λH Q w s P=>
 ha.run w s FB.tr P λa x H1 s1 w1 q1 ⟨p,xs,e,q,pr⟩ P1=>hb.run w1 q1 FB.tr P1 λb y H2 s2 w2 q2 r2 P2=>by
  obtain⟨c,hc,P3⟩:=P2.okOf λx=>KI
  obtain⟨u,h1,h2⟩:=Jl pr (F0 hc)
  exact⟨p,xs,b,u,e,r2,s2.seq q,h1,P3 u H2 (Xv.refl _) h2⟩
theorem EW {te:TE}{tl th:TO}{m:Rs (List Int)}{ml mh:Rs (Option Int)}(he:EvB K Er S OO σ te (rL Xc) m)(hl:EvP Er S OO σ tl ml)(hh:EvP Er S OO σ th mh):
  Ev K Er S OO OO σ (tSl (Pf K) te tl th) (oL (oF Xc)) (m.bind λas=>ml.bind λlo=>mh.bind λhi=>.ok (CY as lo hi)):=λH Q w s P=>
 he.run w s FO.tr P λas x H1 s1 w1 q1 ⟨p,xs,e,q,pr⟩ P1=>hl.run w1 q1 FO.tr P1 λlo H2 s2 w2 q2 P2=>hh.run w2 q2 FO.tr P2 λhi H3 s3 w3 q3 P3'=>
  ⟨p,xs,e,s3.seq (s2.seq q),M7 w3 (Ju (Paired.imp2 (λ_ _ h=>h) pr) lo hi) P3'⟩
noncomputable def NL (as bs:List α):Rs (List α):=chk (as.length+bs.length<=sizeLine) (.ok (as++bs))
theorem Ln {ta tb:TE}{r:Enc α}[z:MonoE r]{ma mb:Rs (List α)}(ha:EvL K Er S OO σ ta r ma)(hb:EvL K Er S OO σ tb r mb):Ev K Er S OO OO σ (tOp PN ta tb) (oL (oF r)) (ma.bind λas=>mb.bind λbs=>NL as bs):=λH Q w s P=>
 ha.run w s FO.tr P λas x H1 s1 w1 q1 ⟨p,xs,e,q,pr⟩ P1=>hb.run w1 q1 FO.tr P1 λbs y H2 s2 w2 q2 ⟨p',ys,e',q',pr'⟩ P2=>by
  obtain⟨c,hc,P3⟩:=P2.okOf λx=>Qq
  obtain⟨h1,h2⟩:=Zf hc
  cases h2
  exact⟨p,p',xs,ys,e,e',s2 _ _ q,q',by rw[Paired.len pr,Paired.len pr'];exact h1,M7 w2 (Paired.app (Paired.imp2 (λ_ _ h=>z.mono (Xi s2) h) pr) pr') P3⟩
noncomputable def Bm (as:List α)(n:Int):Rs (List α):=chk (-(2^63)<=n/\n<2^63/\as.length*n.toNat<=sizeLine) (.ok (List.replicate n.toNat as).flatten)
theorem Oi {ta tb:TE}{r:Enc α}[z:MonoE r]{ma:Rs (List α)}{mb:Rs Int}(ha:EvL K Er S OO σ ta r ma)(hb:EvB K Er S OO σ tb Xc mb):Ev K Er S OO OO σ (tOp P0 ta tb) (oL (oF r)) (ma.bind λas=>mb.bind λn=>Bm as n):=λH Q w s P=>
 ha.run w s FO.tr P λas x H1 s1 w1 q1 ⟨p,xs,e,q,pr⟩ P1=>hb.run w1 q1 FO.tr P1 λn y H2 s2 w2 q2 r2 P2=>by
  obtain⟨c,hc,P3⟩:=P2.okOf λx=>Qq
  obtain⟨⟨h0,h1,h3⟩,h2⟩:=Zf hc
  cases h2
  exact⟨p,n,xs,e,r2,s2 _ _ q,h0,h1,by rw[Paired.len pr];exact h3,M7 w2 (Paired.rep' (Paired.imp2 (λ_ _ h=>z.mono (Xi s2) h) pr) _) P3⟩
theorem E6 {ta:TE}{r:Enc α}[z:MonoE r]{ma:Rs (List α)}(ha:EvL K Er S OO σ ta r ma):Ev K Er S OO OO σ (tCB (Fg K) (Xo ta YN)) (oL (oF r)) (ma.bind λas=>.ok as):=λH Q w s P=>
 ha.run w s FO.tr P λas x H1 s1 w1 q1 r9 P1=>by obtain⟨p,xs,e,q,pr⟩:=r9;exact⟨p,xs,by rw[e], .inl (SqL.of q),M7 w1 pr P1⟩
noncomputable def Qr (lo hi:Int):List Int:=(List.range (hi-lo).toNat).map λ(i:Nat)=>lo+(i:Int)
theorem KS {ta:TE}{ma:Rs Int}(ha:EvB K Er S OO σ ta Xc ma):Ev K Er S OO OO σ (FV (Xo ta YN)) (oL (oF Xc)) (ma.bind λn=>chk (0<=n/\n<=1000) (.ok (Qr 0 n))):=λH Q w s P=>
 ha.run w s FO.tr P λn x H1 s1 w1 q1 r1 P1=>by
  obtain⟨c,hc,P3⟩:=P1.okOf λx=>Qq
  obtain⟨⟨h0,h1⟩,h2⟩:=Zf hc
  cases h2
  refine⟨n,by rw[show x= .int n from r1],h0,h1,M7 w1 ?_ P3⟩
  unfold Qr
  rw[Int.sub_zero]
  have:∀l:List Nat,Paired (Xc K (hid H1 OO)) (l.map λ(i:Nat)=>V.int (i:Int)) (l.map λ(i:Nat)=>(0:Int)+(i:Int)):=λl=>by
   induction l with
   |nil=>exact .nil
   |cons a l ih=>exact .cons (by show V.int (a:Int)=V.int (0+(a:Int));rw[Int.zero_add]) ih
  exact this _
theorem Zk {o:OE α}:Ev K Er S OO OO σ (CK YN) (oL o) (.ok []):=λH Q w s P=>⟨Nat.zero_le _,λp hp=>P (.ref p) [(p, .lst [])] _ (XE hp _) (w.new hp rfl) (VC hp) ⟨p,[],[],rfl, .nil,rfl⟩⟩
noncomputable def FA {α:Type}(K:PySem.W.Frag)(OO:List (List Xq))(r:Enc α)(Q:List V->Hp->Prop)(as:List α)(H:Hp):Prop:=∀ vs H',Xv H H'->Paired (r K (hid H' OO)) vs as->Q vs H'
noncomputable def EvA {α:Type}(K:PySem.W.Frag)(Er:Exc->Hp->Prop)(S:SC)(OO:List (List Xq))(σ:St)(t:TA)(r:Enc α)(m:Rs (List α)):Prop:=∀ H Q,W OO H->S.p (hid H OO)->PZ Er (FA K OO r Q) H m->t σ H Q
theorem Mr {r:Enc α}:EvA K Er S OO σ YN r (.ok []):=λH Q w s P=>P [] H (Xv.refl _) .nil
theorem F8 {te:TE}{t:TA}{r:Enc α}[z:MonoE r]{m:Rs α}{n:Rs (List α)}(he:EvS K Er S OO σ te r m)(ht:EvA K Er S OO σ t r n):EvA K Er S OO σ (Xo te t) r (m.bind λa=>n.bind λas=>.ok (a::as)):=λH Q w s P=>
 he.run w s (λb H H' s h vs H2 s2 p=>h vs H2 (s.trans s2) p) P λa x H1 s1 w1 q1 r1 P1=>by
  refine ht H1 _ w1 q1 ?_
  cases e:n with
  |bad=>rw[e] at P1;exact P1
  |err x=>rw[e] at P1;exact P1
  |ok as=>rw[e] at P1;exact λvs H2 s2 p=>P1 (x::vs) H2 s2 (.cons (z.mono (Xi s2) r1) p)
theorem E7 {t:TA}{r:Enc α}[z:MonoE r]{m:Rs (List α)}(h:EvA K Er S OO σ t r m):Ev K Er S OO OO σ (CK t) (oL (oF r)) (m.bind λas=>chk (as.length<=sizeLine) (.ok as)):=λH Q w s P=>by
 refine h H _ w s ?_
 cases e:m with
 |bad=>rw[e] at P;exact P
 |err x=>rw[e] at P;exact P
 |ok as=>
  rw[e] at P
  intro vs H1 s1 p
  obtain⟨c,hc,P3⟩:=PZ.okOf (λx=>Qq) (show PZ Er _ H (chk (as.length<=sizeLine) (.ok as)) from P)
  obtain⟨h1,h2⟩:=Zf hc
  cases h2
  exact⟨by rw[Paired.len p];exact h1,M7 (w.keep s1) p (FO.tr _ _ _ s1 P3)⟩
theorem J2 {ta tb:TE}{r:Enc α}{q:Enc β}[z:MonoE r][y:MonoE q]{ma:Rs α}{mb:Rs β}(ha:EvS K Er S OO σ ta r ma)(hb:EvS K Er S OO σ tb q mb):EvS K Er S OO σ (NR (Xo ta (Xo tb YN))) (rP2 r q) (ma.bind λa=>mb.bind λb=>.ok (a,b)):=λH Q w s P=>
 ha.run w s FS.tr P λa x H1 s1 w1 q1 r1 P1=>hb.run w1 q1 FS.tr P1 λb y' H2 s2 w2 q2 r2 P2=>
  ⟨by show 2<=sizeLine;decide,λp hp=>P2 _ _ (XE hp _) ⟨p,x,y',rfl,QU w2 hp,z.mono ((Xi s2).trans (Xi (XE hp _))) r1,y.mono (Xi (XE hp _)) r2⟩⟩
theorem Dv {ta tb tc:TE}{r:Enc α}{q:Enc β}{t:Enc γ}[z:MonoE r][y:MonoE q][x:MonoE t]{ma:Rs α}{mb:Rs β}{mc:Rs γ}(ha:EvS K Er S OO σ ta r ma)(hb:EvS K Er S OO σ tb q mb)(hc:EvS K Er S OO σ tc t mc):
  EvS K Er S OO σ (NR (Xo ta (Xo tb (Xo tc YN)))) (rP3 r q t) (ma.bind λa=>mb.bind λb=>mc.bind λc=>.ok (a,b,c)):=λH Q w s P=>
 ha.run w s FS.tr P λa x' H1 s1 w1 q1 r1 P1=>hb.run w1 q1 FS.tr P1 λb y' H2 s2 w2 q2 r2 P2=>hc.run w2 q2 FS.tr P2 λc z' H3 s3 w3 q3 r3 P3=>
  ⟨by show 3<=sizeLine;decide,λp hp=>P3 _ _ (XE hp _) ⟨p,x',y',z',rfl,QU w3 hp,z.mono (((Xi s2).trans (Xi s3)).trans (Xi (XE hp _))) r1,y.mono ((Xi s3).trans (Xi (XE hp _))) r2,x.mono (Xi (XE hp _)) r3⟩⟩
end
section
variable {K:PySem.W.Frag}{Er:Exc->Hp->Prop}{S:SC}{OO OO' OO2:List (List Xq)}{σ:St}{α β γ ρ ι:Type}{α1 α2 α3 α4 α5 α6:Type}
noncomputable def noE (m:Rs α):Rs α:=match m with
 | .ok a=>.ok a
 |_=>.bad
theorem Uu {m:Rs α}{a:α}(h:noE m= .ok a):m= .ok a:=by
 cases m with
 |ok b=>exact h
 |bad=>cases h
 |err x=>cases h
theorem Us {m:Rs α}{x:Exc}:noE m≠ .err x:=by cases m<;> exact λz=>nomatch z
noncomputable def FF (K:PySem.W.Frag)(o:OE α)(Q:VK)(a:α)(H:Hp):Prop:=∀ v C H',W [C] H'->Xv H (hid H' [C])->o K (hid H' [C]) v a C->Q v H'
noncomputable def sp1 (r1:Enc α1)(o:OE ρ)(f:α1->Rs ρ)(K:PySem.W.Frag):Sp:=λvs H Q _=>∃ v1 a1 b,vs=[v1]/\r1 K H v1 a1/\f a1= .ok b/\FF K o Q b H
noncomputable def sp2 (r1:Enc α1)(r2:Enc α2)(o:OE ρ)(f:α1->α2->Rs ρ)(K:PySem.W.Frag):Sp:=λvs H Q _=>∃ v1 v2 a1 a2 b,vs=[v1,v2]/\r1 K H v1 a1/\r2 K H v2 a2/\f a1 a2= .ok b/\FF K o Q b H
noncomputable def sp3 (r1:Enc α1)(r2:Enc α2)(r3:Enc α3)(o:OE ρ)(f:α1->α2->α3->Rs ρ)(K:PySem.W.Frag):Sp:=λvs H Q _=>∃ v1 v2 v3 a1 a2 a3 b,vs=[v1,v2,v3]/\r1 K H v1 a1/\r2 K H v2 a2/\r3 K H v3 a3/\f a1 a2 a3= .ok b/\FF K o Q b H
noncomputable def sp4 (r1:Enc α1)(r2:Enc α2)(r3:Enc α3)(r4:Enc α4)(o:OE ρ)(f:α1->α2->α3->α4->Rs ρ)(K:PySem.W.Frag):Sp:=λvs H Q _=>∃ v1 v2 v3 v4 a1 a2 a3 a4 b,vs=[v1,v2,v3,v4]/\r1 K H v1 a1/\r2 K H v2 a2/\r3 K H v3 a3/\r4 K H v4 a4/\f a1 a2 a3 a4= .ok b/\FF K o Q b H
noncomputable def sp5 (r1:Enc α1)(r2:Enc α2)(r3:Enc α3)(r4:Enc α4)(r5:Enc α5)(o:OE ρ)(f:α1->α2->α3->α4->α5->Rs ρ)(K:PySem.W.Frag):Sp:=λvs H Q _=>∃ v1 v2 v3 v4 v5 a1 a2 a3 a4 a5 b,vs=[v1,v2,v3,v4,v5]/\r1 K H v1 a1/\r2 K H v2 a2/\r3 K H v3 a3/\r4 K H v4 a4/\r5 K H v5 a5/\f a1 a2 a3 a4 a5= .ok b/\FF K o Q b H
theorem Rf {C:List Xq}{H H':Hp}(w:W OO H)(w':W [C] H')(m':Xv H (hid H' [C])):W (C::OO) H'/\Xv (hid H OO) (hid H' (C::OO))/\CH (hid H' [C]) (hid H' (C::OO)):=by
 have s:Xv H H':=m'.trans Xz
 have f1:fl [C]=C.map (·.1):=by simp[fl]
 have hd:∀b,b∈fl OO->b∉C.map (·.1):=λb hb hc=>by
  obtain⟨u,hu⟩:=Cg hb
  exact(X1 (m' _ _ (w.tr _ hu))).2 (by rw[f1];exact hc)
 have w2:W (C::OO) H':=by
  refine⟨λc hc=>?_,?_,λc hc=>?_⟩
  ·rw[List.flatten_cons,List.mem_append] at hc
   rcases hc with hc |hc
   ·exact w'.tr c (by simp[hc])
   ·exact s _ _ (w.tr c hc)
  ·rw[XX]
   refine List.nodup_append.mpr ⟨by rw[←f1];exact w'.nd,w.nd,λa ha b hb e=>?_⟩
   subst e;exact hd a hb ha
  ·rw[List.flatten_cons,List.mem_append] at hc
   rcases hc with hc |hc
   ·exact w'.mu c (by simp[hc])
   ·exact w.mu c hc
 refine⟨w2,λb u q=>?_,λb u q i=>?_⟩
 ·obtain⟨q1,q2⟩:=X1 q
  obtain⟨q3,q4⟩:=X1 (m' _ _ q1)
  refine Zg q3 ?_
  rw[XX,List.mem_append]
  exact λz=>z.elim (λz=>q4 (by rw[f1];exact z)) q2
 ·exact w2.i b u (X1 q).1 i
theorem VR {o:OE α}[z:FlatO o]{Q:VK}{b:α}{H:Hp}(w:W OO H)(P:FO K OO OO o Q b H):FF K o Q b H:=λv C H' w' m' ho=>by
 obtain⟨w2,h2,h3⟩:=Rf w w' m'
 exact P v C H' (m'.trans Xz) w2 h2 (z.flat h3 ho)
theorem Ql {ta:TE}{r1:Enc α1}{o:OE ρ}[FlatO o]{f:α1->Rs ρ}{ma:Rs α1}(ha:EvB K Er S OO σ ta r1 ma):Ev K Er S OO OO σ (JO (sp1 r1 o f K) [] E0 (Xo ta YN)) o (ma.bind λa=>noE (f a)):=λH Q w s P=>
 ha.run w s FO.tr P λa x H1 s1 w1 q1 r1 P1=>by
  obtain⟨b,hb,P2⟩:=P1.okOf λx=>Us
  exact⟨x,a,b,rfl,r1,Uu hb,VR w1 P2⟩
theorem Zw {ta tb:TE}{r1:Enc α1}{r2:Enc α2}[z1:MonoE r1]{o:OE ρ}[FlatO o]{f:α1->α2->Rs ρ}{ma:Rs α1}{mb:Rs α2}(ha:EvB K Er S OO σ ta r1 ma)(hb:EvB K Er S OO σ tb r2 mb):
  Ev K Er S OO OO σ (JO (sp2 r1 r2 o f K) [] E0 (Xo ta (Xo tb YN))) o (ma.bind λa=>mb.bind λb=>noE (f a b)):=λH Q w s P=>
 ha.run w s FO.tr P λa x H1 s1 w1 q1 r1 P1=>hb.run w1 q1 FO.tr P1 λb y H2 s2 w2 q2 r2 P2=>by
  obtain⟨c,hc,P3⟩:=P2.okOf λx=>Us
  exact⟨x,y,a,b,c,rfl,z1.mono s2 r1,r2,Uu hc,VR w2 P3⟩
theorem ZL {ta tb tc:TE}{r1:Enc α1}{r2:Enc α2}{r3:Enc α3}[z1:MonoE r1][z2:MonoE r2]{o:OE ρ}[FlatO o]{f:α1->α2->α3->Rs ρ}{ma:Rs α1}{mb:Rs α2}{mc:Rs α3}(ha:EvB K Er S OO σ ta r1 ma)(hb:EvB K Er S OO σ tb r2 mb)(hc:EvB K Er S OO σ tc r3 mc):
  Ev K Er S OO OO σ (JO (sp3 r1 r2 r3 o f K) [] E0 (Xo ta (Xo tb (Xo tc YN)))) o (ma.bind λa=>mb.bind λb=>mc.bind λc=>noE (f a b c)):=λH Q w s P=>
 ha.run w s FO.tr P λa x H1 s1 w1 q1 r1 P1=>hb.run w1 q1 FO.tr P1 λb y H2 s2 w2 q2 r2 P2=>hc.run w2 q2 FO.tr P2 λc z H3 s3 w3 q3 r3 P3=>by
  obtain⟨d,hd,P4⟩:=P3.okOf λx=>Us
  exact⟨x,y,z,a,b,c,d,rfl,z1.mono (s2.trans s3) r1,z2.mono s3 r2,r3,Uu hd,VR w3 P4⟩
theorem IK {ta tb tc td:TE}{r1:Enc α1}{r2:Enc α2}{r3:Enc α3}{r4:Enc α4}[z1:MonoE r1][z2:MonoE r2][z3:MonoE r3]{o:OE ρ}[FlatO o]{f:α1->α2->α3->α4->Rs ρ}{ma:Rs α1}{mb:Rs α2}{mc:Rs α3}{md:Rs α4}(ha:EvB K Er S OO σ ta r1 ma)(hb:EvB K Er S OO σ tb r2 mb)(hc:EvB K Er S OO σ tc r3 mc)(hd:EvB K Er S OO σ td r4 md):
  Ev K Er S OO OO σ (JO (sp4 r1 r2 r3 r4 o f K) [] E0 (Xo ta (Xo tb (Xo tc (Xo td YN))))) o (ma.bind λa=>mb.bind λb=>mc.bind λc=>md.bind λd=>noE (f a b c d)):=λH Q w s P=>
 ha.run w s FO.tr P λa x H1 s1 w1 q1 r1 P1=>hb.run w1 q1 FO.tr P1 λb y H2 s2 w2 q2 r2 P2=>hc.run w2 q2 FO.tr P2 λc z H3 s3 w3 q3 r3 P3=>hd.run w3 q3 FO.tr P3 λd u H4 s4 w4 q4 r4 P4=>by
  obtain⟨e,he,P5⟩:=P4.okOf λx=>Us
  exact⟨x,y,z,u,a,b,c,d,e,rfl,z1.mono (s2.trans (s3.trans s4)) r1,z2.mono (s3.trans s4) r2,z3.mono s4 r3,r4,Uu he,VR w4 P5⟩
theorem Dh {ta tb tc td te:TE}{r1:Enc α1}{r2:Enc α2}{r3:Enc α3}{r4:Enc α4}{r5:Enc α5}[z1:MonoE r1][z2:MonoE r2][z3:MonoE r3][z4:MonoE r4]{o:OE ρ}[FlatO o]{f:α1->α2->α3->α4->α5->Rs ρ}{ma:Rs α1}{mb:Rs α2}{mc:Rs α3}{md:Rs α4}{me:Rs α5}(ha:EvB K Er S OO σ ta r1 ma)(hb:EvB K Er S OO σ tb r2 mb)(hc:EvB K Er S OO σ tc r3 mc)(hd:EvB K Er S OO σ td r4 md)(he:EvB K Er S OO σ te r5 me):
  Ev K Er S OO OO σ (JO (sp5 r1 r2 r3 r4 r5 o f K) [] E0 (Xo ta (Xo tb (Xo tc (Xo td (Xo te YN)))))) o (ma.bind λa=>mb.bind λb=>mc.bind λc=>md.bind λd=>me.bind λe=>noE (f a b c d e)):=λH Q w s P=>
 ha.run w s FO.tr P λa x H1 s1 w1 q1 r1 P1=>hb.run w1 q1 FO.tr P1 λb y H2 s2 w2 q2 r2 P2=>hc.run w2 q2 FO.tr P2 λc z H3 s3 w3 q3 r3 P3=>hd.run w3 q3 FO.tr P3 λd u H4 s4 w4 q4 r4 P4=>he.run w4 q4 FO.tr P4 λe t H5 s5 w5 q5 r5 P5=>by
  obtain⟨g,hg,P6⟩:=P5.okOf λx=>Us
  exact⟨x,y,z,u,t,a,b,c,d,e,g,rfl,z1.mono (s2.trans (s3.trans (s4.trans s5))) r1,z2.mono (s3.trans (s4.trans s5)) r2,z3.mono (s4.trans s5) r3,z4.mono s5 r4,r5,Uu hg,VR w5 P6⟩
structure Jn (γ ι:Type) where
 oo:ι->List (List Xq)
 ss:ι->St
 sc:γ->ι->SC
inductive Ctl (ρ γ:Type) where
 |ret (r:ρ) |nx (g:γ)
noncomputable def FTd (K:PySem.W.Frag)(o:OE ρ)(D:Ends)(r:ρ)(h:Hp):Prop:=∀ v C OO' H',W (C::OO') H'->Xv h (hid H' (C::OO'))->o K (hid H' (C::OO')) v r C->D.rt v H'
noncomputable def FNd (J:Jn γ ι)(D:Ends)(g:γ)(h:Hp):Prop:=∀ x H',W (J.oo x) H'->Xv h (hid H' (J.oo x))->(J.sc g x).p (hid H' (J.oo x))->D.nx (J.ss x) H'
noncomputable def FCd (K:PySem.W.Frag)(o:OE ρ)(J:Jn γ ι)(D:Ends)(c:Ctl ρ γ)(h:Hp):Prop:=match c with
 | .ret r=>FTd K o D r h
 | .nx g=>FNd J D g h
class FdOk (Fd:Ends->β->Hp->Prop):Prop where
 tr:∀D b h h',Xv h h'->Fd D b h->Fd D b h'
instance {o:OE ρ}:FdOk (FTd K o):=⟨λD b h h' s q v C O H' w m x=>q v C O H' w (s.trans m) x⟩
instance {J:Jn γ ι}:FdOk (FNd J):=⟨λD b h h' s q x H' w m y=>q x H' w (s.trans m) y⟩
instance {o:OE ρ}{J:Jn γ ι}:FdOk (FCd K o J):=⟨λD b h h' s q=>by
 cases b with
 |ret r=>exact λv C O H' w m x=>q v C O H' w (s.trans m) x
 |nx g=>exact λx H' w m y=>q x H' w (s.trans m) y⟩
theorem PZ.tr {F:β->Hp->Prop}(hF:∀b H H',Xv H H'->F b H->F b H'){H H':Hp}{m:Rs β}(s:Xv H H')(P:PZ Er F H m):PZ Er F H' m:=by
 cases m with
 |bad=>exact P
 |err x=>exact λH2 s2=>P H2 (s.trans s2)
 |ok b=>exact hF b H H' s P
noncomputable def Sv (Er:Exc->Hp->Prop)(S:SC)(OO:List (List Xq))(σ:St)(t:TS)(Fd:Ends->β->Hp->Prop)(m:Rs β):Prop:=∀ H D,W OO H->S.p (hid H OO)->PZ Er (Fd D) (hid H OO) m->t D σ H
variable {Fd:Ends->β->Hp->Prop}[fd:FdOk Fd]{u:TS}
theorem Ev.st {te:TE}{o:OE α}{m:Rs α}(he:Ev K Er S OO OO' σ te o m){H:Hp}{D:Ends}{Q:VK}(w:W OO H)(s:S.p (hid H OO)){f:α->Rs β}(P:PZ Er (Fd D) (hid H OO) (m.bind f))
  (hk:∀a v C H',W (C::OO') H'->S.p (hid H' (C::OO'))->o K (hid H' (C::OO')) v a C->PZ Er (Fd D) (hid H' (C::OO')) (f a)->Q v H'):te σ H Q:=by
 refine he H Q w s ?_
 cases m with
 |bad=>exact P
 |err x=>exact λH' s'=>P H' (Xz.trans s')
 |ok a=>exact λv C H' s' w' m' ho=>hk a v C H' w' (S.mono _ _ m' s) ho (PZ.tr (fd.tr D) m' P)
theorem EvB.st {te:TE}{r:Enc α}{m:Rs α}(he:EvB K Er S OO σ te r m){H:Hp}{D:Ends}{Q:VK}(w:W OO H)(s:S.p (hid H OO)){f:α->Rs β}(P:PZ Er (Fd D) (hid H OO) (m.bind f))
  (hk:∀a v H',Xv H H'->W OO H'->S.p (hid H' OO)->r K H' v a->PZ Er (Fd D) (hid H' OO) (f a)->Q v H'):te σ H Q:=by
 refine he H Q w s ?_
 cases m with
 |bad=>exact P
 |err x=>exact λH' s'=>P H' (Xz.trans s')
 |ok a=>exact λv H' s' hr=>hk a v H' s' (w.keep s') (S.mono _ _ (Xi s') s) hr (PZ.tr (fd.tr D) (Xi s') P)
theorem EvS.st {te:TE}{r:Enc α}{m:Rs α}(he:EvS K Er S OO σ te r m){H:Hp}{D:Ends}{Q:VK}(w:W OO H)(s:S.p (hid H OO)){f:α->Rs β}(P:PZ Er (Fd D) (hid H OO) (m.bind f))
  (hk:∀a v H',Xv H H'->W OO H'->S.p (hid H' OO)->r K (hid H' OO) v a->PZ Er (Fd D) (hid H' OO) (f a)->Q v H'):te σ H Q:=by
 refine he H Q w s ?_
 cases m with
 |bad=>exact P
 |err x=>exact λH' s'=>P H' (Xz.trans s')
 |ok a=>exact λv H' s' hr=>hk a v H' s' (w.keep s') (S.mono _ _ (Xi s') s) hr (PZ.tr (fd.tr D) (Xi s') P)
theorem EvT.st {tt:TT}{m:Rs Bool}(he:EvT Er S OO σ tt m){H:Hp}{D:Ends}{Q:Bool->Hp->Prop}(w:W OO H)(s:S.p (hid H OO)){f:Bool->Rs β}(P:PZ Er (Fd D) (hid H OO) (m.bind f))
  (hk:∀b H',W OO H'->S.p (hid H' OO)->PZ Er (Fd D) (hid H' OO) (f b)->Q b H'):tt σ H Q:=by
 refine he H Q w s ?_
 cases m with
 |bad=>exact P
 |err x=>exact λH' s'=>P H' (Xz.trans s')
 |ok a=>exact λH' s'=>hk a H' (w.keep s') (S.mono _ _ (Xi s') s) (PZ.tr (fd.tr D) (Xi s') P)
theorem U2 {OO:List (List Xq)}{k:Nat}{C:List Xq}:(OO.set k C).set k []=OO.set k []:=by simp
theorem RV {C:List Xq}{H:Hp}{k:Nat}(w:W (C::OO) H)(hk:k<OO.length):W (OO.set k C) H/\Xv (hid H (C::OO)) (hid H (OO.set k C)):=by
 have h1:=XT (OO:=OO) (k:=k) (C:=OO[k]) (by simp[hk])
 have h2:=XT (OO:=OO.set k C) (k:=k) (C:=C) (by simp[hk])
 rw[U2] at h2
 have h3:(OO.set k C).flatten.Perm (C++(OO.set k []).flatten):=by simpa using h2.symm
 have h4:(C::OO).flatten.Perm (C++(OO[k]++(OO.set k []).flatten)):=by
  rw[List.flatten_cons];exact(by simpa using h1.symm:OO.flatten.Perm (OO[k]++(OO.set k []).flatten)).append_left C
 have h5:(C++(OO.set k []).flatten).Sublist (C++(OO[k]++(OO.set k []).flatten)):=List.Sublist.append (List.Sublist.refl _) (List.sublist_append_right _ _)
 have w1:W [C++(OO[k]++(OO.set k []).flatten)] H:=w.of (by simpa using h4.symm)
 have w2:W [C++(OO.set k []).flatten] H:=w1.sub (by simpa using h5)
 refine⟨w2.of (by simpa using h3),Qh (Xv.refl _) λb hb=>?_⟩
 obtain⟨o,ho⟩:=Cg hb
 exact Uf (h4.mem_iff.mpr (h5.mem (h3.mem_iff.mp ho)))
theorem UD {te:TE}{o:OE α}[MonoO o]{m:Rs α}{f:α->Rs β}(i k:Nat)(he:Ev K Er S OO OO' σ te o m)(hk:k<OO'.length)(hr:∀a v C,Sv Er (S.addO K o v a C) (OO'.set k C) (σ.set i (some v)) u Fd (f a)):Sv Er S OO σ (ZK (DT te (YC i)) u) Fd (m.bind f):=λH D w s P=>
 he.st w s P λa v C H' w' s' ho P'=>by
  obtain⟨w2,h2⟩:=RV w' hk
  exact hr a v C H' D w2 ⟨S.mono _ _ h2 s',MonoO.mono h2 ho⟩ (PZ.tr (fd.tr D) h2 P')
theorem ZY {te:TE}{r:Enc α}[MonoE r]{m:Rs α}{f:α->Rs β}(i:Nat)(he:EvS K Er S OO σ te r m)(hr:∀a v,Sv Er (S.add K r v a) OO (σ.set i (some v)) u Fd (f a)):Sv Er S OO σ (ZK (DT te (YC i)) u) Fd (m.bind f):=λH D w s P=>
 he.st w s P λa v H' s1 w' s' ho P'=>hr a v H' D w' ⟨s',ho⟩ P'
theorem Xu {te:TE}{o:OE ρ}{m:Rs ρ}(he:Ev K Er S OO OO' σ te o m):Sv Er S OO σ (ZK (Re te) u) (FTd K o) m:=λH D w s P=>
 he H _ w s (by
  cases m with
  |bad=>exact P
  |err x=>exact λH' s'=>P H' (Xz.trans s')
  |ok a=>exact λv C H' s' w' m' ho=>P v C OO' H' w' m' ho)
theorem VH {J:Jn γ ι}{t:TS}{o:OE ρ}{m:Rs γ}(h:Sv Er S OO σ t (FNd J) m):Sv Er S OO σ t (FCd K o J) (m.bind λr=>.ok (.nx r)):=λH D w s P=>h H D w s (by
 cases m with
 |bad=>exact P
 |err x=>exact P
 |ok a=>exact P)
theorem K7 {J:Jn γ ι}(x:ι)(g:γ)(h1:OO=J.oo x)(h2:σ=J.ss x)(h3:∀h,S.p h->(J.sc g x).p h):Sv Er S OO σ Gn (FNd J) (.ok g):=λH D w s P=>by
 subst h1 h2
 exact P x H w (Xv.refl _) (h3 _ s)
theorem O2 {t:TS}:Sv Er S OO σ t Fd .bad:=λH D w s P=>P.elim
theorem Zv {o:OE ρ}{c:TT}{t1:TS}{mc:Rs Bool}{m1 m2:Rs ρ}(hc:EvT Er S OO σ c mc)(h1:Sv Er S OO σ t1 (FTd K o) m1)(h2:Sv Er S OO σ u (FTd K o) m2):Sv Er S OO σ (ZK (MS c t1 Gn) u) (FTd K o) (mc.bind λb=>if b=true then m1 else m2):=λH D w s P=>
 hc.st (Fd:=FTd K o) w s P λb H' w' s' P'=>by
  cases b with
  |true=>rw[if_pos rfl] at P'⊢;exact h1 H' _ w' s' P'
  |false=>exact h2 H' D w' s' P'
theorem Qx {o:OE ρ}{J:Jn γ ι}{c:TT}{t1:TS}{mc:Rs Bool}{m1:Rs ρ}{m2:Rs (Ctl ρ γ)}(hc:EvT Er S OO σ c mc)(h1:Sv Er S OO σ t1 (FTd K o) m1)(h2:Sv Er S OO σ u (FCd K o J) m2):Sv Er S OO σ (ZK (MS c t1 Gn) u) (FCd K o J) (mc.bind λb=>if b=true then m1.bind (λr=>.ok (.ret r)) else m2):=λH D w s P=>
 hc.st (Fd:=FCd K o J) w s P λb H' w' s' P'=>by
  cases b with
  |true=>
   rw[if_pos rfl] at P'⊢
   refine h1 H' _ w' s' ?_
   cases m1 with
   |bad=>exact P'
   |err x=>exact P'
   |ok a=>exact P'
  |false=>exact h2 H' D w' s' P'
theorem Zq {c:TT}{t1 t2:TS}{mc:Rs Bool}{m1 m2:Rs β}(hc:EvT Er S OO σ c mc)(h1:Sv Er S OO σ t1 Fd m1)(h2:Sv Er S OO σ t2 Fd m2):Sv Er S OO σ (MS c t1 t2) Fd (mc.bind λb=>if b=true then m1 else m2):=λH D w s P=>
 hc.st w s P λb H' w' s' P'=>by
  cases b with
  |true=>rw[if_pos rfl] at P'⊢;exact h1 H' _ w' s' P'
  |false=>exact h2 H' D w' s' P'
theorem Ng {J:Jn γ ι}{t:TS}{m:Rs γ}{f:γ->Rs β}(hb:Sv Er S OO σ t (FNd J) m)(hr:∀g x,Sv Er (J.sc g x) (J.oo x) (J.ss x) u Fd (f g)):Sv Er S OO σ (ZK t u) Fd (m.bind f):=λH D w s P=>
 hb H _ w s (by
  cases m with
  |bad=>exact P
  |err x=>exact P
  |ok g=>exact λx H' w' m' q=>hr g x H' D w' q (PZ.tr (fd.tr D) m' P))
noncomputable def Qa (f:γ->Rs ρ):Ctl ρ γ->Rs ρ
 | .ret r=>.ok r
 | .nx g=>f g
theorem Lf {t:TS}{o:OE α}{r:Enc α}[z:FrzC o r][MonoE r]{v:V}{a:α}{C:List Xq}{m:Rs β}(k:Nat)(hk:OO[k]?=some C)(h:∀x,S.p x->o K x v a C)(hr:Sv Er (S.add K r v a) (OO.set k []) σ t Fd m):Sv Er S OO σ t Fd m:=λH D w s P=>by
 have hp:=XT hk
 have w1:W (C::OO.set k []) H:=w.of hp
 have hs:Xv (hid H OO) (hid H (OO.set k [])):=by
  rw[←XW hp]
  exact Qh (Xv.refl _) λb hb=>by rw[XX];simp[hb]
 refine hr H D w1.tail ⟨S.mono _ _ hs s,z.frz (h _ s) hs λc hc=>Zg (w1.cell c hc) ?_⟩ (PZ.tr (fd.tr D) hs P)
 have:=w1.nd
 rw[XX] at this
 exact λhb=>(List.nodup_append.mp this).2.2 c.1 (List.mem_map.mpr ⟨c,hc,rfl⟩) c.1 hb rfl
theorem RK {C D C':List Xq}{H:Hp}{k:Nat}{p:Addr}{o:HO}(w:W (D::OO) H)(hk:OO[k]?=some C)(hp:p∈C.map (·.1))(hC:(C'.map (·.1)).Perm ((C++D).map (·.1)))(ht:∀c∈C',upd H p o c.1=some c.2)(hm:∀c∈C',NV c.2=true):
  W (OO.set k C') (upd H p o)/\hid (upd H p o) (OO.set k C')=hid H (D::OO):=by
 have hlt:k<OO.length:=by
  rcases Nat.lt_or_ge k OO.length with h |h
  ·exact h
  ·rw[List.getElem?_eq_none h] at hk;cases hk
 have h1:=XT hk
 have h2:=XT (OO:=OO.set k C') (k:=k) (C:=C') (by simp[hlt])
 rw[U2] at h2
 have h3:(OO.set k C').flatten.Perm (C'++(OO.set k []).flatten):=by simpa using h2.symm
 have h4:(D::OO).flatten.Perm (D++(C++(OO.set k []).flatten)):=by
  rw[List.flatten_cons];exact(by simpa using h1.symm:OO.flatten.Perm (C++(OO.set k []).flatten)).append_left D
 have hfl:(fl (OO.set k C')).Perm (fl (D::OO)):=by
  unfold fl
  refine(h3.map _).trans (List.Perm.trans ?_ (h4.map _).symm)
  simp only[List.map_append]
  refine(hC.append_right _).trans ?_
  simp only[List.map_append]
  rw[←List.append_assoc]
  exact List.perm_append_comm.append_right _
 have nd:=w.nd
 refine⟨⟨λc hc=>?_,hfl.nodup_iff.mpr nd,λc hc=>?_⟩,?_⟩
 ·rcases List.mem_append.mp (h3.mem_iff.mp hc) with hc |hc
  ·exact ht c hc
  ·have hne:c.1≠p:=λe=>by
    have nd2:((D++(C++(OO.set k []).flatten)).map (·.1)).Nodup:=(h4.map _).nodup_iff.mp nd
    simp only[List.map_append] at nd2
    have nd3:=(List.nodup_append.mp nd2).2.1
    exact(List.nodup_append.mp nd3).2.2 p hp c.1 (List.mem_map.mpr ⟨c,hc,rfl⟩) e.symm
   rw[XL hne]
   exact w.tr c (h4.mem_iff.mpr (by simp[hc]))
 ·rcases List.mem_append.mp (h3.mem_iff.mp hc) with hc |hc
  ·exact hm c hc
  ·exact w.mu c (h4.mem_iff.mpr (by simp[hc]))
 ·funext b
  unfold hid
  by_cases hb:b∈fl (D::OO)
  ·rw[if_pos hb,if_pos (hfl.mem_iff.mpr hb)]
  ·rw[if_neg hb,if_neg λz=>hb (hfl.mem_iff.mp z)]
   refine XL λe=>hb ?_
   rw[e]
   obtain⟨c,hc,rfl⟩:=List.mem_map.mp hp
   exact Uf (h4.mem_iff.mpr (by simp[hc]))
theorem ZG {Cs:List (List Xq)}{D:List Xq}:(Cs++[D]).flatten=Cs.flatten++D:=by simp
theorem NZ {ta:TE}{o:OE α}[MonoO o]{m:Rs α}{f:List α->Rs β}{v:V}{as:List α}{C:List Xq}(i k:Nat)(hσ:σ[i]?=some (some v))(hk:OO[k]?=some C)(hk':OO'[k]?=some C)(h:∀x,S.p x->oL o K x v as C)(he:Ev K Er S OO OO' σ ta o m)
  (hr:∀a C',Sv Er (S.addO K (oL o) v (as++[a]) C') (OO'.set k C') σ u Fd (f (as++[a]))):Sv Er S OO σ (ZK (Gd (tBM K "list" VP (Jz i) (Xo ta YN))) u) Fd (m.bind λa=>chk (as.length<sizeLine) (f (as++[a]))):=λH D w s P=>by
 obtain⟨p,xs,Cs,e,q,c⟩:=h _ s
 subst c
 have hH:H p=some (.lst xs):=w.tr (p, .lst xs) (List.mem_flatten.mpr ⟨_,List.mem_of_getElem? hk,List.mem_cons_self⟩)
 refine⟨v,hσ,by rw[e];exact .inl ⟨rfl,_,SqL.of hH⟩,he.st w s P λa y D' H' w' s' ho P'=>?_⟩
 obtain⟨p',xs',Cs',e2,q2,c2⟩:=h _ s'
 rw[e] at e2;cases e2
 have c3:(p,HO.lst xs)=(p,HO.lst xs')/\Cs.flatten=Cs'.flatten:=by
  injection c2 with h1 h2
  exact⟨h1,h2⟩
 obtain⟨c3,c4⟩:=c3
 cases c3
 have hH':H' p=some (.lst xs):=w'.tr (p, .lst xs) (by rw[List.flatten_cons];exact List.mem_append_right _ (List.mem_flatten.mpr ⟨_,List.mem_of_getElem? hk',List.mem_cons_self⟩))
 cases hlt:decide (as.length<sizeLine) with
 |false=>rw[chk,if_neg (by simpa using hlt)] at P';exact P'.elim
 |true=>
  have hlt':as.length<sizeLine:=by simpa using hlt
  rw[Xr hlt'] at P'
  have wnd:=w'.nd
  have hcell:∀c∈(p,HO.lst (xs++[y]))::(Cs'++[D']).flatten,upd H' p (.lst (xs++[y])) c.1=some c.2:=λc hc=>by
   rcases List.mem_cons.mp hc with rfl |hc
   ·exact Yd
   ·have hp1:=XT hk'
    have w3:W [D'++(((p,HO.lst xs)::Cs.flatten)++(OO'.set k []).flatten)] H':=w'.of (by
     simp only[List.flatten_cons,List.flatten_nil,List.append_nil]
     exact(by simpa using hp1:(((p,HO.lst xs)::Cs.flatten)++(OO'.set k []).flatten).Perm OO'.flatten).append_left D')
    have hin:c∈D'++(((p,HO.lst xs)::Cs.flatten)++(OO'.set k []).flatten):=by
     rw[ZG,List.mem_append] at hc
     rcases hc with hc |hc
     ·rw[←c4] at hc;simp[hc]
     ·simp[hc]
    have hne:c.1≠p:=λee=>by
     have nd3:=w3.nd
     rw[ZG,List.mem_append, ←c4] at hc
     simp only[fl,List.flatten_cons,List.flatten_nil,List.append_nil,List.map_append,List.cons_append,List.map_cons] at nd3
     rw[List.nodup_append] at nd3
     obtain⟨_,n2,n3⟩:=nd3
     rcases hc with hc |hc
     ·exact(List.nodup_cons.mp n2).1 (List.mem_append_left _ (List.mem_map.mpr ⟨c,hc,ee⟩))
     ·exact n3 c.1 (List.mem_map.mpr ⟨c,hc,rfl⟩) p List.mem_cons_self ee
    rw[XL hne]
    exact w3.tr c (by simpa using hin)
  obtain⟨w4,h4⟩:=RK (C':=(p, .lst (xs++[y]))::(Cs'++[D']).flatten) w' hk' List.mem_cons_self (by simp[ZG,c4]) hcell (λc hc=>by
   rcases List.mem_cons.mp hc with rfl |hc
   ·rfl
   ·rw[ZG,List.mem_append, ←c4] at hc
    rcases hc with hc |hc
    ·exact w'.mu c (by rw[List.flatten_cons];exact List.mem_append_right _ (List.mem_flatten.mpr ⟨_,List.mem_of_getElem? hk',List.mem_cons_of_mem _ hc⟩))
    ·exact w'.mu c (by rw[List.flatten_cons];exact List.mem_append_left _ hc))
  refine⟨p,xs,y,e,rfl,hH',by rw[(P3.len q).1];exact hlt',?_⟩
  refine hr a _ _ D w4 ?_ (by rw[h4];exact P')
  rw[h4]
  exact⟨s',⟨p,xs++[y],Cs'++[D'],e,q2.snoc ho,rfl⟩⟩
end
section
variable {K:PySem.W.Frag}{Er:Exc->Hp->Prop}{S:SC}{OO OO' OO2:List (List Xq)}{σ:St}{α β γ ρ ι δ ε:Type}
variable {Fd:Ends->β->Hp->Prop}[fd:FdOk Fd]{u:TS}
noncomputable def forN:List α->γ->(γ->α->Rs γ)->Rs γ
 | [],g,_=>.ok g
 |a::as,g,f=>(f g a).bind λg'=>forN as g' f
noncomputable def Uc:List α->γ->(γ->α->Rs (Ctl ρ γ))->Rs (Ctl ρ γ)
 | [],g,_=>.ok (.nx g)
 |a::as,g,f=>(f g a).bind λc=>match c with
  | .ret r=>.ok (.ret r)
  | .nx g'=>Uc as g' f
theorem Yi {m:Rs α}{f:α->Rs β}{g:β->Rs γ}:(m.bind f).bind g=m.bind λa=>(f a).bind g:=by cases m<;> rfl
structure Tgt (K:PySem.W.Frag)(OO:List (List Xq))(g:TG)(r:Enc α)(κ:Type) where
 set:κ->St->St
 sc:α->κ->SC->SC
 ok:∀{H:Hp}{v:V}{a:α}{σ:St}{S:SC}{Q:St->Hp->Prop},r K (hid H OO) v a->S.p (hid H OO)->(∀x,(sc a x S).p (hid H OO)->Q (set x σ) H)->g v σ H Q
@[reducible] noncomputable def tg1 {r:Enc α}[MonoE r](i:Nat):Tgt K OO (YC i) r V where
 set:=λv σ=>σ.set i (some v)
 sc:=λa v S=>S.add K r v a
 ok:=fun {H v a σ S Q} hr hs hq=>hq v ⟨hs,hr⟩
@[reducible] noncomputable def tg2 {r:Enc α}{q:Enc β}[MonoE r][MonoE q](i j:Nat):Tgt K OO (Lj K 2 (ZD (YC i) (ZD (YC j) Nf))) (rP2 r q) (V×V) where
 set:=λv σ=>(σ.set i (some v.1)).set j (some v.2)
 sc:=λa v S=>(S.add K r v.1 a.1).add K q v.2 a.2
 ok:=fun {H v a σ S Q} r9 hs hq=>by obtain⟨p,x,y,e,h,h1,h2⟩:=r9;exact⟨p,_,e,SqT.of (Xz _ _ h),rfl,x,[y],rfl,y,[],rfl,rfl,hq (x,y) ⟨⟨hs,h1⟩,h2⟩⟩
@[reducible] noncomputable def tg3 {r:Enc α}{q:Enc β}{t:Enc γ}[MonoE r][MonoE q][MonoE t](i j k:Nat):Tgt K OO (Lj K 3 (ZD (YC i) (ZD (YC j) (ZD (YC k) Nf)))) (rP3 r q t) (V×V×V) where
 set:=λv σ=>((σ.set i (some v.1)).set j (some v.2.1)).set k (some v.2.2)
 sc:=λa v S=>((S.add K r v.1 a.1).add K q v.2.1 a.2.1).add K t v.2.2 a.2.2
 ok:=fun {H v a σ S Q} r9 hs hq=>by obtain⟨p,x,y,z,e,h,h1,h2,h3⟩:=r9;exact⟨p,_,e,SqT.of (Xz _ _ h),rfl,x,[y,z],rfl,y,[z],rfl,z,[],rfl,rfl,hq (x,y,z) ⟨⟨⟨hs,h1⟩,h2⟩,h3⟩⟩
structure Walk (K:PySem.W.Frag)(Er:Exc->Hp->Prop)(S:SC)(OO:List (List Xq))(σ:St)(wi:TI)(r:Enc α)(m:Rs (List α)):Prop where
 ok:∀{H:Hp}{R:It->Hp->Prop},W OO H->S.p (hid H OO)->PZ Er (λas H=>∀ J H',Xv H H'->
   (∀(i:Nat) a,as[i]?=some a->∀OO2 H2,W OO2 H2->Xv (hid H' OO) (hid H2 OO2)->J.go i H2/\∀x H3,J.yld i H2 x H3->Xv H2 H3/\r K (hid H3 OO2) x a)->
   (∀OO2 H2,W OO2 H2->Xv (hid H' OO) (hid H2 OO2)->J.stop as.length H2)->R J H') H m->wi σ H R
theorem YI {te:TE}{r:Enc α}[z:MonoE r]{m:Rs (List α)}(he:EvS K Er S OO σ te (rV r) m):Walk K Er S OO σ (Ir K te) r m:=⟨fun {H R} w s P=>by
 refine he H _ w s (P.imp λas _ h v H' s' ⟨p,xs,e,hp,pr⟩=>⟨p,e,⟨xs,SqL.of (Xz _ _ hp)⟩,h _ H' s' ?_ ?_⟩)
 ·intro i a ha OO2 H2 w2 m2
  obtain⟨x,hx,rx⟩:=Paired.getR pr ha
  have hq:SqL K H2 p xs:=SqL.of (Xz _ _ (m2 _ _ hp))
  refine⟨⟨xs,x,hq,hx⟩,λy H3 r9=>?_⟩
  obtain⟨e3,hy⟩:=r9
  subst e3
  refine⟨Xv.refl _,?_⟩
  have:=hy xs hq
  rw[hx] at this
  cases this
  exact z.mono m2 rx
 ·intro OO2 H2 w2 m2
  exact⟨xs,SqL.of (Xz _ _ (m2 _ _ hp)),by rw[Paired.len pr];exact Nat.le_refl _⟩⟩
noncomputable def G7 (as:List α):List (Int×α):=(List.range as.length).map (λ(i:Nat)=>(i:Int)) |>.zip as
theorem KN {as:List α}{i:Nat}{p:Int×α}(h:(G7 as)[i]?=some p):p.1=(i:Int)/\as[i]?=some p.2:=by
 unfold G7 at h
 rw[List.getElem?_zip_eq_some] at h
 obtain⟨h1,h2⟩:=h
 rw[List.getElem?_map] at h1
 have hlt:i<as.length:=by
  rcases Nat.lt_or_ge i as.length with q |q
  ·exact q
  ·rw[List.getElem?_eq_none q] at h2;cases h2
 rw[List.getElem?_range hlt] at h1
 exact⟨(Option.some.inj h1).symm,h2⟩
theorem EI {as:List α}:(G7 as).length=as.length:=by simp[G7]
theorem BM {te:TE}{r:Enc α}[z:MonoE r]{m:Rs (List α)}(he:EvS K Er S OO σ te (rV r) m):Walk K Er S OO σ (O1 K te) (rP2 Xc r) (m.bind λas=>.ok (G7 as)):=⟨fun {H R} w s P=>by
 refine he H _ w s ?_
 cases em:m with
 |bad=>rw[em] at P;exact P
 |err x=>rw[em] at P;exact P
 |ok as=>
  rw[em] at P
  intro v H' s' ⟨p,xs,e,hp,pr⟩
  refine⟨p,e,⟨xs,SqL.of (Xz _ _ hp)⟩,P _ H' s' ?_ ?_⟩
  ·intro i a ha OO2 H2 w2 m2
   obtain⟨ha1,ha2⟩:=KN ha
   obtain⟨x,hx,rx⟩:=Paired.getR pr ha2
   have hq:SqL K H2 p xs:=SqL.of (Xz _ _ (m2 _ _ hp))
   refine⟨⟨xs,x,hq,hx⟩,λy H3 h3=>?_⟩
   obtain⟨b,x',rfl,hb,rfl,hy⟩:=h3
   have:=hy xs hq
   rw[hx] at this
   cases this
   refine⟨XE hb _,⟨b, .int i,x,rfl,QU w2 hb,by show V.int _=V.int _;rw[ha1],z.mono (m2.trans (Xi (XE hb _))) rx⟩⟩
  ·intro OO2 H2 w2 m2
   exact⟨xs,SqL.of (Xz _ _ (m2 _ _ hp)),by rw[EI,Paired.len pr];exact Nat.le_refl _⟩⟩
theorem Cn {lo hi:Int}{i:Nat}{a:Int}(h:(Qr lo hi)[i]?=some a):a=lo+i/\i<(hi-lo).toNat:=by
 unfold Qr at h
 rw[List.getElem?_map] at h
 rcases Nat.lt_or_ge i (hi-lo).toNat with q |q
 ·rw[List.getElem?_range q] at h;exact⟨(Option.some.inj h).symm,q⟩
 ·rw[List.getElem?_eq_none (by simpa using q)] at h;cases h
theorem DW {lo hi:Int}:(Qr lo hi).length=(hi-lo).toNat:=by simp[Qr]
noncomputable def Pl (lo hi:Int):Rs (List Int):=chk (-(2^62)<=lo/\lo<2^62/\ -(2^62)<=hi/\hi<2^62) (.ok (Qr lo hi))
theorem G0 {te:TE}{m:Rs Int}(he:EvB K Er S OO σ te Xc m):Walk K Er S OO σ (MF (Xo te YN)) Xc (m.bind λn=>Pl 0 n):=⟨fun {H R} w s P=>
 he.run w s (λas H H' s' h J H2 s2=>h J H2 (s'.trans s2)) P λn v H1 s1 w1 q1 r1 P1=>by
  obtain⟨c,hc,P2⟩:=P1.okOf λx=>Qq
  obtain⟨⟨_,_,h1,h2⟩,h3⟩:=Zf hc
  cases h3
  refine⟨n,by rw[show v= .int n from r1],h1,h2,P2 _ H1 (Xv.refl _) (λi a ha OO2 H2 w2 m2=>?_) λOO2 H2 w2 m2=>?_⟩
  ·obtain⟨e1,e2⟩:=Cn ha
   rw[Int.sub_zero] at e2
   refine⟨e2,λx H3 r9=>?_⟩
   obtain⟨e3,e4⟩:=r9
   subst e3
   exact⟨Xv.refl _,by rw[e4,e1];rfl⟩
  ·show n.toNat<=_
   rw[DW,Int.sub_zero];exact Nat.le_refl _⟩
theorem OD {wi:TI}{g:TG}{tb:TS}{r:Enc α}{κ:Type}{m:Rs (List α)}{body:γ->α->Rs γ}{f:γ->Rs β}(J:Jn γ ι)(T:∀OO,Tgt K OO g r κ)(x0:ι)(g0:γ)(he:Walk K Er S OO σ wi r m)(h1:OO=J.oo x0)(h2:σ=J.ss x0)(h3:∀h,S.p h->(J.sc g0 x0).p h)
  (hb:∀g x a v,Sv Er ((T (J.oo x)).sc a v (J.sc g x)) (J.oo x) ((T (J.oo x)).set v (J.ss x)) tb (FNd J) (body g a))
  (hr:∀g x,Sv Er (J.sc g x) (J.oo x) (J.ss x) u Fd (f g)):Sv Er S OO σ (ZK (NT wi g tb) u) Fd (m.bind λas=>(forN as g0 body).bind f):=λH D w s P=>by
 refine he.ok w s ?_
 cases em:m with
 |bad=>rw[em] at P;exact P
 |err x=>rw[em] at P;exact λH' s'=>P H' (Xz.trans s')
 |ok as=>
  rw[em] at P
  have P:PZ Er (Fd D) (hid H OO) ((forN as g0 body).bind f):=P
  intro It H' s' hgo hstop
  refine⟨λi mm σ' H2=>mm=as.length-i/\i<=as.length/\∃x gg,σ'=J.ss x/\W (J.oo x) H2/\Xv (hid H' OO) (hid H2 (J.oo x))/\(J.sc gg x).p (hid H2 (J.oo x))/\PZ Er (Fd D) (hid H2 (J.oo x)) ((forN (as.drop i) gg body).bind f),⟨as.length,rfl,Nat.zero_le _,x0,g0,h2,?_,?_,?_,?_⟩,?_⟩
  ·rw[←h1];exact w.keep s'
  ·rw[←h1];exact Xv.refl _
  ·rw[←h1];exact h3 _ (S.mono _ _ (Xi s') s)
  ·rw[←h1,List.drop_zero];exact PZ.tr (fd.tr D) (Xi s') P
  ·rintro i mm σ' H2 ⟨rfl,hi,x,gg,rfl,w2,m2,sc2,P2⟩
   by_cases hlt:i<as.length
   ·right
    have ha:as[i]?=some as[i]:=by simp[hlt]
    obtain⟨h4,h5⟩:=hgo i _ ha (J.oo x) H2 w2 m2
    refine⟨h4,λσ3 H3=>∃ x gg,σ3=J.ss x/\W (J.oo x) H3/\Xv (hid H' OO) (hid H3 (J.oo x))/\(J.sc gg x).p (hid H3 (J.oo x))/\PZ Er (Fd D) (hid H3 (J.oo x)) ((forN (as.drop (i+1)) gg body).bind f),λσ3 H3 q=>⟨as.length-(i+1),Nat.sub_lt_sub_left hlt (Nat.lt_succ_self i),rfl,hlt,q⟩,λy H3 hy=>?_⟩
    obtain⟨s3,r3⟩:=h5 y H3 hy
    have w3:=w2.keep s3
    have m3:=Xi (OO:=J.oo x) s3
    refine(T (J.oo x)).ok r3 ((J.sc gg x).mono _ _ m3 sc2) λv hv=>hb gg x as[i] v H3 _ w3 hv ?_
    rw[List.drop_eq_getElem_cons hlt] at P2
    have P3:PZ Er (Fd D) (hid H2 (J.oo x)) ((body gg as[i]).bind λg'=>(forN (as.drop (i+1)) g' body).bind f):=by rw[←Yi];exact P2
    cases eb:body gg as[i] with
    |bad=>rw[eb] at P3;exact P3
    |err x=>rw[eb] at P3;exact λH4 s4=>P3 H4 (m3.trans s4)
    |ok g'=>
     rw[eb] at P3
     exact λx' H4 w4 m4 sc4=>⟨x',g',rfl,w4,m2.trans (m3.trans m4),sc4,PZ.tr (fd.tr D) (m3.trans m4) P3⟩
   ·left
    have e:i=as.length:=Nat.le_antisymm hi (Nat.not_lt.mp hlt)
    subst e
    refine⟨hstop (J.oo x) H2 w2 m2,hr gg x H2 D w2 sc2 ?_⟩
    rw[List.drop_length] at P2
    exact P2
theorem UW {o:OE ρ}{wi:TI}{g:TG}{tb:TS}{r:Enc α}{κ:Type}{m:Rs (List α)}{body:γ->α->Rs (Ctl ρ γ)}{f:γ->Rs ρ}(J:Jn γ ι)(T:∀OO,Tgt K OO g r κ)(x0:ι)(g0:γ)(he:Walk K Er S OO σ wi r m)(h1:OO=J.oo x0)(h2:σ=J.ss x0)(h3:∀h,S.p h->(J.sc g0 x0).p h)
  (hb:∀g x a v,Sv Er ((T (J.oo x)).sc a v (J.sc g x)) (J.oo x) ((T (J.oo x)).set v (J.ss x)) tb (FCd K o J) (body g a))
  (hr:∀g x,Sv Er (J.sc g x) (J.oo x) (J.ss x) u (FTd K o) (f g)):Sv Er S OO σ (ZK (NT wi g tb) u) (FTd K o) (m.bind λas=>(Uc as g0 body).bind (Qa f)):=λH D w s P=>by
 refine he.ok w s ?_
 cases em:m with
 |bad=>rw[em] at P;exact P
 |err x=>rw[em] at P;exact λH' s'=>P H' (Xz.trans s')
 |ok as=>
  rw[em] at P
  have P:PZ Er (FTd K o D) (hid H OO) ((Uc as g0 body).bind (Qa f)):=P
  intro It H' s' hgo hstop
  refine⟨λi mm σ' H2=>mm=as.length-i/\i<=as.length/\∃x gg,σ'=J.ss x/\W (J.oo x) H2/\Xv (hid H' OO) (hid H2 (J.oo x))/\(J.sc gg x).p (hid H2 (J.oo x))/\PZ Er (FTd K o D) (hid H2 (J.oo x)) ((Uc (as.drop i) gg body).bind (Qa f)),⟨as.length,rfl,Nat.zero_le _,x0,g0,h2,?_,?_,?_,?_⟩,?_⟩
  ·rw[←h1];exact w.keep s'
  ·rw[←h1];exact Xv.refl _
  ·rw[←h1];exact h3 _ (S.mono _ _ (Xi s') s)
  ·rw[←h1,List.drop_zero];exact PZ.tr (FdOk.tr D) (Xi s') P
  ·rintro i mm σ' H2 ⟨rfl,hi,x,gg,rfl,w2,m2,sc2,P2⟩
   by_cases hlt:i<as.length
   ·right
    have ha:as[i]?=some as[i]:=by simp[hlt]
    obtain⟨h4,h5⟩:=hgo i _ ha (J.oo x) H2 w2 m2
    refine⟨h4,λσ3 H3=>∃ x gg,σ3=J.ss x/\W (J.oo x) H3/\Xv (hid H' OO) (hid H3 (J.oo x))/\(J.sc gg x).p (hid H3 (J.oo x))/\PZ Er (FTd K o D) (hid H3 (J.oo x)) ((Uc (as.drop (i+1)) gg body).bind (Qa f)),λσ3 H3 q=>⟨as.length-(i+1),Nat.sub_lt_sub_left hlt (Nat.lt_succ_self i),rfl,hlt,q⟩,λy H3 hy=>?_⟩
    obtain⟨s3,r3⟩:=h5 y H3 hy
    have w3:=w2.keep s3
    have m3:=Xi (OO:=J.oo x) s3
    refine(T (J.oo x)).ok r3 ((J.sc gg x).mono _ _ m3 sc2) λv hv=>hb gg x as[i] v H3 _ w3 hv ?_
    rw[List.drop_eq_getElem_cons hlt] at P2
    have P3:PZ Er (FTd K o D) (hid H2 (J.oo x)) ((body gg as[i]).bind λc=>(match c with
     | .ret r=>Rs.ok (Ctl.ret r)
     | .nx g'=>Uc (as.drop (i+1)) g' body).bind (Qa f)):=by rw[←Yi];exact P2
    cases eb:body gg as[i] with
    |bad=>rw[eb] at P3;exact P3
    |err x=>rw[eb] at P3;exact λH4 s4=>P3 H4 (m3.trans s4)
    |ok c=>
     rw[eb] at P3
     cases c with
     |ret r=>exact FdOk.tr (Fd:=FTd K o) D r _ _ m3 P3
     |nx g'=>exact λx' H4 w4 m4 sc4=>⟨x',g',rfl,w4,m2.trans (m3.trans m4),sc4,PZ.tr (FdOk.tr D) (m3.trans m4) P3⟩
   ·left
    have e:i=as.length:=Nat.le_antisymm hi (Nat.not_lt.mp hlt)
    subst e
    refine⟨hstop (J.oo x) H2 w2 m2,hr gg x H2 D w2 sc2 ?_⟩
    rw[List.drop_length] at P2
    exact P2
noncomputable def VY:Nat->γ->(γ->Rs Bool)->(γ->Rs γ)->Rs γ
 |0,_,_,_=>.bad
 |n+1,g,c,f=>(c g).bind λb=>if b=true then(f g).bind λg'=>VY n g' c f else .ok g
theorem Iq {c:TT}{tb:TS}{mc:γ->Rs Bool}{body:γ->Rs γ}{f:γ->Rs β}(J:Jn γ ι)(n:Nat)(x0:ι)(g0:γ)(h1:OO=J.oo x0)(h2:σ=J.ss x0)(h3:∀h,S.p h->(J.sc g0 x0).p h)
  (hc:∀g x,EvT Er (J.sc g x) (J.oo x) (J.ss x) c (mc g))(hb:∀g x,Sv Er (J.sc g x) (J.oo x) (J.ss x) tb (FNd J) (body g))
  (hr:∀g x,Sv Er (J.sc g x) (J.oo x) (J.ss x) u Fd (f g)):Sv Er S OO σ (ZK (Bf c tb) u) Fd ((VY n g0 mc body).bind f):=λH D w s P=>by
 refine⟨λmm σ' H2=>∃ x gg,σ'=J.ss x/\W (J.oo x) H2/\(J.sc gg x).p (hid H2 (J.oo x))/\PZ Er (Fd D) (hid H2 (J.oo x)) ((VY mm gg mc body).bind f),⟨n,x0,g0,h2,by rw[←h1];exact w,by rw[←h1];exact h3 _ s,by rw[←h1];exact P⟩,?_⟩
 rintro mm σ' H2 ⟨x,gg,rfl,w2,sc2,P2⟩
 cases mm with
 |zero=>exact P2.elim
 |succ mm=>
  have P3:PZ Er (Fd D) (hid H2 (J.oo x)) ((mc gg).bind λb=>(if b=true then(body gg).bind λg'=>VY mm g' mc body else .ok gg).bind f):=by rw[←Yi];exact P2
  refine(hc gg x).st w2 sc2 P3 λb H3 w3 sc3 P4=>?_
  cases b with
  |false=>exact hr gg x H3 D w3 sc3 P4
  |true=>
   rw[if_pos rfl] at P4⊢
   refine⟨λσ3 H4=>∃ x gg,σ3=J.ss x/\W (J.oo x) H4/\(J.sc gg x).p (hid H4 (J.oo x))/\PZ Er (Fd D) (hid H4 (J.oo x)) ((VY mm gg mc body).bind f),λσ3 H4 q=>⟨mm,Nat.lt_succ_self _,q⟩,hb gg x H3 _ w3 sc3 ?_⟩
   rw[Yi] at P4
   cases eb:body gg with
   |bad=>rw[eb] at P4;exact P4
   |err x=>rw[eb] at P4;exact P4
   |ok g'=>
    rw[eb] at P4
    exact λx' H5 w5 m5 sc5=>⟨x',g',rfl,w5,sc5,PZ.tr (fd.tr D) m5 P4⟩
noncomputable def C5 (as:List α)(f:α->Rs β):Rs (List β):=match as with
 | []=>.ok []
 |a::as=>(f a).bind λb=>(C5 as f).bind λbs=>.ok (b::bs)
noncomputable def Le (as:List α)(f:α->Rs β):Rs (List β):=chk (as.length<=sizeLine) (C5 as f)
noncomputable def Dp (as:List α)(c:α->Rs Bool)(f:α->Rs β):Rs (List β):=match as with
 | []=>.ok []
 |a::as=>(c a).bind λb=>if b=true then(f a).bind λb=>(Dp as c f).bind λbs=>.ok (b::bs) else Dp as c f
noncomputable def Py (as:List α)(c:α->Rs Bool)(f:α->Rs β):Rs (List β):=chk (as.length<=sizeLine) (Dp as c f)
theorem PZ.chk {F:β->Hp->Prop}{H:Hp}{c:Prop}[Decidable c]{m:Rs β}(P:PZ Er F H (chk c m)):c/\PZ Er F H m:=by
 unfold L2.chk at P;split at P
 ·exact⟨by assumption,P⟩
 ·exact P.elim
theorem NG {o:OE α}[z:MonoO o]{xs:List V}{as:List α}{Cs:List (List Xq)}{H H0:Hp}{Q:VK}(w:W (Cs.flatten::OO) H)(m0:Xv (hid H0 OO) (hid H (Cs.flatten::OO)))(s0:Xv H0 H)(pr:P3 (o K (hid H (Cs.flatten::OO))) xs as Cs)(P:FO K OO OO (oL o) Q as H0):∀p,H p=none->Q (.ref p) (upd H p (.lst xs)):=λp hp=>by
 have hn:=VC (OO:=Cs.flatten::OO) hp (o:=.lst xs)
 have wn:=w.new hp (o:=.lst xs) rfl
 have pe:(((p,HO.lst xs)::Cs.flatten)::OO).flatten.Perm ([(p,HO.lst xs)]::Cs.flatten::OO).flatten:=by simp
 refine P (.ref p) ((p, .lst xs)::Cs.flatten) _ (s0.trans (XE hp _)) (wn.of pe) ?_ ?_
 ·rw[XW pe];exact m0.trans hn
 ·rw[XW pe]
  exact⟨p,xs,Cs,rfl,pr.imp λ_ _ _ h=>z.mono hn h,rfl⟩
theorem Ze {o:OE β}[z:MonoO o]{wi:TI}{g:TG}{te:TE}{r:Enc α}{κ:Type}{m:Rs (List α)}{f:α->Rs β}{n:Nat}{caps:List (Nat×Str)}(T:∀OO,Tgt K OO g r κ)(he:Walk K Er S OO σ wi r m)
  (hb:∀C a v,Ev K Er ((T (C::OO)).sc a v S) (C::OO) (C::OO) ((T (C::OO)).set v (Y4 n caps σ)) te o (f a)):Ev K Er S OO OO σ (Hn n caps wi g UM te) (oL o) (m.bind λas=>Le as f):=λH Q w s P=>by
 refine he.ok w s ?_
 cases em:m with
 |bad=>rw[em] at P;exact P
 |err x=>rw[em] at P;exact P
 |ok as=>
  rw[em] at P
  obtain⟨hsz,P⟩:=PZ.chk (show PZ Er _ H (chk (as.length<=sizeLine) (C5 as f)) from P)
  intro It H' s' hgo hstop
  -- what is left: the rest of the items, then all
  refine⟨λi mm ys H2=>mm=as.length-i/\i<=as.length/\∃bs Cs,Xv H H2/\W (Cs.flatten::OO) H2/\Xv (hid H' OO) (hid H2 (Cs.flatten::OO))/\P3 (o K (hid H2 (Cs.flatten::OO))) ys bs Cs/\bs.length=i/\PZ Er (FO K OO OO (oL o) Q) H ((C5 (as.drop i) f).bind λrest=>.ok (bs++rest)),
   ⟨as.length,rfl,Nat.zero_le _,[],[],s',(w.keep s').nil,by show Xv _ (hid H' ([]::OO));rw[Y7];exact Xv.refl _, .nil,rfl,?_⟩,?_⟩
  ·rw[List.drop_zero]
   revert P
   cases C5 as f<;> exact λz=>z
  ·rintro i mm ys H2 ⟨rfl,hi,bs,Cs,s2,w2,m2,pr,hlen,P2⟩
   refine⟨by rw[pr.len.1,hlen];omega,?_⟩
   by_cases hlt:i<as.length
   ·right
    have ha:as[i]?=some as[i]:=by simp[hlt]
    obtain⟨h4,h5⟩:=hgo i _ ha (Cs.flatten::OO) H2 w2 m2
    refine⟨h4,λys' H3=>∃ bs Cs,Xv H H3/\W (Cs.flatten::OO) H3/\Xv (hid H' OO) (hid H3 (Cs.flatten::OO))/\P3 (o K (hid H3 (Cs.flatten::OO))) ys' bs Cs/\bs.length=i+1/\PZ Er (FO K OO OO (oL o) Q) H ((C5 (as.drop (i+1)) f).bind λrest=>.ok (bs++rest)),λys' H3 q=>⟨as.length-(i+1),Nat.sub_lt_sub_left hlt (Nat.lt_succ_self i),rfl,hlt,q⟩,λy H3 hy=>?_⟩
    obtain⟨s3,r3⟩:=h5 y H3 hy
    have w3:=w2.keep s3
    have m3:=Xi (OO:=Cs.flatten::OO) s3
    have sS:S.p (hid H3 (Cs.flatten::OO)):=S.mono _ _ ((Xi s').trans (m2.trans m3)) s
    refine(T (Cs.flatten::OO)).ok r3 sS λv hv=>?_
    show UM _ _ _
    refine OB ?_
    rw[List.drop_eq_getElem_cons hlt] at P2
    have P3':PZ Er (FO K OO OO (oL o) Q) H ((f as[i]).bind λb=>(C5 (as.drop (i+1)) f).bind λrest=>.ok (bs++b::rest)):=by
     have:((f as[i]).bind λb=>(C5 (as.drop (i+1)) f).bind λrest=>Rs.ok (bs++b::rest))=(C5 (as[i]::as.drop (i+1)) f).bind λrest=>.ok (bs++rest):=by
      show _=((f as[i]).bind λb=>(C5 (as.drop (i+1)) f).bind λbs=>Rs.ok (b::bs)).bind _
      rw[Yi];congr 1;funext b;rw[Yi];rfl
     rw[this];exact P2
    refine hb Cs.flatten as[i] v H3 _ w3 hv ?_
    cases eb:f as[i] with
    |bad=>rw[eb] at P3';exact P3'
    |err x=>rw[eb] at P3';exact λH4 s4=>P3' H4 (s2.trans (s3.trans s4))
    |ok b=>
     rw[eb] at P3'
     intro v' C' H4 s4 w4 m4 ho
     have pe:((Cs++[C']).flatten::OO).flatten.Perm (C'::Cs.flatten::OO).flatten:=by
      simp only[ZG,List.flatten_cons]
      rw[List.append_assoc, ←List.append_assoc, ←List.append_assoc]
      exact List.perm_append_comm.append_right _
     refine⟨bs++[b],Cs++[C'],s2.trans (s3.trans s4),w4.of pe,?_,?_,by simp[hlen],?_⟩
     ·rw[XW pe];exact m2.trans (m3.trans m4)
     ·rw[XW pe];exact P3.snoc (pr.imp λ_ _ _ h=>z.mono (m3.trans m4) h) ho
     ·have P4:PZ Er (FO K OO OO (oL o) Q) H ((C5 (as.drop (i+1)) f).bind λrest=> .ok (bs++b::rest)):=P3'
      simpa using P4
   ·left
    have e:i=as.length:=Nat.le_antisymm hi (Nat.not_lt.mp hlt)
    subst e
    refine⟨hstop (Cs.flatten::OO) H2 w2 m2,?_⟩
    rw[List.drop_length] at P2
    have P3':FO K OO OO (oL o) Q (bs++[]) H:=P2
    rw[List.append_nil] at P3'
    exact NG (H0:=H) w2 ((Xi s').trans m2) s2 pr P3'
theorem J8 {o:OE β}[z:MonoO o]{wi:TI}{g:TG}{tt:TT}{te:TE}{r:Enc α}{κ:Type}{m:Rs (List α)}{c:α->Rs Bool}{f:α->Rs β}{n:Nat}{caps:List (Nat×Str)}(T:∀OO,Tgt K OO g r κ)(he:Walk K Er S OO σ wi r m)
  (hc:∀C a v,EvT Er ((T (C::OO)).sc a v S) (C::OO) ((T (C::OO)).set v (Y4 n caps σ)) tt (c a))
  (hb:∀C a v,Ev K Er ((T (C::OO)).sc a v S) (C::OO) (C::OO) ((T (C::OO)).set v (Y4 n caps σ)) te o (f a)):Ev K Er S OO OO σ (Hn n caps wi g tt te) (oL o) (m.bind λas=>Py as c f):=λH Q w s P=>by
 refine he.ok w s ?_
 cases em:m with
 |bad=>rw[em] at P;exact P
 |err x=>rw[em] at P;exact P
 |ok as=>
  rw[em] at P
  obtain⟨hsz,P⟩:=PZ.chk (show PZ Er _ H (chk (as.length<=sizeLine) (Dp as c f)) from P)
  intro It H' s' hgo hstop
  refine⟨λi mm ys H2=>mm=as.length-i/\i<=as.length/\∃bs Cs,Xv H H2/\W (Cs.flatten::OO) H2/\Xv (hid H' OO) (hid H2 (Cs.flatten::OO))/\P3 (o K (hid H2 (Cs.flatten::OO))) ys bs Cs/\bs.length<=i/\PZ Er (FO K OO OO (oL o) Q) H ((Dp (as.drop i) c f).bind λrest=>.ok (bs++rest)),
   ⟨as.length,rfl,Nat.zero_le _,[],[],s',(w.keep s').nil,by show Xv _ (hid H' ([]::OO));rw[Y7];exact Xv.refl _, .nil,Nat.zero_le _,?_⟩,?_⟩
  ·rw[List.drop_zero]
   revert P
   cases Dp as c f<;> exact λz=>z
  ·rintro i mm ys H2 ⟨rfl,hi,bs,Cs,s2,w2,m2,pr,hlen,P2⟩
   refine⟨by rw[pr.len.1];omega,?_⟩
   by_cases hlt:i<as.length
   ·right
    have ha:as[i]?=some as[i]:=by simp[hlt]
    obtain⟨h4,h5⟩:=hgo i _ ha (Cs.flatten::OO) H2 w2 m2
    refine⟨h4,λys' H3=>∃ bs Cs,Xv H H3/\W (Cs.flatten::OO) H3/\Xv (hid H' OO) (hid H3 (Cs.flatten::OO))/\P3 (o K (hid H3 (Cs.flatten::OO))) ys' bs Cs/\bs.length<=i+1/\PZ Er (FO K OO OO (oL o) Q) H ((Dp (as.drop (i+1)) c f).bind λrest=>.ok (bs++rest)),λys' H3 q=>⟨as.length-(i+1),Nat.sub_lt_sub_left hlt (Nat.lt_succ_self i),rfl,hlt,q⟩,λy H3 hy=>?_⟩
    obtain⟨s3,r3⟩:=h5 y H3 hy
    have w3:=w2.keep s3
    have m3:=Xi (OO:=Cs.flatten::OO) s3
    have sS:S.p (hid H3 (Cs.flatten::OO)):=S.mono _ _ ((Xi s').trans (m2.trans m3)) s
    refine(T (Cs.flatten::OO)).ok r3 sS λv hv=>?_
    rw[List.drop_eq_getElem_cons hlt] at P2
    have P3':PZ Er (FO K OO OO (oL o) Q) H ((c as[i]).bind λb=>(if b=true then(f as[i]).bind λb=>(Dp (as.drop (i+1)) c f).bind λbs=>.ok (b::bs) else Dp (as.drop (i+1)) c f).bind λrest=>.ok (bs++rest)):=by
     rw[←Yi];exact P2
    refine hc Cs.flatten as[i] v H3 _ w3 hv ?_
    cases ec:c as[i] with
    |bad=>rw[ec] at P3';exact P3'
    |err x=>rw[ec] at P3';exact λH4 s4=>P3' H4 (s2.trans (s3.trans s4))
    |ok b=>
     rw[ec] at P3'
     intro H4 s4
     have w4:=w3.keep s4
     have m4:=Xi (OO:=Cs.flatten::OO) s4
     cases b with
     |false=>exact⟨bs,Cs,s2.trans (s3.trans s4),w4,m2.trans (m3.trans m4),pr.imp λ_ _ _ h=>z.mono (m3.trans m4) h,Nat.le_succ_of_le hlen,P3'⟩
     |true=>
      rw[if_pos rfl]
      have P4:PZ Er (FO K OO OO (oL o) Q) H ((f as[i]).bind λb=>(Dp (as.drop (i+1)) c f).bind λrest=>.ok (bs++b::rest)):=by
       have:((f as[i]).bind λb=>(Dp (as.drop (i+1)) c f).bind λrest=>Rs.ok (bs++b::rest))=((f as[i]).bind λb=>(Dp (as.drop (i+1)) c f).bind λbs=>Rs.ok (b::bs)).bind λrest=>.ok (bs++rest):=by
        rw[Yi];congr 1;funext b;rw[Yi];rfl
       rw[this];exact P3'
      refine hb Cs.flatten as[i] v H4 _ w4 (((T (Cs.flatten::OO)).sc as[i] v S).mono _ _ m4 hv) ?_
      cases eb:f as[i] with
      |bad=>rw[eb] at P4;exact P4
      |err x=>rw[eb] at P4;exact λH5 s5=>P4 H5 (s2.trans (s3.trans (s4.trans s5)))
      |ok b=>
       rw[eb] at P4
       intro v' C' H5 s5 w5 m5 ho
       have pe:((Cs++[C']).flatten::OO).flatten.Perm (C'::Cs.flatten::OO).flatten:=by
        simp only[ZG,List.flatten_cons]
        rw[List.append_assoc, ←List.append_assoc, ←List.append_assoc]
        exact List.perm_append_comm.append_right _
       refine⟨bs++[b],Cs++[C'],s2.trans (s3.trans (s4.trans s5)),w5.of pe,?_,?_,by simpa using hlen,?_⟩
       ·rw[XW pe];exact m2.trans (m3.trans (m4.trans m5))
       ·rw[XW pe];exact P3.snoc (pr.imp λ_ _ _ h=>z.mono (m3.trans (m4.trans m5)) h) ho
       ·have P5:PZ Er (FO K OO OO (oL o) Q) H ((Dp (as.drop (i+1)) c f).bind λrest=> .ok (bs++b::rest)):=P4
        simpa using P5
   ·left
    have e:i=as.length:=Nat.le_antisymm hi (Nat.not_lt.mp hlt)
    subst e
    refine⟨hstop (Cs.flatten::OO) H2 w2 m2,?_⟩
    rw[List.drop_length] at P2
    have P3':FO K OO OO (oL o) Q (bs++[]) H:=P2
    rw[List.append_nil] at P3'
    exact NG (H0:=H) w2 ((Xi s').trans m2) s2 pr P3'
noncomputable def Ua (as:List α)(i:Int)(a:α):Rs (List α):=match ixN as.length i with
 |some j=>.ok (as.set j a)
 |none=>.bad
end
section
variable {K:PySem.W.Frag}{Er:Exc->Hp->Prop}{S:SC}{OO OO' OO2:List (List Xq)}{σ:St}{α β γ ρ ι δ ε:Type}
variable {Fd:Ends->β->Hp->Prop}[fd:FdOk Fd]{u:TS}
theorem IA {C D C':List Xq}{H:Hp}{k:Nat}{p:Addr}{o:HO}(w:W (D::OO) H)(hk:OO[k]?=some C)(hp:p∈C.map (·.1))(hp':p∈C'.map (·.1))(hnd:(C'.map (·.1)).Nodup)(hin:∀b∈C'.map (·.1),b∈(C++D).map (·.1))(ht:∀c∈C',upd H p o c.1=some c.2)(hm:∀c∈C',NV c.2=true):
  W (OO.set k C') (upd H p o)/\Xv (hid H (D::OO)) (hid (upd H p o) (OO.set k C')):=by
 have hlt:k<OO.length:=by
  rcases Nat.lt_or_ge k OO.length with h |h
  ·exact h
  ·rw[List.getElem?_eq_none h] at hk;cases hk
 have h1:=XT hk
 have h2:=XT (OO:=OO.set k C') (k:=k) (C:=C') (by simp[hlt])
 rw[U2] at h2
 have h3:(OO.set k C').flatten.Perm (C'++(OO.set k []).flatten):=by simpa using h2.symm
 have h4:(D::OO).flatten.Perm ((C++D)++(OO.set k []).flatten):=by
  rw[List.flatten_cons]
  refine((by simpa using h1.symm:OO.flatten.Perm (C++(OO.set k []).flatten)).append_left D).trans ?_
  rw[←List.append_assoc]
  exact List.perm_append_comm.append_right _
 have nd2:(((C++D)++(OO.set k []).flatten).map (·.1)).Nodup:=(h4.map _).nodup_iff.mp w.nd
 rw[List.map_append] at nd2
 obtain⟨n1,n2,n3⟩:=List.nodup_append.mp nd2
 refine⟨⟨λc hc=>?_,?_,λc hc=>?_⟩,λb v q=>?_⟩
 ·rcases List.mem_append.mp (h3.mem_iff.mp hc) with hc |hc
  ·exact ht c hc
  ·have hne:c.1≠p:=λe=>n3 p (hin p hp') c.1 (List.mem_map.mpr ⟨c,hc,rfl⟩) e.symm
   rw[XL hne]
   exact w.tr c (h4.mem_iff.mpr (by simp[hc]))
 ·refine((h3.map _).nodup_iff).mpr ?_
  rw[List.map_append]
  exact List.nodup_append.mpr ⟨hnd,n2,λa ha b hb=>n3 a (hin a ha) b hb⟩
 ·rcases List.mem_append.mp (h3.mem_iff.mp hc) with hc |hc
  ·exact hm c hc
  ·exact w.mu c (h4.mem_iff.mpr (by simp[hc]))
 ·obtain⟨q1,q2⟩:=X1 q
  have hbp:b≠p:=λe=>q2 (by
   rw[e]
   obtain⟨c,hc,rfl⟩:=List.mem_map.mp hp
   exact Uf (h4.mem_iff.mpr (by simp[hc])))
  refine Zg (by rw[XL hbp];exact q1) λz=>q2 ?_
  obtain⟨o',ho'⟩:=Cg z
  rcases List.mem_append.mp (h3.mem_iff.mp ho') with hc |hc
  ·obtain⟨c,hc2,e⟩:=List.mem_map.mp (hin b (List.mem_map.mpr ⟨_,hc,rfl⟩))
   rw[←e]
   exact Uf (h4.mem_iff.mpr (List.mem_append_left _ hc2))
  ·exact Uf (c:=(b,o')) (h4.mem_iff.mpr (by simp[hc]))
theorem Pj {D:List Xq}{Cs Cs':List (List Xq)}{H:Hp}{k:Nat}{p:Addr}{xs xs':List V}(w:W (D::OO) H)(hk:OO[k]?=some ((p, .lst xs)::Cs.flatten))(hin:∀c∈Cs'.flatten,c∈Cs.flatten++D)(hnd:(Cs'.flatten.map (·.1)).Nodup):
  W (OO.set k ((p, .lst xs')::Cs'.flatten)) (upd H p (.lst xs'))/\Xv (hid H (D::OO)) (hid (upd H p (.lst xs')) (OO.set k ((p, .lst xs')::Cs'.flatten))):=by
 have h1:=XT hk
 have w3:W [((p,HO.lst xs)::(Cs.flatten++D))++(OO.set k []).flatten] H:=w.of (by
  simp only[List.flatten_cons,List.flatten_nil,List.append_nil]
  refine List.Perm.trans ?_ ((by simpa using h1:(((p,HO.lst xs)::Cs.flatten)++(OO.set k []).flatten).Perm OO.flatten).append_left D)
  rw[←List.append_assoc]
  refine List.Perm.append_right _ ?_
  exact(List.perm_append_comm (l₁:=(p,HO.lst xs)::Cs.flatten) (l₂:=D)))
 have nd:=w3.nd
 simp only[fl,List.flatten_cons,List.flatten_nil,List.append_nil,List.map_append,List.cons_append,List.map_cons] at nd
 have hne:∀c∈Cs'.flatten,c.1≠p:=λc hc e=>by
  refine(List.nodup_cons.mp nd).1 ?_
  rw[←e]
  refine List.mem_append_left _ ?_
  rw[←List.map_append]
  exact List.mem_map.mpr ⟨c,hin c hc,rfl⟩
 refine IA w hk List.mem_cons_self List.mem_cons_self ?_ ?_ ?_ ?_
 ·rw[List.map_cons,List.nodup_cons]
  refine⟨λz=>?_,hnd⟩
  obtain⟨c,hc,e⟩:=List.mem_map.mp z
  exact hne c hc e
 ·intro b hb
  rcases List.mem_cons.mp hb with rfl |hb
  ·exact List.mem_cons_self
  ·obtain⟨c,hc,rfl⟩:=List.mem_map.mp hb
   rw[List.cons_append,List.map_cons]
   exact List.mem_cons_of_mem _ (List.mem_map.mpr ⟨c,hin c hc,rfl⟩)
 ·intro c hc
  rcases List.mem_cons.mp hc with rfl |hc
  ·exact Yd
  ·rw[XL (hne c hc)]
   exact w3.tr c (by
    rw[List.flatten_cons,List.flatten_nil,List.append_nil]
    exact List.mem_append_left _ (List.mem_cons_of_mem _ (hin c hc)))
 ·intro c hc
  rcases List.mem_cons.mp hc with rfl |hc
  ·rfl
  ·exact w3.mu c (by
    rw[List.flatten_cons,List.flatten_nil,List.append_nil]
    exact List.mem_append_left _ (List.mem_cons_of_mem _ (hin c hc)))
theorem Ft {o:OE α}{h:Hp}{p:Addr}{xs:List V}{as:List α}{R:List Xq}(q:oL o K h (.ref p) as ((p, .lst xs)::R)):∃Cs,P3 (o K h) xs as Cs/\R=Cs.flatten:=by
 obtain⟨p',xs',Cs,e,q,c⟩:=q
 injection c with c1 c2
 injection c1 with c3 c4
 injection c4 with c5
 subst c5
 exact⟨Cs,q,c2⟩
theorem Bk {as:List α}{i:Int}{a:α}{bs:List α}(h:Ua as i a= .ok bs):∃j,ixN as.length i=some j/\bs=as.set j a:=by
 unfold Ua at h;split at h
 ·cases h;exact⟨_,by assumption,rfl⟩
 ·cases h
theorem Bg {as:List α}{i:Int}{a:α}{x:Exc}:Ua as i a≠ .err x:=by unfold Ua;split<;> exact λz=>nomatch z
theorem Jm {l r m:List Xq}(h:(l++r).Perm m)(n:(m.map (·.1)).Nodup):(l.map (·.1)).Nodup:=by
 have:((l++r).map (·.1)).Nodup:=(h.map _).nodup_iff.mpr n
 rw[List.map_append] at this
 exact(List.nodup_append.mp this).1
theorem F2 {Cs:List (List Xq)}{j:Nat}{D:List Xq}(hj:j<Cs.length):((Cs.set j D).flatten++Cs[j]).Perm (Cs.flatten++D):=by
 have h1:=XT (OO:=Cs) (k:=j) (C:=Cs[j]) (by simp[hj])
 have h2:=XT (OO:=Cs.set j D) (k:=j) (C:=D) (by simp[hj])
 rw[U2] at h2
 have h3:(Cs.set j D).flatten.Perm (D++(Cs.set j []).flatten):=by simpa using h2.symm
 have h4:Cs.flatten.Perm (Cs[j]++(Cs.set j []).flatten):=by simpa using h1.symm
 refine(h3.append_right _).trans (List.Perm.trans ?_ (h4.append_right _).symm)
 refine List.perm_append_comm.trans ((List.perm_append_comm.append_left _).trans ?_)
 rw[List.append_assoc]
theorem QA {D:List Xq}{Cs:List (List Xq)}{H:Hp}{k:Nat}{p:Addr}{xs:List V}(w:W (D::OO) H)(hk:OO[k]?=some ((p, .lst xs)::Cs.flatten)):((Cs.flatten++D).map (·.1)).Nodup:=by
 have h1:=XT hk
 have w3:W [((p,HO.lst xs)::(Cs.flatten++D))++(OO.set k []).flatten] H:=w.of (by
  simp only[List.flatten_cons,List.flatten_nil,List.append_nil]
  refine List.Perm.trans ?_ ((by simpa using h1:(((p,HO.lst xs)::Cs.flatten)++(OO.set k []).flatten).Perm OO.flatten).append_left D)
  rw[←List.append_assoc]
  refine List.Perm.append_right _ ?_
  exact(List.perm_append_comm (l₁:=(p,HO.lst xs)::Cs.flatten) (l₂:=D)))
 have nd:=w3.nd
 simp only[fl,List.flatten_cons,List.flatten_nil,List.append_nil,List.cons_append,List.map_cons] at nd
 have n2:=(List.nodup_cons.mp nd).2
 rw[List.map_append] at n2
 exact(List.nodup_append.mp n2).1
theorem IG {ta ti:TE}{o:OE α}[MonoO o]{m:Rs α}{mi:Rs Int}{f:List α->Rs β}{v:V}{as:List α}{C:List Xq}(i k:Nat)(hσ:σ[i]?=some (some v))(hk':OO'[k]?=some C)(h:∀x,S.p x->oL o K x v as C)(he:Ev K Er S OO OO' σ ta o m)
  (hi:∀D,EvB K Er S (D::OO') σ ti Xc mi)
  (hr:∀bs C',Sv Er (S.addO K (oL o) v bs C') (OO'.set k C') σ u Fd (f bs)):Sv Er S OO σ (ZK (DT ta (Pi (Jz i) ti IP)) u) Fd (m.bind λa=>mi.bind λj=>(Ua as j a).bind f):=λH D w s P=>
 he.st w s P λa y D' H' w' s' ho P'=>⟨v,hσ,(hi D').st w' s' P' λj z H2 s2 w2 q2 r2 P2=>by
  obtain⟨p,xs,Cs,e,q,c⟩:=h _ q2
  subst c
  have hH:H2 p=some (.lst xs):=w2.tr (p, .lst xs) (by rw[List.flatten_cons];exact List.mem_append_right _ (List.mem_flatten.mpr ⟨_,List.mem_of_getElem? hk',List.mem_cons_self⟩))
  cases es:Ua as j a with
  |bad=>rw[es] at P2;exact P2.elim
  |err x=>exact absurd es Bg
  |ok bs=>
   rw[es] at P2
   obtain⟨jj,h1,rfl⟩:=Bk es
   have hjl:jj<as.length:=by
    unfold ixN at h1
    split at h1
    ·split at h1
     ·cases h1;omega
     ·cases h1
    ·split at h1
     ·cases h1;omega
     ·cases h1
   have hjC:jj<Cs.length:=by rw[q.len.2];exact hjl
   have hp:=F2 (Cs:=Cs) (j:=jj) (D:=D') hjC
   obtain⟨w3,m3⟩:=Pj (xs':=xs.set jj y) (Cs':=Cs.set jj D') w2 hk' (λc hc=>hp.mem_iff.mp (List.mem_append_left _ hc)) (Jm hp (QA w2 hk'))
   refine⟨p,xs,j,jj,e,r2,hH,by rw[q.len.1];exact h1,hr _ _ _ D w3 ⟨S.mono _ _ m3 q2,⟨p,_,_,e,P3.imp (λ_ _ _ z=>MonoO.mono m3 z) (P3.set (MonoO.mono (Xi s2) ho) jj q),rfl⟩⟩ (PZ.tr (fd.tr D) m3 P2)⟩⟩
theorem N2 {ta:TE}{o:OE α}[MonoO o]{m:Rs (List α)}{f:List α->Rs β}{v:V}{as:List α}{C:List Xq}(i k:Nat)(hσ:σ[i]?=some (some v))(hk:OO[k]?=some C)(hk':OO'[k]?=some C)(h:∀x,S.p x->oL o K x v as C)(he:Ev K Er S OO OO' σ ta (oL o) m)
  (hr:∀bs C',Sv Er (S.addO K (oL o) v (as++bs) C') (OO'.set k C') σ u Fd (f (as++bs))):Sv Er S OO σ (ZK (Gd (tBM K "list" GL (Jz i) (Xo ta YN))) u) Fd (m.bind λbs=>chk (as.length+bs.length<=sizeLine) (f (as++bs))):=λH D w s P=>by
 obtain⟨p,xs,Cs,e,q,c⟩:=h _ s
 subst c
 have hH:H p=some (.lst xs):=w.tr (p, .lst xs) (List.mem_flatten.mpr ⟨_,List.mem_of_getElem? hk,List.mem_cons_self⟩)
 refine⟨v,hσ,by rw[e];exact .inl ⟨rfl,_,SqL.of hH⟩,he.st w s P λbs y D' H' w' s' ho P'=>?_⟩
 obtain⟨hsz,P'⟩:=PZ.chk P'
 subst e
 obtain⟨Cs2,q2,c2⟩:=Ft (h _ s')
 obtain⟨p',zs,Ds,e3,q3,c3⟩:=ho
 subst c3
 have hH':H' p=some (.lst xs):=w'.tr (p, .lst xs) (by rw[List.flatten_cons];exact List.mem_append_right _ (List.mem_flatten.mpr ⟨_,List.mem_of_getElem? hk',List.mem_cons_self⟩))
 have hH2:H' p'=some (.lst zs):=w'.tr (p', .lst zs) (by rw[List.flatten_cons];exact List.mem_append_left _ List.mem_cons_self)
 have cn:=QA w' hk'
 obtain⟨w3,m3⟩:=Pj (xs':=xs++zs) (Cs':=Cs2++Ds) w' hk' (λc hc=>by
   rw[List.flatten_append,List.mem_append] at hc
   rcases hc with hc |hc
   ·rw[c2];exact List.mem_append_left _ hc
   ·exact List.mem_append_right _ (List.mem_cons_of_mem _ hc)) (by
   rw[List.flatten_append, ←c2]
   refine List.Nodup.sublist (List.Sublist.map _ ?_) cn
   exact List.Sublist.append (List.Sublist.refl _) (List.sublist_cons_self _ _))
 refine⟨p,p',xs,zs,rfl,by rw[e3],hH',hH2,by rw[q2.len.1,q3.len.1];exact hsz,?_⟩
 exact hr bs _ _ D w3 ⟨S.mono _ _ m3 s',⟨p,_,_,rfl,P3.imp (λ_ _ _ z=>MonoO.mono m3 z) (q2.app q3),rfl⟩⟩ (PZ.tr (fd.tr D) m3 P')
noncomputable def HC (as:List α)(i:Int):Rs (α×List α):=chk (-(2^63)<=i/\i<2^63) (match seqIndex? i as.length with
 |none=>.bad
 |some k=>match as[k]? with
  |none=>.bad
  |some a=>.ok (a,as.eraseIdx k))
theorem Mp {as:List α}{i:Int}{p:α×List α}(h:HC as i= .ok p):(-(2^63)<=i/\i<2^63)/\∃k,seqIndex? i as.length=some k/\as[k]?=some p.1/\p.2=as.eraseIdx k:=by
 obtain⟨h1,h2⟩:=Zf h
 refine⟨h1,?_⟩
 split at h2
 ·cases h2
 ·split at h2
  ·cases h2
  ·cases h2;exact⟨_,by assumption,by assumption,rfl⟩
theorem MP {as:List α}{i:Int}{x:Exc}:HC as i≠ .err x:=by
 unfold HC chk;split
 ·split
  ·exact λz=>nomatch z
  ·split<;> exact λz=>nomatch z
 ·exact λz=>nomatch z
theorem Paired.erase' {F:α->γ->Prop}:∀{l:List α}{m:List γ} (n:Nat),Paired F l m->Paired F (l.eraseIdx n) (m.eraseIdx n)
 |_,_,_, .nil=>.nil
 |_,_,0, .cons _ t=>t
 |_,_,n+1, .cons r t=>.cons r (Paired.erase' n t)
theorem B4 {te ti:TE}{r:Enc α}[MonoE r]{mi:Rs Int}{f:α×List α->Rs β}{v:V}{as:List α}{C:List Xq}{D:Ends}{H:Hp}{Q:VK}(i k:Nat)(hσ:σ[i]?=some (some v))(hk:OO[k]?=some C)(h:∀x,S.p x->oL (oF r) K x v as C)(hi:EvB K Er S OO σ ti Xc mi)
  (w:W OO H)(s:S.p (hid H OO))(P:PZ Er (Fd D) (hid H OO) (mi.bind λj=>(HC as j).bind f))
  (hr:∀a bs y C' H',W (OO.set k C') H'->((S.add K r y a).addO K (oL (oF r)) v bs C').p (hid H' (OO.set k C'))->PZ Er (Fd D) (hid H' (OO.set k C')) (f (a,bs))->Q y H'):tBM K "list" GC (Jz i) (Xo ti YN) σ H Q:=by
 obtain⟨p,xs,Cs,e,q,c⟩:=h _ s
 subst c
 have hH:H p=some (.lst xs):=w.tr (p, .lst xs) (List.mem_flatten.mpr ⟨_,List.mem_of_getElem? hk,List.mem_cons_self⟩)
 refine⟨v,hσ,by rw[e];exact .inl ⟨rfl,_,SqL.of hH⟩,hi.st w s P λj z H' s1 w' s' ho P'=>?_⟩
 subst e
 obtain⟨Cs2,q2,c2⟩:=Ft (h _ s')
 obtain⟨pr,hfl⟩:=P3.flat q2
 cases es:HC as j with
 |bad=>rw[es] at P';exact P'.elim
 |err x=>exact absurd es MP
 |ok pp=>
  rw[es] at P'
  obtain⟨a,bs⟩:=pp
  obtain⟨h1,kk,h2,h3,h4⟩:=Mp es
  obtain⟨y,hy,ry⟩:=Paired.getR pr h3
  have w0:W ([]::OO) H':=w'.nil
  have hk0:OO[k]?=some ((p, .lst xs)::([]:List (List Xq)).flatten):=by rw[hk,c2,hfl];rfl
  obtain⟨w3,m3⟩:=Pj (D:=[]) (Cs:=[]) (xs':=xs.eraseIdx kk) (Cs':=List.replicate bs.length []) w0 hk0 (λc hc=>by rw[Yf] at hc;cases hc) (by rw[Yf];exact List.nodup_nil)
  rw[Y7] at m3
  refine⟨p,xs,j,kk,y,rfl,by rw[show z= .int j from ho],s1 _ _ hH,h1.1,h1.2,by rw[Paired.len pr];exact h2,hy,?_⟩
  have pr2:Paired (r K (hid H' OO)) (xs.eraseIdx kk) bs:=by rw[show bs=as.eraseIdx kk from h4];exact Paired.erase' kk pr
  exact hr a bs y _ _ w3 ⟨⟨S.mono _ _ m3 s',MonoE.mono m3 ry⟩,⟨p,_,_,rfl,(P3.of (Paired.imp2 (λ_ _ z=>MonoE.mono m3 z) pr2)).imp λ_ _ _ z=>z,rfl⟩⟩ (PZ.tr (fd.tr D) m3 P')
theorem O8 {ti:TE}{r:Enc α}[MonoE r]{mi:Rs Int}{f:α×List α->Rs β}{v:V}{as:List α}{C:List Xq}(x i k:Nat)(hσ:σ[i]?=some (some v))(hk:OO[k]?=some C)(h:∀x,S.p x->oL (oF r) K x v as C)(hi:EvB K Er S OO σ ti Xc mi)
  (hr:∀a bs y C',Sv Er ((S.add K r y a).addO K (oL (oF r)) v bs C') (OO.set k C') (σ.set x (some y)) u Fd (f (a,bs))):Sv Er S OO σ (ZK (DT (tBM K "list" GC (Jz i) (Xo ti YN)) (YC x)) u) Fd (mi.bind λj=>(HC as j).bind f):=λH D w s P=>
 B4 (te:=ti) i k hσ hk h hi w s P λa bs y C' H' w' s' P'=>hr a bs y C' H' D w' s' P'
theorem FZ {ti:TE}{r:Enc α}[MonoE r]{mi:Rs Int}{f:List α->List α->Rs β}{v v2:V}{as zs:List α}{C C2:List Xq}(i k i2 k2:Nat)(hne:k2≠k)(hσ:σ[i]?=some (some v))(hk:OO[k]?=some C)(h:∀x,S.p x->oL (oF r) K x v as C)
  (hσ2:σ[i2]?=some (some v2))(hk2:OO[k2]?=some C2)(h2:∀x,S.p x->oL (oF r) K x v2 zs C2)(hi:EvB K Er S OO σ ti Xc mi)
  (hr:∀a bs C' C2',Sv Er ((S.addO K (oL (oF r)) v bs C').addO K (oL (oF r)) v2 (zs++[a]) C2') ((OO.set k C').set k2 C2') σ u Fd (f bs (zs++[a]))):
  Sv Er S OO σ (ZK (Gd (tBM K "list" VP (Jz i2) (Xo (tBM K "list" GC (Jz i) (Xo ti YN)) YN))) u) Fd (mi.bind λj=>(HC as j).bind λp=>chk (zs.length<sizeLine) (f p.2 (zs++[p.1]))):=λH D w s P=>by
 obtain⟨p2,xs2,Cs2,e2,q2,c2⟩:=h2 _ s
 subst c2
 have hH2:H p2=some (.lst xs2):=w.tr (p2, .lst xs2) (List.mem_flatten.mpr ⟨_,List.mem_of_getElem? hk2,List.mem_cons_self⟩)
 refine⟨v2,hσ2,by rw[e2];exact .inl ⟨rfl,_,SqL.of hH2⟩,B4 (te:=ti) i k hσ hk h hi w s P λa bs y C' H' w' s' P'=>?_⟩
 obtain⟨hsz,P'⟩:=PZ.chk P'
 subst e2
 obtain⟨Cs3,q3,c3⟩:=Ft (h2 _ s'.1.1)
 obtain⟨pr,hfl⟩:=P3.flat q3
 have hkk:(OO.set k C')[k2]?=some ((p2,HO.lst xs2)::([]:List (List Xq)).flatten):=by
  rw[List.getElem?_set_ne (λe=>hne e.symm),hk2,c3,hfl];rfl
 have hH3:H' p2=some (.lst xs2):=w'.tr (p2, .lst xs2) (List.mem_flatten.mpr ⟨_,List.mem_of_getElem? hkk,List.mem_cons_self⟩)
 obtain⟨w3,m3⟩:=Pj (D:=[]) (Cs:=[]) (xs':=xs2++[y]) (Cs':=List.replicate (zs++[a]).length []) w'.nil hkk (λc hc=>by rw[Yf] at hc;cases hc) (by rw[Yf];exact List.nodup_nil)
 rw[Y7] at m3
 refine⟨p2,xs2,y,rfl,rfl,hH3,by rw[Paired.len pr];exact hsz,?_⟩
 refine hr a bs C' _ _ D w3 ⟨⟨S.mono _ _ m3 s'.1.1,(SC.oneO K (oL (oF r)) v bs C').mono _ _ m3 s'.2⟩,⟨p2,_,_,rfl,(P3.of (Paired.app (Paired.imp2 (λ_ _ z=>MonoE.mono m3 z) pr) (.cons (MonoE.mono m3 (show r K _ y a from s'.1.2)) .nil))).imp λ_ _ _ z=>z,rfl⟩⟩ (PZ.tr (fd.tr D) m3 P')
theorem DR {ta tb:TE}{r:Enc α}{q:Enc γ}[z:MonoE r][MonoE q]{ma:Rs α}{mb:Rs γ}{f:α->γ->Rs β}(i j:Nat)(ha:EvS K Er S OO σ ta r ma)(hb:EvS K Er S OO σ tb q mb)
  (hr:∀a b v w,Sv Er ((S.add K r v a).add K q w b) OO ((σ.set i (some v)).set j (some w)) u Fd (f a b)):Sv Er S OO σ (ZK (RH i j (Xo ta (Xo tb YN))) u) Fd (ma.bind λa=>mb.bind λb=>f a b):=λH D w s P=>
 ha.st w s P λa x H1 s1 w1 q1 r1 P1=>hb.st w1 q1 P1 λb y H2 s2 w2 q2 r2 P2=>⟨x,y,rfl,hr a b x y H2 D w2 ⟨⟨q2,z.mono (Xi s2) r1⟩,r2⟩ P2⟩
theorem B5 {te:TE}{r:Enc α}{q:Enc γ}[MonoE r][MonoE q]{m:Rs (α×γ)}{f:α×γ->Rs β}(i j:Nat)(he:EvS K Er S OO σ te (rP2 r q) m)
  (hr:∀a v w,Sv Er ((S.add K r v a.1).add K q w a.2) OO ((σ.set i (some v)).set j (some w)) u Fd (f a)):Sv Er S OO σ (ZK (DT te (Lj K 2 (ZD (YC i) (ZD (YC j) Nf)))) u) Fd (m.bind f):=λH D w s P=>
 he.st w s P λa v H1 s1 w1 q1 r9 P1=>by obtain⟨p,x,y,e,h,h1,h2⟩:=r9;exact⟨p,_,e,SqT.of (Xz _ _ h),rfl,x,[y],rfl,y,[],rfl,rfl,hr a x y H1 D w1 ⟨⟨q1,h1⟩,h2⟩ P1⟩
theorem OQ {te:TE}{g:Int->Int->Int}{m:Rs Int}{f:Int->Rs β}{v:V}{a:Int}(i:Nat)(hσ:σ[i]?=some (some v))(h:∀x,S.p x->Xc K x v a)(he:EvB K Er S OO σ te Xc m)
  (hr:∀b v,Sv Er (S.add K Xc v b) OO (σ.set i (some v)) u Fd (f b)):Sv Er S OO σ (ZK (Pn i te (ipI g)) u) Fd (m.bind λb=>f (g a b)):=λH D w s P=>
 ⟨v,hσ,he.st w s P λb y H1 s1 w1 q1 r1 P1=>⟨a,b,h _ s,r1,hr _ _ H1 D w1 ⟨q1,rfl⟩ P1⟩⟩
theorem M6 {ta tb:TE}{ma mb:Rs Int}(ha:EvB K Er S OO σ ta Xc ma)(hb:EvB K Er S OO σ tb Xc mb):EvB K Er S OO σ (tCB (λxs H Q=>∃ i j:Int,xs=[.int i, .int j]/\Q (.int (if j > i then j else i)) H) (Xo ta (Xo tb YN))) Xc (ma.bind λa=>mb.bind λb=>.ok (max a b)):=λH Q w s P=>
 ha.run w s FB.tr P λa x H1 s1 w1 q1 r1 P1=>hb.run w1 q1 FB.tr P1 λb y H2 s2 w2 q2 r2 P2=>⟨a,b,by rw[show x= .int a from r1,show y= .int b from r2],P2 _ H2 (Xv.refl _) (by show V.int _=V.int _;congr 1;omega)⟩
theorem BV {ta tb:TE}{ma mb:Rs Int}(ha:EvB K Er S OO σ ta Xc ma)(hb:EvB K Er S OO σ tb Xc mb):EvB K Er S OO σ (tCB (λxs H Q=>∃ i j:Int,xs=[.int i, .int j]/\Q (.int (if j<i then j else i)) H) (Xo ta (Xo tb YN))) Xc (ma.bind λa=>mb.bind λb=>.ok (min a b)):=λH Q w s P=>
 ha.run w s FB.tr P λa x H1 s1 w1 q1 r1 P1=>hb.run w1 q1 FB.tr P1 λb y H2 s2 w2 q2 r2 P2=>⟨a,b,by rw[show x= .int a from r1,show y= .int b from r2],P2 _ H2 (Xv.refl _) (by show V.int _=V.int _;congr 1;omega)⟩
theorem Nq {ta:TE}{ma:Rs (List Int)}(ha:EvB K Er S OO σ ta (rV Xc) ma):EvB K Er S OO σ (tCB (RC K) (Xo ta YN)) Xc (ma.bind λa=>.ok a.sum):=λH Q w s P=>
 ha.run w s FB.tr P λa x H1 s1 w1 q1 r9 P1=>by obtain⟨p,xs,e,q,pr⟩:=r9;exact⟨p,a,by rw[e],by rw[←QE pr];exact SqL.of q,P1 _ H1 (Xv.refl _) rfl⟩
theorem JH:∀{xs:List V}{bs:List Bool}{H:Hp},Paired (XC K H) xs bs->xs=bs.map V.bl
 |_,_,_, .nil=>rfl
 |_,_,_, .cons r t=>by rw[show _=V.bl _ from r,JH t];rfl
theorem Nu {ta:TE}{ma:Rs (List Bool)}(ha:EvB K Er S OO σ ta (rV XC) ma):EvB K Er S OO σ (tCB (Rz K) (Xo ta YN)) XC (ma.bind λa=>.ok (a.all id)):=λH Q w s P=>
 ha.run w s FB.tr P λa x H1 s1 w1 q1 r9 P1=>by obtain⟨p,xs,e,q,pr⟩:=r9;exact⟨p,a,by rw[e],by rw[←JH pr];exact SqL.of q,P1 _ H1 (Xv.refl _) rfl⟩
class TyE {α:Type}(r:Enc α)(n:outParam String):Prop where
 ty:∀{K:PySem.W.Frag}{H:Hp}{v:V}{a:α},r K H v a->TyOf K H v (.type n)
instance:TyE Xc "int":=⟨fun {K H v a} h=>by cases(show v= .int a from h);exact .int a⟩
instance:TyE XC "bool":=⟨fun {K H v a} h=>by cases(show v= .bl a from h);exact .bl a⟩
instance {r:Enc α}:TyE (rV r) "list":=⟨λr9=>by obtain⟨p,xs,e,q,_⟩:=r9;exact by subst e;exact .lst q⟩
instance {r:Enc α}:TyE (rPL r) "tuple":=⟨λr9=>by obtain⟨p,xs,e,q,_⟩:=r9;exact by subst e;exact .tup q⟩
instance {r:Enc α}{q:Enc γ}:TyE (rP2 r q) "tuple":=⟨λr9=>by obtain⟨p,x,y,e,q,_⟩:=r9;exact by subst e;exact .tup q⟩
instance {r:Enc α}{q:Enc γ}{t:Enc δ}:TyE (rP3 r q t) "tuple":=⟨λr9=>by obtain⟨p,x,y,z,e,q,_⟩:=r9;exact by subst e;exact .tup q⟩
theorem Qi {te:TE}{r:Enc α}{n:String}[z:TyE r n]{m:Rs α}(t:String)(b:Bool)(hk:PySem.W.kitOne K (.type n) (.type t)=some b)(he:EvB K Er S OO σ te r m):
  EvB K Er S OO σ (tCB (λxs H Q=>∃ x n t b,xs=[x, .ty n]/\TyOf K H x t/\PySem.W.kitOne K t (.type n)=some b/\Q (.bl b) H) (Xo te (Xo (tC (.ty t)) YN))) XC (m.bind λ_=>.ok b):=λH Q w s P=>
 he.run w s FB.tr P λa x H1 s1 w1 q1 r1 P1=>⟨x,t, .type n,b,rfl,z.ty r1,hk,P1 _ H1 (Xv.refl _) rfl⟩
theorem M9 {ta:TE}{ma:Rs Int}(ha:EvB K Er S OO σ ta Xc ma):EvB K Er S OO σ (tCB (λxs H Q=>∃ i:Int,xs=[.int i]/\Q (.int (if i<0 then-i else i)) H) (Xo ta YN)) Xc (ma.bind λa=>.ok (a.natAbs:Int)):=λH Q w s P=>
 ha.run w s FB.tr P λa x H1 s1 w1 q1 r1 P1=>⟨a,by rw[show x= .int a from r1],P1 _ H1 (Xv.refl _) (by show V.int _=V.int _;congr 1;omega)⟩
end
section
variable {K:PySem.W.Frag}{Er:Exc->Hp->Prop}{S:SC}{OO OO' OO1 OO2:List (List Xq)}{σ:St}{α β γ ρ ι δ ε:Type}
variable {Fd:Ends->β->Hp->Prop}[fd:FdOk Fd]{u:TS}
theorem On (n:Nat)(H:Hp):W (List.replicate n []) H:=⟨λc hc=>(by rw[Yf] at hc;cases hc),(by unfold fl;rw[Yf];exact List.nodup_nil),λc hc=>(by rw[Yf] at hc;cases hc)⟩
theorem IS (n:Nat)(H:Hp):hid H (List.replicate n [])=H:=by funext b;unfold hid fl;rw[Yf];simp
theorem Ol {o:OE ρ}[z:MonoO o]{Q:VK}{b:ρ}{H:Hp}(q:FF K o Q b H):∀v C OO' H',W (C::OO') H'->Xv H (hid H' (C::OO'))->o K (hid H' (C::OO')) v b C->Q v H':=λv C OO' H' w m ho=>by
 have hs:Xv (hid H' (C::OO')) (hid H' [C]):=Qh (Xv.refl _) λb hb=>by
  rw[XX]
  refine List.mem_append_left _ ?_
  simpa[fl] using hb
 exact q v C H' (w.sub (by simp)) (m.trans hs) (z.mono hs ho)
theorem Gg {o:OE ρ}[MonoO o]{t:TS}{m:Rs ρ}{Q:VK}{b:ρ}{H:Hp}{D:Ends}(n:Nat)(h:Sv (λ_ _=>False) S (List.replicate n []) σ t (FTd K o) m)(hs:S.p H)(hm:m= .ok b)(q:FF K o Q b H)(hD:D.rt=Q):t D σ H:=by
 refine h H D (On n H) (by rw[IS];exact hs) ?_
 subst hm
 rw[IS]
 intro v C OO' H' w mm ho
 rw[hD]
 exact Ol q v C OO' H' w mm ho
noncomputable def oU:OE Unit:=λ_ _ v _ C=>v= .non/\C=[]
instance:MonoO oU:=⟨λ_ h=>h⟩
instance:FlatO oU:=⟨λ_ h=>h⟩
noncomputable def rU0:Enc Unit:=λ_ _ v _=>v= .non
instance:FlatE rU0:=⟨λ_ h=>h⟩
instance:FrzC oU rU0:=⟨λh _ _=>h.1⟩
theorem PB {J:Jn Unit ι}{t:TS}{m:Rs Unit}{Q:VK}{b:Unit}{H:Hp}{D:Ends}(n:Nat)(h:Sv (λ_ _=>False) S (List.replicate n []) σ t (FNd J) m)(hs:S.p H)(hm:m= .ok b)(q:FF K oU Q b H)(hD:∀σ H,D.nx σ H=Q .non H):t D σ H:=by
 refine h H D (On n H) (by rw[IS];exact hs) ?_
 subst hm
 rw[IS]
 intro x H' w mm ho
 rw[hD]
 have hs:Xv (hid H' (J.oo x)) (hid H' [[]]):=Qh (Xv.refl _) λb hb=>by simp[fl] at hb
 exact q .non [] H' ⟨λc hc=>by simp at hc,by simp[fl],λc hc=>by simp at hc⟩ (mm.trans hs) ⟨rfl,rfl⟩
theorem LR {t:TS}{m:Rs β}(k:Nat)(hr:Sv Er S (OO.set k []) σ t Fd m):Sv Er S OO σ t Fd m:=λH D w s P=>by
 cases hk:OO[k]? with
 |none=>
  rw[List.set_eq_of_length_le (List.getElem?_eq_none_iff.mp hk)] at hr
  exact hr H D w s P
 |some C=>
  have hp:=XT hk
  have w1:W (C::OO.set k []) H:=w.of hp
  have hs:Xv (hid H OO) (hid H (OO.set k [])):=by
   rw[←XW hp]
   exact Qh (Xv.refl _) λb hb=>by rw[XX];simp[hb]
  exact hr H D w1.tail (S.mono _ _ hs s) (PZ.tr (fd.tr D) hs P)
theorem Mi {te:TE}{r:Enc α}{m:Rs α}{f:Rs β}(he:EvB K Er S OO σ te r m)(hr:Sv Er S OO σ u Fd f):Sv Er S OO σ (ZK (Gd te) u) Fd (m.bind λ_=>f):=λH D w s P=>
 he.st w s P λa v H' s1 w' s' ho P'=>hr H' D w' s' P'
noncomputable def FAO {α:Type}(K:PySem.W.Frag)(OO OO':List (List Xq))(o:OE α)(Q:List V->Hp->Prop)(as:List α)(H:Hp):Prop:=∀ vs Cs H',Xv H H'->W (Cs.flatten::OO') H'->Xv (hid H OO) (hid H' (Cs.flatten::OO'))->P3 (o K (hid H' (Cs.flatten::OO'))) vs as Cs->Q vs H'
noncomputable def Pr {α:Type}(K:PySem.W.Frag)(Er:Exc->Hp->Prop)(S:SC)(OO OO':List (List Xq))(σ:St)(t:TA)(o:OE α)(m:Rs (List α)):Prop:=∀ H Q,W OO H->S.p (hid H OO)->PZ Er (FAO K OO OO' o Q) H m->t σ H Q
theorem UV {o:OE α}:Pr K Er S OO OO σ YN o (.ok []):=λH Q w s P=>P [] [] H (Xv.refl _) w.nil (by show Xv _ (hid H ([]::OO));rw[Y7];exact Xv.refl _) .nil
theorem ZJ {te:TE}{t:TA}{o:OE α}[z:MonoO o]{m:Rs α}{n:Rs (List α)}(he:Ev K Er S OO OO1 σ te o m)(ht:∀C,Pr K Er S (C::OO1) (C::OO2) σ t o n):Pr K Er S OO OO2 σ (Xo te t) o (m.bind λa=>n.bind λas=>.ok (a::as)):=λH Q w s P=>by
 refine he H _ w s ?_
 cases em:m with
 |bad=>rw[em] at P;exact P
 |err x=>rw[em] at P;exact P
 |ok a=>
  rw[em] at P
  intro v C H1 s1 w1 m1 ho
  refine ht C H1 _ w1 (S.mono _ _ m1 s) ?_
  have P1:PZ Er (FAO K OO OO2 o Q) H (n.bind λas=>.ok (a::as)):=P
  cases en:n with
  |bad=>rw[en] at P1;exact P1
  |err x=>rw[en] at P1;exact λH2 s2=>P1 H2 (s1.trans s2)
  |ok as=>
   rw[en] at P1
   have P1:FAO K OO OO2 o Q (a::as) H:=P1
   intro vs Cs H2 s2 w2 m2 pr
   have pe:((C::Cs).flatten::OO2).flatten.Perm (Cs.flatten::C::OO2).flatten:=by
    simp only[List.flatten_cons]
    rw[←List.append_assoc]
    exact List.perm_append_comm.append_right _
   refine P1 (v::vs) (C::Cs) H2 (s1.trans s2) (w2.of pe) ?_ ?_
   ·rw[XW pe];exact m1.trans m2
   ·rw[XW pe];exact .cons (z.mono m2 ho) pr
theorem G8 {t:TA}{o:OE α}[z:MonoO o]{m:Rs (List α)}(h:Pr K Er S OO OO σ t o m):Ev K Er S OO OO σ (CK t) (oL o) (m.bind λas=>chk (as.length<=sizeLine) (.ok as)):=λH Q w s P=>by
 refine h H _ w s ?_
 cases e:m with
 |bad=>rw[e] at P;exact P
 |err x=>rw[e] at P;exact P
 |ok as=>
  rw[e] at P
  obtain⟨hsz,P⟩:=PZ.chk (show PZ Er _ H (chk (as.length<=sizeLine) (.ok as)) from P)
  intro vs Cs H1 s1 w1 m1 p
  exact⟨by rw[p.len.1];exact hsz,NG w1 m1 s1 p P⟩
class InE {α:Type}[DecidableEq α](r:Enc α):Prop where
 fl:∀{K:PySem.W.Frag}{H:Hp}{x:V}{a:α},r K H x a->JP x=true
 eq:∀{K:PySem.W.Frag}{H H':Hp}{x y:V}{a b:α},r K H x a->r K H' y b->eqV x y=decide (a=b)
instance:InE Xc:=⟨fun {K H x a} h=>by cases(show x= .int a from h);rfl,fun {K H H' x y a b} h h'=>by
 cases(show x= .int a from h);cases(show y= .int b from h');show(a==b)=_;rw[IT]⟩
theorem VA [DecidableEq α]{r:Enc α}[z:InE r]{H H':Hp}{x:V}{a:α}(hx:r K H x a):∀{xs:List V}{as:List α},Paired (r K H') xs as->xs.all JP=true/\inV x xs=decide (a∈as)
 |_,_, .nil=>⟨rfl,by simp[inV]⟩
 |_,_, .cons h t=>by
  obtain⟨h1,h2⟩:=VA hx t
  refine⟨by rw[List.all_cons,h1,z.fl h];rfl,?_⟩
  unfold inV at h2⊢
  rw[List.any_cons,h2,z.eq h hx,Bool.eq_iff_iff,Bool.or_eq_true,decide_eq_true_eq,decide_eq_true_eq,decide_eq_true_eq,List.mem_cons]
  exact or_congr ⟨Eq.symm,Eq.symm⟩ Iff.rfl
theorem Lx [DecidableEq α]{ta tb:TE}{r:Enc α}[z:InE r]{ma:Rs α}{mb:Rs (List α)}(ha:EvB K Er S OO σ ta r ma)(hb:EvB K Er S OO σ tb (rV r) mb):EvB K Er S OO σ (tOp (rIn K false) ta tb) XC (ma.bind λa=>mb.bind λas=>.ok (decide (a∈as))):=λH Q w s P=>
 ha.run w s FB.tr P λa x H1 s1 w1 q1 r1 P1=>hb.run w1 q1 FB.tr P1 λb y H2 s2 w2 q2 ⟨p,xs,e,q,pr⟩ P2=>by
  obtain⟨h1,h2⟩:=VA r1 pr
  exact⟨p,xs,e, .inl (SqL.of q),z.fl r1,h1,P2 _ H2 (Xv.refl _) (by rw[h2];rfl)⟩
noncomputable def Ml [DecidableEq α](as:List α)(a:α):Rs Int:=match as.findIdx? (λb=>decide (b=a)) with
 |some j=>.ok (j:Int)
 |none=>.bad
theorem Ct [DecidableEq α]{r:Enc α}[z:InE r]{H H':Hp}{x:V}{a:α}(hx:r K H x a){xs:List V}{as:List α}(p:Paired (r K H') xs as){j:Nat}(hj:as.findIdx? (λb=>decide (b=a))=some j):
  (∃y,xs[j]?=some y/\eqV y x=true)/\∀(m:Nat) y,m<j->xs[m]?=some y->eqV y x=false:=by
 rw[List.findIdx?_eq_some_iff_getElem] at hj
 obtain⟨h1,h2,h3⟩:=hj
 constructor
 ·obtain⟨y,hy,ry⟩:=Paired.getR p (i:=j) (b:=as[j]) (by simp[h1])
  exact⟨y,hy,by rw[z.eq ry hx];exact h2⟩
 ·intro m y hm hy
  obtain⟨b,hb,rb⟩:=Paired.getL p hy
  have hml:m<as.length:=by omega
  have e:b=as[m]:=by rw[List.getElem?_eq_getElem hml] at hb;exact(Option.some.inj hb).symm
  rw[z.eq rb hx,e]
  have:=h3 m hm
  simpa using this
theorem Mm [DecidableEq α]{as:List α}{a:α}{x:Exc}:Ml as a≠ .err x:=by unfold Ml;split<;> exact λz=>nomatch z
theorem Nh [DecidableEq α]{as:List α}{a:α}{n:Int}(h:Ml as a= .ok n):∃j:Nat,as.findIdx? (λb=>decide (b=a))=some j/\n=j:=by
 unfold Ml at h;split at h
 ·cases h;exact⟨_,by assumption,rfl⟩
 ·cases h
theorem KM [DecidableEq α]{ta tb:TE}{r:Enc α}[z:InE r][y:MonoE r]{ma:Rs (List α)}{mb:Rs α}(ha:EvB K Er S OO σ ta (rV r) ma)(hb:EvB K Er S OO σ tb r mb):EvB K Er S OO σ (tBM K "list" (BN K) ta (Xo tb YN)) Xc (ma.bind λas=>mb.bind λa=>Ml as a):=λH Q w s P=>
 ha.run w s FB.tr P λas x H1 s1 w1 q1 ⟨p,xs,e,q,pr⟩ P1=>⟨by rw[e];exact .inl ⟨rfl,_,SqL.of q⟩,hb.run w1 q1 FB.tr P1 λb v H2 s2 w2 q2 r2 P2=>by
  obtain⟨c,hc,P3⟩:=P2.okOf λx=>Mm
  obtain⟨j,hj,rfl⟩:=Nh hc
  have pr2:=Paired.imp2 (G:=r K H2) (λ_ _ h=>y.mono s2 h) pr
  obtain⟨h1,h2⟩:=Ct r2 pr2 hj
  exact⟨p,xs,v,j,e,rfl,SqL.of (s2 _ _ q),z.fl r2,(VA r2 pr2).1,h1,h2,P3 _ H2 (Xv.refl _) rfl⟩⟩
theorem By {ta tb:TE}{r:Enc α}{m:Rs (Option α)}(ha:EvB K Er S OO σ ta (JQ r) m):EvB K Er S OO σ (tOp (λx y H Q=>y= .non/\Q (.bl (decide (x= .non))) H) ta (tC .non)) XC (m.bind λa=>.ok a.isNone):=λH Q w s P=>
 ha.run w s FB.tr P λa x H1 s1 w1 q1 r1 P1=>⟨rfl,P1 _ H1 (Xv.refl _) (by
  cases a with
  |none=>rw[show x= .non from r1];rfl
  |some a=>show V.bl _=V.bl _;rw[decide_eq_false r1.1];rfl)⟩
theorem NC {α:Type}[DecidableEq α]{r r':Enc α}{d:Nat}(E:EqOk r d)(h:∀{K:PySem.W.Frag}{H:Hp}{v:V}{a:α},r' K H v a->r K H v a)(m:MonoE r'):EqOk r' d where
 uniq:=λI h1 h2=>E.uniq I (h h1) (h h2)
 eq:=λI rx ry h1 h2 hu=>E.eq I rx ry (h h1) (h h2) hu
 rc:=λI rx ry h1 h2 hu=>E.rc I rx ry (h h1) (h h2) hu
 ne:=λI rx ry h1 h2 hu=>E.ne I rx ry (h h1) (h h2) hu
 keep:=λs q=>m.mono s q
theorem LF {α:Type}[DecidableEq α]{r:Enc α}{d:Nat}[m:MonoE r](E:EqOk r d):EqOk (rV r) (d+1):=NC (Hi E) (λr9=>by obtain⟨a,xs,e,q,p⟩:=r9;exact⟨a,xs,e,SqL.of q,p⟩) inferInstance
end
section
variable {K:PySem.W.Frag}{Er:Exc->Hp->Prop}{S:SC}{OO OO' OO1 OO2:List (List Xq)}{σ:St}{α β γ ρ ι δ ε:Type}
variable {Fd:Ends->β->Hp->Prop}[fd:FdOk Fd]{u:TS}
theorem Db {ta tb:TE}{o:OE α}{q:OE β}[z:MonoO o][y:MonoO q]{ma:Rs α}{mb:Rs β}(ha:Ev K Er S OO OO1 σ ta o ma)(hb:∀C,Ev K Er S (C::OO1) (C::OO2) σ tb q mb):Ev K Er S OO OO2 σ (NR (Xo ta (Xo tb YN))) (oT2 o q) (ma.bind λa=>mb.bind λb=>.ok (a,b)):=λH Q w s P=>by
 refine ha H _ w s ?_
 cases em:ma with
 |bad=>rw[em] at P;exact P
 |err x=>rw[em] at P;exact P
 |ok a=>
  rw[em] at P
  intro v C H1 s1 w1 m1 ho
  refine hb C H1 _ w1 (S.mono _ _ m1 s) ?_
  have P1:PZ Er (FO K OO OO2 (oT2 o q) Q) H (mb.bind λb=>.ok (a,b)):=P
  cases en:mb with
  |bad=>rw[en] at P1;exact P1
  |err x=>rw[en] at P1;exact λH2 s2=>P1 H2 (s1.trans s2)
  |ok b=>
   rw[en] at P1
   have P1:FO K OO OO2 (oT2 o q) Q (a,b) H:=P1
   intro v2 C2 H2 s2 w2 m2 ho2
   refine⟨by show 2<=sizeLine;decide,λp hp=>?_⟩
   have pe:((C++C2)::OO2).flatten.Perm (C2::C::OO2).flatten:=by
    simp only[List.flatten_cons]
    rw[←List.append_assoc]
    exact List.perm_append_comm.append_right _
   have s3:Xv H2 (upd H2 p (.tup [v,v2])):=XE hp _
   have w3:=(w2.keep s3).of pe
   have m3:Xv (hid H2 (C2::C::OO2)) (hid (upd H2 p (.tup [v,v2])) ((C++C2)::OO2)):=by rw[XW pe];exact Xi s3
   refine P1 (.ref p) (C++C2) _ (s1.trans (s2.trans s3)) w3 (m1.trans (m2.trans m3)) ⟨p,v,v2,C,C2,rfl,?_,z.mono (m2.trans m3) ho,y.mono m3 ho2,rfl⟩
   rw[XW pe]
   exact QU w2 hp
theorem Of {c:TT}{t1:TS}{mc:Rs Bool}{m2:Rs β}(hc:EvT Er S OO σ c mc)(h2:Sv Er S OO σ u Fd m2):Sv Er S OO σ (ZK (MS c t1 Gn) u) Fd (mc.bind λb=>if b=true then .bad else m2):=λH D w s P=>
 hc.st w s P λb H' w' s' P'=>by
  cases b with
  |true=>rw[if_pos rfl] at P';exact P'.elim
  |false=>exact h2 H' D w' s' P'
theorem Go:∀{l:List Xq}{a b:Xq},(l.map (·.1)).Nodup->a∈l->b∈l->a.1=b.1->a=b
 | [],_,_,_,h,_,_=>by cases h
 |c::l,a,b,n,ha,hb,e=>by
  rw[List.map_cons,List.nodup_cons] at n
  cases ha with
  |head=>cases hb with
   |head=>rfl
   |tail _ hb=>exact absurd (List.mem_map.mpr ⟨b,hb,e.symm⟩) n.1
  |tail _ ha=>cases hb with
   |head=>exact absurd (List.mem_map.mpr ⟨a,ha,e⟩) n.1
   |tail _ hb=>exact Go n.2 ha hb e
theorem Km {Cs:List (List Xq)}{k:Nat}{C:List Xq}(h:Cs[k]?=some C):∀c∈C,c∈Cs.flatten:=λc hc=>List.mem_flatten.mpr ⟨C,List.mem_of_getElem? h,hc⟩
theorem Lm {as:List α}{i:Int}{a:α}(h:atR as i= .ok a):∃k,ixN as.length i=some k/\as[k]?=some a:=by
 have:=F0 h
 unfold atI at this
 cases e:ixN as.length i with
 |none=>rw[e] at this;cases this
 |some k=>rw[e] at this;exact⟨k,rfl,this⟩
theorem EG {r:Enc α}[z:MonoE r]{v:V}{as:List (List α)}{row row':List α}{H:Hp}{p q:Addr}{xs ys ys':List V}{Cs:List (List Xq)}{k kk:Nat}(w:W OO H)(hk:OO[k]?=some ((p, .lst xs)::Cs.flatten))(hP:P3 (oL (oF r) K (hid H OO)) xs as Cs)(hrow:as[kk]?=some row)
  (hx:xs[kk]?=some (.ref q))(hq:H q=some (.lst ys))(hcs:Cs[kk]?=some [(q, .lst ys)])(pr:Paired (r K (hid H OO)) ys' row'):
  ∃C',W (OO.set k C') (upd H q (.lst ys'))/\Xv (hid H OO) (hid (upd H q (.lst ys')) (OO.set k C'))/\oL (oL (oF r)) K (hid (upd H q (.lst ys')) (OO.set k C')) (.ref p) (as.set kk row') C':=by
 have hkl:kk<Cs.length:=by
  rcases Nat.lt_or_ge kk Cs.length with h |h
  ·exact h
  ·rw[List.getElem?_eq_none h] at hcs;cases hcs
 have hin:∀c∈(p,HO.lst xs)::Cs.flatten,c∈OO.flatten:=λc hc=>List.mem_flatten.mpr ⟨_,List.mem_of_getElem? hk,hc⟩
 have w0:W ([]::OO) H:=w.nil
 have cn0:=QA w0 hk
 rw[List.append_nil] at cn0
 have e0:Cs[kk]=[(q, .lst ys)]:=by
  rw[List.getElem?_eq_getElem hkl] at hcs;exact Option.some.inj hcs
 have hp:=F2 (Cs:=Cs) (j:=kk) (D:=[(q,HO.lst ys')]) hkl
 rw[e0] at hp
 have hpm:((Cs.set kk [(q,HO.lst ys')]).flatten.map (·.1)).Perm (Cs.flatten.map (·.1)):=by
  have:=hp.map (·.1)
  simp only[List.map_append,List.map_cons,List.map_nil] at this
  exact(List.perm_append_right_iff _).mp this
 have hpne:p∉Cs.flatten.map (·.1):=by
  have h1:=XT hk
  have:=(w.of (OO':=((p,HO.lst xs)::Cs.flatten)::OO.set k []) h1).nd
  rw[XX,List.map_cons,List.cons_append,List.nodup_cons] at this
  exact λz=>this.1 (List.mem_append_left _ z)
 have hqC:q∈Cs.flatten.map (·.1):=List.mem_map.mpr ⟨(q, .lst ys),Km hcs _ (by simp),rfl⟩
 have hpq:p≠q:=λe=>hpne (e▸hqC)
 have hcells:∀c∈(p,HO.lst xs)::(Cs.set kk [(q,HO.lst ys')]).flatten,upd H q (.lst ys') c.1=some c.2/\NV c.2=true:=λc hc=>by
  rcases List.mem_cons.mp hc with rfl |hc
  ·rw[XL hpq];exact⟨w.tr _ (hin _ List.mem_cons_self),rfl⟩
  ·obtain⟨D,hD,hcD⟩:=List.mem_flatten.mp hc
   rcases List.mem_or_eq_of_mem_set hD with hD |hD
   ·by_cases hcq:c.1=q
    ·-- a cell at q in another place:then it is this one
     have hc2:c∈(Cs.set kk [(q,HO.lst ys')]).flatten:=hc
     have n1:((Cs.set kk [(q,HO.lst ys')]).flatten.map (·.1)).Nodup:=hpm.nodup_iff.mpr cn0
     have hm:(q,HO.lst ys')∈(Cs.set kk [(q,HO.lst ys')]).flatten:=List.mem_flatten.mpr ⟨[(q, .lst ys')],List.mem_set (by simpa using hkl) _,by simp⟩
     have e1:c=(q,HO.lst ys'):=by
      have:=Go n1 hc2 hm hcq
      exact this
     rw[e1];exact⟨Yd,rfl⟩
    ·rw[XL hcq]
     have:c∈OO.flatten:=hin c (List.mem_cons_of_mem _ (List.mem_flatten.mpr ⟨D,hD,hcD⟩))
     exact⟨w.tr c this,w.mu c this⟩
   ·rw[hD] at hcD
    have e1:c=(q,HO.lst ys'):=by simpa using hcD
    rw[e1];exact⟨Yd,rfl⟩
 have hq':q∈(Cs.set kk [(q,HO.lst ys')]).flatten.map (·.1):=hpm.mem_iff.mpr hqC
 obtain⟨w2,m2⟩:=IA (C':=(p, .lst xs)::(Cs.set kk [(q,HO.lst ys')]).flatten) (p:=q) (o:=.lst ys') w0 hk (List.mem_cons_of_mem _ hqC) (List.mem_cons_of_mem _ hq') (by
   rw[List.map_cons,List.nodup_cons]
   exact⟨λz=>hpne (hpm.mem_iff.mp z),hpm.nodup_iff.mpr cn0⟩) (λb hb=>by
   rw[List.append_nil]
   rcases List.mem_cons.mp hb with rfl |hb
   ·exact List.mem_cons_self
   ·exact List.mem_cons_of_mem _ (hpm.mem_iff.mp hb)) (λc hc=>(hcells c hc).1) λc hc=>(hcells c hc).2
 rw[Y7] at m2
 have e3:xs.set kk (.ref q)=xs:=by
  apply List.ext_getElem?
  intro n
  by_cases hn:n=kk
  ·subst hn
   rw[hx,List.getElem?_set_self (by
    rcases Nat.lt_or_ge n xs.length with h |h
    ·exact h
    ·rw[List.getElem?_eq_none h] at hx;cases hx)]
  ·rw[List.getElem?_set_ne (λe=>hn e.symm)]
 refine⟨_,w2,m2,⟨p,xs,Cs.set kk [(q,HO.lst ys')],rfl,?_,rfl⟩⟩
 have:=P3.set (F:=oL (oF r) K (hid (upd H q (.lst ys')) (OO.set k ((p, .lst xs)::(Cs.set kk [(q,HO.lst ys')]).flatten)))) (a:=V.ref q) (b:=row') (c:=[(q,HO.lst ys')])
  ⟨q,ys',List.replicate row'.length [],rfl,(P3.of (Paired.imp2 (λ_ _ h=>z.mono m2 h) pr)).imp λ_ _ _ h=>h,by rw[Yf]⟩ kk (P3.imp (λ_ _ _ h=>MonoO.mono m2 h) hP)
 rw[e3] at this
 exact this
theorem Ew {r:Enc α}{h:Hp}{as:List (List α)}{xs:List V}{Cs:List (List Xq)}{kk:Nat}{row:List α}(q:P3 (oL (oF r) K h) xs as Cs)(hrow:as[kk]?=some row):∃q0 ys,xs[kk]?=some (.ref q0)/\Cs[kk]?=some [(q0, .lst ys)]/\Paired (r K h) ys row:=by
 obtain⟨x,c,h1,h2,p,ys,Ds,e,h3,h4⟩:=q.get hrow
 obtain⟨h5,h6⟩:=P3.flat h3
 rw[h6] at h4
 exact⟨p,ys,by rw[h1,e],by rw[h2,h4],h5⟩
theorem Ui {F:V->α->Prop}{y:V}{a:α}(r:F y a):∀{l:List V}{m:List α} (i:Nat),Paired F l m->Paired F (l.set i y) (m.set i a)
 |_,_,_, .nil=>.nil
 |_,_,0, .cons _ t=>.cons r t
 |_,_,i+1, .cons q t=>.cons q (Ui r i t)
theorem ER {ta ti tj:TE}{r:Enc α}[z:MonoE r]{m:Rs α}{mi mj:Rs Int}{f:List (List α)->Rs β}{v:V}{as:List (List α)}{C:List Xq}(i k:Nat)(hσ:σ[i]?=some (some v))(hk:OO[k]?=some C)(h:∀x,S.p x->oL (oL (oF r)) K x v as C)(he:EvS K Er S OO σ ta r m)
  (hi:EvB K Er S OO σ ti Xc mi)(hj:EvB K Er S OO σ tj Xc mj)
  (hr:∀bs C',Sv Er (S.addO K (oL (oL (oF r))) v bs C') (OO.set k C') σ u Fd (f bs)):
  Sv Er S OO σ (ZK (DT ta (Pi (tOp (HB K) (Jz i) ti) tj IP)) u) Fd (m.bind λa=>mi.bind λx=>(atR as x).bind λrow=>mj.bind λy=>(Ua row y a).bind λrow'=>(Ua as x row').bind f):=λH D w s P=>
 he.st w s P λa va H1 s1 w1 q1 r1 P1=>⟨v,hσ,hi.st w1 q1 P1 λx vx H2 s2 w2 q2 r2 P2=>by
  cases ea:atR as x with
  |bad=>rw[ea] at P2;exact P2.elim
  |err ex=>exact absurd ea KI
  |ok row=>
   rw[ea] at P2
   obtain⟨kk,hkk,hrow⟩:=Lm ea
   obtain⟨p,xs,Cs,e,q,c⟩:=h _ q2
   subst c e
   obtain⟨q0,ys,g1,g2,g3⟩:=Ew q hrow
   have hin:∀c∈(p,HO.lst xs)::Cs.flatten,c∈OO.flatten:=λc hc=>List.mem_flatten.mpr ⟨_,List.mem_of_getElem? hk,hc⟩
   have hH:H2 p=some (.lst xs):=w2.tr (p, .lst xs) (hin _ List.mem_cons_self)
   have hq0:H2 q0=some (.lst ys):=w2.tr (q0, .lst ys) (hin _ (List.mem_cons_of_mem _ (Km g2 _ (by simp))))
   refine⟨p,xs,x, .ref q0,rfl,r2,SqL.of hH,by unfold atI;rw[q.len.1,hkk];exact g1,hj.st w2 q2 (f:=λy=>(Ua row y a).bind λrow'=>(Ua as x row').bind f) P2 λy vy H3 s3 w3 q3 r3 P3'=>?_⟩
   cases eb:Ua row y a with
   |bad=>rw[eb] at P3';exact P3'.elim
   |err ex=>exact absurd eb Bg
   |ok row'=>
    rw[eb] at P3'
    obtain⟨jj,hjj,rfl⟩:=Bk eb
    have P4:PZ Er (Fd D) (hid H3 OO) (f (as.set kk (row.set jj a))):=by
     have e5:Ua as x (row.set jj a)= .ok (as.set kk (row.set jj a)):=by unfold Ua;rw[hkk]
     have:PZ Er (Fd D) (hid H3 OO) ((Ua as x (row.set jj a)).bind f):=P3'
     rw[e5] at this
     exact this
    have m3:=Xi (OO:=OO) s3
    obtain⟨C',w4,m4,o4⟩:=EG (ys':=ys.set jj va) (row':=row.set jj a) (v:=.ref p) w3 hk (P3.imp (λ_ _ _ h=>MonoO.mono m3 h) q) hrow g1 (s3 _ _ hq0) g2 (Ui (z.mono ((Xi s2).trans m3) r1) jj (Paired.imp2 (λ_ _ h=>z.mono m3 h) g3))
    exact⟨q0,ys,y,jj,rfl,r3,s3 _ _ hq0,by rw[Paired.len g3];exact hjj,hr _ C' _ D w4 ⟨S.mono _ _ m4 q3,o4⟩ (PZ.tr (fd.tr D) m4 P4)⟩⟩
theorem HQ {ta ti:TE}{r:Enc α}[z:MonoE r]{m:Rs α}{mi:Rs Int}{f:List (List α)->Rs β}{v:V}{as:List (List α)}{C:List Xq}(i k:Nat)(hσ:σ[i]?=some (some v))(hk:OO[k]?=some C)(h:∀x,S.p x->oL (oL (oF r)) K x v as C)(he:EvS K Er S OO σ ta r m)
  (hi:EvB K Er S OO σ ti Xc mi)
  (hr:∀bs C',Sv Er (S.addO K (oL (oL (oF r))) v bs C') (OO.set k C') σ u Fd (f bs)):
  Sv Er S OO σ (ZK (Gd (tBM K "list" VP (tOp (HB K) (Jz i) ti) (Xo ta YN))) u) Fd (mi.bind λx=>(atR as x).bind λrow=>m.bind λa=>chk (row.length<sizeLine) ((Ua as x (row++[a])).bind f)):=λH D w s P=>
 ⟨v,hσ,hi.st w s P λx vx H2 s2 w2 q2 r2 P2=>by
  cases ea:atR as x with
  |bad=>rw[ea] at P2;exact P2.elim
  |err ex=>exact absurd ea KI
  |ok row=>
   rw[ea] at P2
   obtain⟨kk,hkk,hrow⟩:=Lm ea
   obtain⟨p,xs,Cs,e,q,c⟩:=h _ q2
   subst c e
   obtain⟨q0,ys,g1,g2,g3⟩:=Ew q hrow
   have hin:∀c∈(p,HO.lst xs)::Cs.flatten,c∈OO.flatten:=λc hc=>List.mem_flatten.mpr ⟨_,List.mem_of_getElem? hk,hc⟩
   have hH:H2 p=some (.lst xs):=w2.tr (p, .lst xs) (hin _ List.mem_cons_self)
   have hq0:H2 q0=some (.lst ys):=w2.tr (q0, .lst ys) (hin _ (List.mem_cons_of_mem _ (Km g2 _ (by simp))))
   refine⟨p,xs,x, .ref q0,rfl,r2,SqL.of hH,by unfold atI;rw[q.len.1,hkk];exact g1, .inl ⟨rfl,_,SqL.of hq0⟩,he.st w2 q2 (f:=λa=>chk (row.length<sizeLine) ((Ua as x (row++[a])).bind f)) P2 λa va H3 s3 w3 q3 r3 P3'=>?_⟩
   obtain⟨hsz,P3'⟩:=PZ.chk P3'
   have P4:PZ Er (Fd D) (hid H3 OO) (f (as.set kk (row++[a]))):=by
    have e5:Ua as x (row++[a])= .ok (as.set kk (row++[a])):=by unfold Ua;rw[hkk]
    rw[e5] at P3'
    exact P3'
   have m3:=Xi (OO:=OO) s3
   obtain⟨C',w4,m4,o4⟩:=EG (ys':=ys++[va]) (row':=row++[a]) (v:=.ref p) w3 hk (P3.imp (λ_ _ _ h=>MonoO.mono m3 h) q) hrow g1 (s3 _ _ hq0) g2 (Paired.app (Paired.imp2 (λ_ _ h=>z.mono m3 h) g3) (.cons r3 .nil))
   exact⟨q0,ys,va,rfl,rfl,s3 _ _ hq0,by rw[Paired.len g3];exact hsz,hr _ C' _ D w4 ⟨S.mono _ _ m4 q3,o4⟩ (PZ.tr (fd.tr D) m4 P4)⟩⟩
theorem PU {H H':Hp}{C D:List Xq}{k:Nat}(w:W OO H)(hk:OO[k]?=some C)(s:Xv H H')(w':W (D::OO.set k []) H')(m:Xv (hid H (OO.set k [])) (hid H' (D::OO.set k []))):
  W (D::OO) H'/\Xv (hid H OO) (hid H' (D::OO))/\CH (hid H' (D::OO.set k [])) (hid H' (D::OO)):=by
 have hp:=XT hk
 have wk:W (C::OO.set k []) H:=w.of hp
 have hC:∀c∈C,hid H (OO.set k []) c.1=some c.2:=λc hc=>Zg (wk.cell c hc) (by
  have:=wk.nd
  rw[XX] at this
  exact λhb=>(List.nodup_append.mp this).2.2 c.1 (List.mem_map.mpr ⟨c,hc,rfl⟩) c.1 hb rfl)
 have hC':∀c∈C,H' c.1=some c.2/\c.1∉fl (D::OO.set k []):=λc hc=>X1 (m _ _ (hC c hc))
 have w2:W (C::D::OO.set k []) H':=by
  refine⟨λc hc=>?_,?_,λc hc=>?_⟩
  ·rw[List.flatten_cons,List.mem_append] at hc
   exact hc.elim (λhc=>(hC' c hc).1) λhc=>w'.tr c hc
  ·rw[XX]
   refine List.nodup_append.mpr ⟨?_,w'.nd,λa ha b hb e=>?_⟩
   ·have:=wk.nd
    rw[XX] at this
    exact(List.nodup_append.mp this).1
   ·obtain⟨c,hc,rfl⟩:=List.mem_map.mp ha
    subst e
    exact(hC' c hc).2 hb
  ·rw[List.flatten_cons,List.mem_append] at hc
   exact hc.elim (λhc=>wk.mu c (by simp[hc])) λhc=>w'.mu c hc
 have pe:(D::OO).flatten.Perm (C::D::OO.set k []).flatten:=by
  simp only[List.flatten_cons]
  refine List.Perm.trans (List.Perm.append_left D (by simpa using hp.symm:OO.flatten.Perm (C++(OO.set k []).flatten))) ?_
  rw[←List.append_assoc, ←List.append_assoc]
  exact List.perm_append_comm.append_right _
 have w3:=w2.of pe
 refine⟨w3,λb u q=>?_,λb u q i=>w3.i b u (X1 q).1 i⟩
 obtain⟨q1,q2⟩:=X1 q
 have q3:hid H (OO.set k []) b=some u:=Zg q1 λz=>q2 ((Vq hp b).mp (by rw[XX];simp[z]))
 obtain⟨q4,q5⟩:=X1 (m _ _ q3)
 refine Zg q4 λz=>?_
 have z2:=(Vq pe b).mp z
 rw[XX,List.mem_append] at z2
 rcases z2 with z2 |z2
 ·exact q2 ((Vq hp b).mp (by rw[XX];exact List.mem_append_left _ z2))
 ·exact q5 z2
theorem Rg {r1:Enc γ}{o1:OE γ}[z:FrzC o1 r1][MonoE r1]{H:Hp}{v:V}{a:γ}{C:List Xq}{k:Nat}(w:W OO H)(hk:OO[k]?=some C)(s:S.p (hid H OO))(h:∀x,S.p x->o1 K x v a C):
  W (OO.set k []) H/\(S.add K r1 v a).p (hid H (OO.set k [])):=by
 have hp:=XT hk
 have wk:W (C::OO.set k []) H:=w.of hp
 have hs:Xv (hid H OO) (hid H (OO.set k [])):=by
  rw[←XW hp]
  exact Qh (Xv.refl _) λb hb=>by rw[XX];simp[hb]
 refine⟨wk.tail,S.mono _ _ hs s,z.frz (h _ s) hs λc hc=>Zg (wk.cell c hc) ?_⟩
 have:=wk.nd
 rw[XX] at this
 exact λhb=>(List.nodup_append.mp this).2.2 c.1 (List.mem_map.mpr ⟨c,hc,rfl⟩) c.1 hb rfl
theorem ND {te:TE}{o:OE α}[y:FlatO o]{r1:Enc γ}{o1:OE γ}[FrzC o1 r1][MonoE r1]{m:Rs α}{v:V}{a:γ}{C:List Xq}(k:Nat)(hk:OO[k]?=some C)(h:∀x,S.p x->o1 K x v a C)(he:Ev K Er (S.add K r1 v a) (OO.set k []) (OO.set k []) σ te o m):Ev K Er S OO OO σ te o m:=λH Q w s P=>by
 obtain⟨w1,s1⟩:=Rg (r1:=r1) w hk s h
 refine he H Q w1 s1 (P.imp λb _ hb v' D H' s' w' m' ho=>?_)
 obtain⟨w3,m3,i3⟩:=PU w hk s' w' m'
 exact hb v' D H' s' w3 m3 (y.flat i3 ho)
theorem U9 (K:PySem.W.Frag)(T:String):PySem.W.kitOne K (.type T) (.type T)=some true:=by
 unfold PySem.W.kitOne
 rw[if_pos (beq_self_eq_true _)]
theorem Gv (K:PySem.W.Frag):PySem.W.kitOne K (.type "int") (.type "bool")=some false:=by
 first
  |rfl
  |decide+kernel
  | (unfold PySem.W.kitOne PySem.W.kitCls;rfl)
end
section
variable {K:PySem.W.Frag}{Er:Exc->Hp->Prop}{S:SC}{OO OO' OO1 OO2:List (List Xq)}{σ:St}{α β γ ρ ι δ ε:Type}
variable {Fd:Ends->β->Hp->Prop}[fd:FdOk Fd]{u:TS}
noncomputable def HA:Option α->Rs α
 |some a=>.ok a
 |none=>.bad
theorem B7 {te:TE}{r:Enc α}{m:Rs (Option α)}(he:EvB K Er S OO σ te (JQ r) m):EvB K Er S OO σ te r (m.bind HA):=λH Q w s P=>by
 refine he H Q w s ?_
 cases m with
 |bad=>exact P
 |err x=>exact P
 |ok a=>
  cases a with
  |none=>exact P.elim
  |some a=>exact λv H' s' hr=>P v H' s' hr.2
theorem NW {te:TE}{r:Enc α}{m:Rs (Option α)}(he:EvS K Er S OO σ te (JQ r) m):EvS K Er S OO σ te r (m.bind HA):=λH Q w s P=>by
 refine he H Q w s ?_
 cases m with
 |bad=>exact P
 |err x=>exact P
 |ok a=>
  cases a with
  |none=>exact P.elim
  |some a=>exact λv H' s' hr=>P v H' s' hr.2
end
section
variable {K:PySem.W.Frag}{Er:Exc->Hp->Prop}{S:SC}{OO OO' OO1 OO2:List (List Xq)}{σ:St}{α β γ ρ ι δ ε:Type}
variable {α1 α2 α3 α4 α5:Type}
noncomputable def rP4 (r1:Enc α1)(r2:Enc α2)(r3:Enc α3)(r4:Enc α4):Enc (α1×α2×α3×α4):=λK H v p=>∃ a x1 x2 x3 x4,v= .ref a/\H a=some (.tup [x1,x2,x3,x4])/\r1 K H x1 p.1/\r2 K H x2 p.2.1/\r3 K H x3 p.2.2.1/\r4 K H x4 p.2.2.2
instance {r1:Enc α1}{r2:Enc α2}{r3:Enc α3}{r4:Enc α4}[m1:MonoE r1][m2:MonoE r2][m3:MonoE r3][m4:MonoE r4]:MonoE (rP4 r1 r2 r3 r4):=⟨λs r9=>by obtain⟨a,x1,x2,x3,x4,e,h,p1,p2,p3,p4⟩:=r9;exact⟨a,x1,x2,x3,x4,e,s _ _ h,m1.mono s p1,m2.mono s p2,m3.mono s p3,m4.mono s p4⟩⟩
instance {r1:Enc α1}{r2:Enc α2}{r3:Enc α3}{r4:Enc α4}[m1:FlatE r1][m2:FlatE r2][m3:FlatE r3][m4:FlatE r4]:FlatE (rP4 r1 r2 r3 r4):=⟨λs r9=>by obtain⟨a,x1,x2,x3,x4,e,h,p1,p2,p3,p4⟩:=r9;exact⟨a,x1,x2,x3,x4,e,s _ _ h rfl,m1.flat s p1,m2.flat s p2,m3.flat s p3,m4.flat s p4⟩⟩
instance {r1:Enc α1}{r2:Enc α2}{r3:Enc α3}{r4:Enc α4}:TyE (rP4 r1 r2 r3 r4) "tuple":=⟨λr9=>by obtain⟨p,x1,x2,x3,x4,e,q,_⟩:=r9;exact by subst e;exact .tup q⟩
@[reducible] noncomputable def tg4 {r1:Enc α1}{r2:Enc α2}{r3:Enc α3}{r4:Enc α4}[MonoE r1][MonoE r2][MonoE r3][MonoE r4](i1 i2 i3 i4:Nat):Tgt K OO (Lj K 4 (ZD (YC i1) (ZD (YC i2) (ZD (YC i3) (ZD (YC i4) Nf))))) (rP4 r1 r2 r3 r4) (V×V×V×V) where
 set:=λv σ=>((((σ.set i1 (some v.1)).set i2 (some v.2.1)).set i3 (some v.2.2.1)).set i4 (some v.2.2.2))
 sc:=λa v S=>((((S.add K r1 v.1 a.1).add K r2 v.2.1 a.2.1).add K r3 v.2.2.1 a.2.2.1).add K r4 v.2.2.2 a.2.2.2)
 ok:=fun {H v a σ S Q} r9 hs hq=>by obtain⟨p,x1,x2,x3,x4,e,h,h1,h2,h3,h4⟩:=r9;exact⟨p,_,e,SqT.of (Xz _ _ h),rfl,x1,[x2,x3,x4],rfl,x2,[x3,x4],rfl,x3,[x4],rfl,x4,[],rfl,rfl,hq (x1,x2,x3,x4) ⟨⟨⟨⟨hs,h1⟩,h2⟩,h3⟩,h4⟩⟩
noncomputable def rP5 (r1:Enc α1)(r2:Enc α2)(r3:Enc α3)(r4:Enc α4)(r5:Enc α5):Enc (α1×α2×α3×α4×α5):=λK H v p=>∃ a x1 x2 x3 x4 x5,v= .ref a/\H a=some (.tup [x1,x2,x3,x4,x5])/\r1 K H x1 p.1/\r2 K H x2 p.2.1/\r3 K H x3 p.2.2.1/\r4 K H x4 p.2.2.2.1/\r5 K H x5 p.2.2.2.2
instance {r1:Enc α1}{r2:Enc α2}{r3:Enc α3}{r4:Enc α4}{r5:Enc α5}[m1:MonoE r1][m2:MonoE r2][m3:MonoE r3][m4:MonoE r4][m5:MonoE r5]:MonoE (rP5 r1 r2 r3 r4 r5):=⟨λs r9=>by obtain⟨a,x1,x2,x3,x4,x5,e,h,p1,p2,p3,p4,p5⟩:=r9;exact⟨a,x1,x2,x3,x4,x5,e,s _ _ h,m1.mono s p1,m2.mono s p2,m3.mono s p3,m4.mono s p4,m5.mono s p5⟩⟩
instance {r1:Enc α1}{r2:Enc α2}{r3:Enc α3}{r4:Enc α4}{r5:Enc α5}[m1:FlatE r1][m2:FlatE r2][m3:FlatE r3][m4:FlatE r4][m5:FlatE r5]:FlatE (rP5 r1 r2 r3 r4 r5):=⟨λs r9=>by obtain⟨a,x1,x2,x3,x4,x5,e,h,p1,p2,p3,p4,p5⟩:=r9;exact⟨a,x1,x2,x3,x4,x5,e,s _ _ h rfl,m1.flat s p1,m2.flat s p2,m3.flat s p3,m4.flat s p4,m5.flat s p5⟩⟩
instance {r1:Enc α1}{r2:Enc α2}{r3:Enc α3}{r4:Enc α4}{r5:Enc α5}:TyE (rP5 r1 r2 r3 r4 r5) "tuple":=⟨λr9=>by obtain⟨p,x1,x2,x3,x4,x5,e,q,_⟩:=r9;exact by subst e;exact .tup q⟩
theorem Dx {t1:TE}{t2:TE}{t3:TE}{t4:TE}{t5:TE}{r1:Enc α1}{r2:Enc α2}{r3:Enc α3}{r4:Enc α4}{r5:Enc α5}[z1:MonoE r1][z2:MonoE r2][z3:MonoE r3][z4:MonoE r4][z5:MonoE r5]{m1:Rs α1}{m2:Rs α2}{m3:Rs α3}{m4:Rs α4}{m5:Rs α5}(h1:EvS K Er S OO σ t1 r1 m1)(h2:EvS K Er S OO σ t2 r2 m2)(h3:EvS K Er S OO σ t3 r3 m3)(h4:EvS K Er S OO σ t4 r4 m4)(h5:EvS K Er S OO σ t5 r5 m5):EvS K Er S OO σ (NR (Xo t1 (Xo t2 (Xo t3 (Xo t4 (Xo t5 YN)))))) (rP5 r1 r2 r3 r4 r5) (m1.bind λa1=>m2.bind λa2=>m3.bind λa3=>m4.bind λa4=>m5.bind λa5=>.ok (a1,a2,a3,a4,a5)):=λH Q w s P=>
 h1.run w s FS.tr P λa1 y1 H1 s1 w1 u1 q1 P1=>h2.run w1 u1 FS.tr P1 λa2 y2 H2 s2 w2 u2 q2 P2=>h3.run w2 u2 FS.tr P2 λa3 y3 H3 s3 w3 u3 q3 P3=>h4.run w3 u3 FS.tr P3 λa4 y4 H4 s4 w4 u4 q4 P4=>h5.run w4 u4 FS.tr P4 λa5 y5 H5 s5 w5 u5 q5 P5=>⟨by show 5<=sizeLine;decide,λp hp=>P5 _ _ (XE hp _) ⟨p,y1,y2,y3,y4,y5,rfl,QU w5 hp,z1.mono ((Xi s2).trans ((Xi s3).trans ((Xi s4).trans ((Xi s5).trans (Xi (XE hp _)))))) q1,z2.mono ((Xi s3).trans ((Xi s4).trans ((Xi s5).trans (Xi (XE hp _))))) q2,z3.mono ((Xi s4).trans ((Xi s5).trans (Xi (XE hp _)))) q3,z4.mono ((Xi s5).trans (Xi (XE hp _))) q4,z5.mono (Xi (XE hp _)) q5⟩⟩
@[reducible] noncomputable def tg5 {r1:Enc α1}{r2:Enc α2}{r3:Enc α3}{r4:Enc α4}{r5:Enc α5}[MonoE r1][MonoE r2][MonoE r3][MonoE r4][MonoE r5](i1 i2 i3 i4 i5:Nat):Tgt K OO (Lj K 5 (ZD (YC i1) (ZD (YC i2) (ZD (YC i3) (ZD (YC i4) (ZD (YC i5) Nf)))))) (rP5 r1 r2 r3 r4 r5) (V×V×V×V×V) where
 set:=λv σ=>(((((σ.set i1 (some v.1)).set i2 (some v.2.1)).set i3 (some v.2.2.1)).set i4 (some v.2.2.2.1)).set i5 (some v.2.2.2.2))
 sc:=λa v S=>(((((S.add K r1 v.1 a.1).add K r2 v.2.1 a.2.1).add K r3 v.2.2.1 a.2.2.1).add K r4 v.2.2.2.1 a.2.2.2.1).add K r5 v.2.2.2.2 a.2.2.2.2)
 ok:=fun {H v a σ S Q} r9 hs hq=>by obtain⟨p,x1,x2,x3,x4,x5,e,h,h1,h2,h3,h4,h5⟩:=r9;exact⟨p,_,e,SqT.of (Xz _ _ h),rfl,x1,[x2,x3,x4,x5],rfl,x2,[x3,x4,x5],rfl,x3,[x4,x5],rfl,x4,[x5],rfl,x5,[],rfl,rfl,hq (x1,x2,x3,x4,x5) ⟨⟨⟨⟨⟨hs,h1⟩,h2⟩,h3⟩,h4⟩,h5⟩⟩
theorem LU {K:PySem.W.Frag}{n i1 i2 i3:Nat}(h1:i1<n)(h2:i2<n)(h3:i3<n):Kz n (Lj K 3 (ZD (YC i1) (ZD (YC i2) (ZD (YC i3) Nf)))):=λx σ H Q q=>by
 obtain⟨a,xs,e1,hq,hl,v1,r1,f1,v2,r2,f2,v3,r3,f3,e9,q⟩:=q
 exact⟨a,xs,e1,hq,hl,v1,r1,f1,v2,r2,f2,v3,r3,f3,e9,q,by simp,λk hk=>by rw[List.getElem?_set_ne (by omega),List.getElem?_set_ne (by omega),List.getElem?_set_ne (by omega)]⟩
noncomputable def Rq (as:List Int):Rs Int:=chk (0<as.length) (.ok (K0 as))
theorem DN {ta:TE}{ma:Rs (List Int)}(ha:EvB K Er S OO σ ta (rPL Xc) ma):EvB K Er S OO σ (tCB (Oq K K0) (Xo ta YN)) Xc (ma.bind Rq):=λH Q w s P=>
 ha.run w s FB.tr P λa x H1 s1 w1 q1 ⟨p,xs,e,q,pr⟩ P1=>by
  obtain⟨h1,P1⟩:=PZ.chk P1
  exact⟨p,a,by rw[e],by rw[←QE pr];exact SqT.of q,h1,P1 _ H1 (Xv.refl _) rfl⟩
theorem MO {ta:TE}{m:Rs (Int×Int×Int)}(ha:EvB K Er S OO σ ta (rP3 Xc Xc Xc) m):EvB K Er S OO σ ta (rPL Xc) (m.bind λp=>.ok [p.1,p.2.1,p.2.2]):=λH Q w s P=>
 ha.run w s FB.tr P λa x H1 s1 w1 q1 r9 P1=>by obtain⟨p,x1,x2,x3,e,q,h1,h2,h3⟩:=r9;exact P1 _ H1 (Xv.refl _) ⟨p,_,e,q, .cons h1 (.cons h2 (.cons h3 .nil))⟩
theorem MY {ta:TE}{m:Rs (Int×Int×Int×Int×Int)}(ha:EvB K Er S OO σ ta (rP5 Xc Xc Xc Xc Xc) m):EvB K Er S OO σ ta (rPL Xc) (m.bind λp=>.ok [p.1,p.2.1,p.2.2.1,p.2.2.2.1,p.2.2.2.2]):=λH Q w s P=>
 ha.run w s FB.tr P λa x H1 s1 w1 q1 r9 P1=>by obtain⟨p,x1,x2,x3,x4,x5,e,q,h1,h2,h3,h4,h5⟩:=r9;exact P1 _ H1 (Xv.refl _) ⟨p,_,e,q, .cons h1 (.cons h2 (.cons h3 (.cons h4 (.cons h5 .nil))))⟩
theorem Uv {te:TE}{tl th:TO}{r:Enc α}[z:MonoE r]{m:Rs (List α)}{ml mh:Rs (Option Int)}(he:EvB K Er S OO σ te (rPL r) m)(hl:EvP Er S OO σ tl ml)(hh:EvP Er S OO σ th mh):
  EvB K Er S OO σ (tSl (Pq K) te tl th) (rPL r) (m.bind λas=>ml.bind λlo=>mh.bind λhi=>chk (¬(HT.sIx as.length 0 lo=0/\HT.sIx as.length as.length hi=as.length)) (.ok (CY as lo hi))):=λH Q w s P=>
 he.run w s FB.tr P λas x H1 s1 w1 q1 ⟨p,xs,e,q,pr⟩ P1=>hl.run w1 q1 FB.tr P1 λlo H2 s2 w2 q2 P2=>hh.run w2 q2 FB.tr P2 λhi H3 s3 w3 q3 P3'=>by
  obtain⟨hn,P3'⟩:=PZ.chk P3'
  have pr2:=Ju (Paired.imp2 (G:=r K H3) (λ_ _ h=>z.mono (s2.trans s3) h) pr) lo hi
  exact⟨p,xs,e,SqT.of (s3 _ _ (s2 _ _ q)),by rw[Paired.len pr];exact hn,λa ha=>P3' _ _ (XE ha _) ⟨a,_,rfl,Yd,Paired.imp2 (λ_ _ h=>z.mono (XE ha _) h) pr2⟩⟩
noncomputable def rDP {α:Type}(r:Enc α)(K:PySem.W.Frag)(H:Hp)(kv:Key×V)(kx:Int×α):Prop:=kv.1= .inl kx.1/\r K H kv.2 kx.2
noncomputable def rD {α:Type}(r:Enc α):Enc (List (Int×α)):=λK H v d=>∃ p kvs,v= .ref p/\H p=some (.dK kvs)/\Paired (rDP r K H) kvs d
noncomputable def oD {α:Type}(r:Enc α):OE (List (Int×α)):=λK h v d C=>∃ p kvs,v= .ref p/\Paired (rDP r K h) kvs d/\C=[(p, .dK kvs)]
instance {r:Enc α}[m:MonoE r]:MonoE (rD r):=⟨λs r9=>by obtain⟨p,kvs,e,q,pr⟩:=r9;exact⟨p,kvs,e,s _ _ q,Paired.imp2 (λ_ _ z=>⟨z.1,m.mono s z.2⟩) pr⟩⟩
instance {r:Enc α}[m:MonoE r]:MonoO (oD r):=⟨λs r9=>by obtain⟨p,kvs,e,pr,c⟩:=r9;exact⟨p,kvs,e,Paired.imp2 (λ_ _ z=>⟨z.1,m.mono s z.2⟩) pr,c⟩⟩
instance {r:Enc α}[m:FlatE r]:FlatO (oD r):=⟨λs r9=>by obtain⟨p,kvs,e,pr,c⟩:=r9;exact⟨p,kvs,e,Paired.imp2 (λ_ _ z=>⟨z.1,m.flat s z.2⟩) pr,c⟩⟩
instance {r:Enc α}[m:MonoE r]:FrzC (oD r) (rD r):=⟨λr9 s hc=>by obtain⟨p,kvs,e,pr,c⟩:=r9;exact⟨p,kvs,e,hc (p, .dK kvs) (by rw[c];simp),Paired.imp2 (λ_ _ z=>⟨z.1,m.mono s z.2⟩) pr⟩⟩
noncomputable def Y9 (d:List (Int×α))(k:Int):Option α:=(d.find? λkv=>decide (kv.1=k)).map (·.2)
noncomputable def Cy (d:List (Int×α))(k:Int)(v:α):List (Int×α):=if(d.any λkv=>decide (kv.1=k))=true then d.map (λkv=>if kv.1=k then(kv.1,v) else kv) else d++[(k,v)]
noncomputable def GN (d:List (Int×α))(k:Int):Rs α:=HA (Y9 d k)
theorem VX {r:Enc α}{H:Hp}{k:Int}:∀{kvs:List (Key×V)}{d:List (Int×α)},Paired (rDP r K H) kvs d->(∀a,Y9 d k=some a->∃v,DA kvs (.inl k)=some v/\r K H v a)/\(DA kvs (.inl k)).isSome=(Y9 d k).isSome
 |_,_, .nil=>⟨λa h=>(by cases h),rfl⟩
 |kv::kvs,kx::d, .cons h t=>by
  obtain⟨h1,h2⟩:=VX (k:=k) t
  by_cases e:kx.1=k
  ·have e2:kv.1= .inl k:=by rw[h.1,e]
   rw[Q1 e2]
   have e3:Y9 (kx::d) k=some kx.2:=by simp[Y9,List.find?_cons,e]
   rw[e3]
   exact⟨λa ha=>by cases ha;exact⟨_,rfl,h.2⟩,rfl⟩
  ·have e2:¬kv.1= .inl k:=by rw[h.1];exact λz=>e (Sum.inl.inj z)
   rw[QO e2]
   have e3:Y9 (kx::d) k=Y9 d k:=by simp[Y9,List.find?_cons,e]
   rw[e3]
   exact⟨h1,h2⟩
theorem Uq {r:Enc α}{H:Hp}{k:Int}:∀{kvs:List (Key×V)}{d:List (Int×α)},Paired (rDP r K H) kvs d->(kvs.any λkv=>decide (kv.1= .inl k))=d.any λkx=>decide (kx.1=k)
 |_,_, .nil=>rfl
 |kv::kvs,kx::d, .cons h t=>by
  rw[List.any_cons,List.any_cons,Uq t,h.1]
  congr 1
  rw[Bool.eq_iff_iff];simp
theorem GR {r:Enc α}{H:Hp}{k:Int}{v:V}{a:α}(hv:r K H v a){kvs:List (Key×V)}{d:List (Int×α)}(h:Paired (rDP r K H) kvs d):Paired (rDP r K H) (VI kvs (.inl k) v) (Cy d k a):=by
 unfold VI Cy
 rw[Uq h]
 by_cases e:(d.any λkx=>decide (kx.1=k))=true
 ·rw[if_pos e,if_pos e]
  clear e
  induction h with
  |nil=>exact .nil
  | @cons kv kx l m h t ih=>
   refine .cons ?_ ih
   show rDP r K H (if kv.1= .inl k then(kv.1,v) else kv) (if kx.1=k then(kx.1,a) else kx)
   by_cases e:kx.1=k
   ·rw[if_pos (show kv.1= .inl k by rw[h.1,e]),if_pos e];exact⟨h.1,hv⟩
   ·rw[if_neg (show ¬kv.1= .inl k by rw[h.1];exact λz=>e (Sum.inl.inj z)),if_neg e];exact h
 ·rw[if_neg e,if_neg e]
  exact Paired.app h (.cons ⟨rfl,hv⟩ .nil)
theorem Mn {r:Enc α}:Ev K Er S OO OO σ Lg (oD r) (.ok []):=λH Q w s P=>λp hp=>P (.ref p) [(p, .dK [])] _ (XE hp _) (w.new hp rfl) (VC hp) ⟨p,[],rfl, .nil,rfl⟩
theorem UO {td ty:TE}{r:Enc α}[z:MonoE r]{md:Rs (List (Int×α))}{mk:Rs Int}(hd:EvB K Er S OO σ td (rD r) md)(hk:EvB K Er S OO σ ty Xc mk):EvB K Er S OO σ (Pb td ty) r (md.bind λd=>mk.bind λk=>GN d k):=λH Q w s P=>
 hd.run w s FB.tr P λd x H1 s1 w1 q1 ⟨p,kvs,e,q,pr⟩ P1=>hk.run w1 q1 FB.tr P1 λk y H2 s2 w2 q2 r2 P2=>by
  cases eg:Y9 d k with
  |none=>rw[GN,eg] at P2;exact P2.elim
  |some a=>
   rw[GN,eg] at P2
   obtain⟨v,hv,rv⟩:=(VX (k:=k) pr).1 a eg
   exact⟨p,v,e, .inl ⟨kvs, .inl k, .inl (s2 _ _ q),r2,hv.symm⟩,P2 _ H2 (Xv.refl _) (z.mono s2 rv)⟩
variable {Fd:Ends->β->Hp->Prop}[fd:FdOk Fd]{u:TS}
theorem Nx {tv ty:TE}{r:Enc α}[z:MonoE r]{mv:Rs α}{mk:Rs Int}{f:List (Int×α)->Rs β}{v:V}{d:List (Int×α)}{C:List Xq}(i k:Nat)(hσ:σ[i]?=some (some v))(hk:OO[k]?=some C)(h:∀x,S.p x->oD r K x v d C)(hv:EvS K Er S OO σ tv r mv)(hy:EvB K Er S OO σ ty Xc mk)
  (hr:∀d' C',Sv Er (S.addO K (oD r) v d' C') (OO.set k C') σ u Fd (f d')):Sv Er S OO σ (ZK (HD (Jz i) ty tv) u) Fd (mv.bind λa=>mk.bind λn=>chk (d.length<sizeLine) (f (Cy d n a))):=λH D w s P=>
 hv.st w s P λa va H1 s1 w1 q1 r1 P1=>⟨v,hσ,hy.st w1 q1 P1 λn vn H2 s2 w2 q2 r2 P2=>by
  obtain⟨hsz,P2⟩:=PZ.chk P2
  obtain⟨p,kvs,e,pr,c⟩:=h _ q2
  subst c e
  have hH:H2 p=some (.dK kvs):=w2.tr (p, .dK kvs) (List.mem_flatten.mpr ⟨_,List.mem_of_getElem? hk,by simp⟩)
  obtain⟨w3,m3⟩:=IA (D:=[]) (C':=[(p, .dK (VI kvs (.inl n) va))]) (p:=p) (o:=.dK (VI kvs (.inl n) va)) w2.nil hk (by simp) (by simp) (by simp) (λb hb=>by simpa using hb) (λc hc=>by
   have:c=(p, .dK (VI kvs (.inl n) va)):=by simpa using hc
   rw[this];exact Yd) (λc hc=>by
   have:c=(p, .dK (VI kvs (.inl n) va)):=by simpa using hc
   rw[this];rfl)
  rw[Y7] at m3
  refine⟨p,_,rfl, .inl ⟨kvs, .inl n,hH,r2,by rw[Paired.len pr];exact hsz,rfl⟩,?_⟩
  exact hr _ _ _ D w3 ⟨S.mono _ _ m3 q2,⟨p,_,rfl,GR (z.mono ((Xi s2).trans m3) r1) (Paired.imp2 (λ_ _ h=>⟨h.1,z.mono m3 h.2⟩) pr),rfl⟩⟩ (PZ.tr (fd.tr D) m3 P2)⟩
end
section
variable {P:Program}{w:World}{h0 h h' base:Heap}{H:Hp}{a T:Addr}{cls a0:Value}{l:List Env}
end
section
variable {fs fs2 ex ex2:List Addr}{H0 H H':Hp}{h0 h h':Heap}
end
section
variable {P:Program}{w:World}{K:PySem.W.Frag}{mg:Str->Option Value}{base:Heap}{N:List Str}{qual:Str}{scope:Scope}{f:Addr}{cd:Value}{A:Around}{outer:List Env}{s0:Shared}{H0:Hp}{E:XK}
end
section
variable {X:Cx}{k j:Nat}{x:Str}{ps:List Str}{sp:Sp}{e:Expr}{es:List Expr}{t:TA}{p pos:Pos}{E:XK}
end
section
variable {X:Cx}{E:XK}{C:Addr}{x:Str}{e:Expr}{es:List Expr}{t:TA}{np cpos pos:Pos}
end
noncomputable abbrev TJ:=St->Hp->(Hp->Prop)->Prop
section
variable {X:Cx}{e:Expr}{es:List Expr}{te:TE}{t:TJ}{n:Nat}{pos p:Pos}
end
section
variable {X:Cx}{pins:List (Addr×Obj)}{σ:St}{H:Hp}{s:Shared}{h':Heap}
end
section
variable {X:Cx}{body suite:List Stmt}{b₀:Stmt}{cn n:Str}{Ch:Addr}{i:Nat}{tb:XK->TS}{ts:Addr->Addr->TS}{np hpos pos:Pos}
end
section
variable {K:PySem.W.Frag}{Er:Exc->Hp->Prop}{S:SC}{OO OO' OO2:List (List Xq)}{σ:St}{α β γ ρ ι:Type}{α1 α2 α3 α4 α5 α6:Type}{mg:Str->Option Value}{E:XK}
noncomputable def FJ (Q:Hp->Prop)(_:Unit)(H:Hp):Prop:=∀ H',Xv H H'->Q H'
theorem FJ.tr {Q:Hp->Prop}:∀(b:Unit) (H H':Hp),Xv H H'->FJ Q b H->FJ Q b H':=λ_ _ _ s h H2 s2=>h H2 (s.trans s2)
variable {Fd:Ends->β->Hp->Prop}[fd:FdOk Fd]{u:TS}
section
variable {te:XK->TE}{m:Rs α}{ts:Addr->Addr->TS}{N i:Nat}{Ch:Addr}{o:OE ρ}{g:Exc->Rs ρ}{ns:List Str}{d:Str}
end
end
end L2
namespace L2
open PySem PySem.Spec PyProof.Rows PySem.W PySem.Builtin PySem.Builtin.ObjectAttr PySem.Builtin.Getset_descriptor
section
variable {prog:Program}{w:World}{A:Around}{E:Value->Shared->Prop}{K:Frag}{x D:Addr}{s:Shared}
end
theorem Pc {X:Cx}{x:Str}{v:V}{pos:Pos}(h:∃u,X.mg x=some u/\X4 v u)(hg:Gl X x)(hd:(x==("__debug__":Str))=false:=by decide):PE X (.Name x pos) (tC v):=by
 obtain⟨u,hm,r⟩:=h
 exact L1 hg hm r hd
section
variable {K:PySem.W.Frag}{C D:Addr}{b:Bool}
end
end L2
namespace L2
open PySem PySem.Spec PyProof.Rows
section
variable {α β:Type}{K:PySem.W.Frag}{Er:Exc->Hp->Prop}{S:SC}{OO:List (List Xq)}{σ:St}{Fd:Ends->β->Hp->Prop}[fd:FdOk Fd]{u:TS}
end
section
variable {α β γ δ ε:Type}
inductive Kd where
 |non |bl |int |str |lst |tup
noncomputable def KdV (s:Shared)(v:Value):Kd->Prop
 | .non=>v= .none
 | .bl=>∃ b,v= .bool b
 | .int=>∃ i t,v= .int i t
 | .str=>∃ x t,v= .str x t
 | .lst=>∃ l items,v= .ref l/\s.heap.IsList l items
 | .tup=>∃ l items,v= .ref l/\s.heap.IsTuple l items
noncomputable def KdX (K:PySem.W.Frag)(H:Hp)(x:V):Kd->Prop
 | .non=>x= .non
 | .bl=>∃ b,x= .bl b
 | .int=>∃ i,x= .int i
 | .str=>∃ i,x= .str i
 | .lst=>∃ a xs,x= .ref a/\SqL K H a xs
 | .tup=>∃ a xs,x= .ref a/\SqT K H a xs
noncomputable def Kd.dis:Kd->Kd->Bool
 | .non, .bl=>true
 | .non, .int=>true
 | .non, .str=>true
 | .non, .lst=>true
 | .non, .tup=>true
 | .bl, .non=>true
 | .bl, .str=>true
 | .bl, .lst=>true
 | .bl, .tup=>true
 | .int, .non=>true
 | .int, .str=>true
 | .int, .lst=>true
 | .int, .tup=>true
 | .str, .non=>true
 | .str, .bl=>true
 | .str, .int=>true
 | .str, .lst=>true
 | .str, .tup=>true
 | .lst, .non=>true
 | .lst, .bl=>true
 | .lst, .int=>true
 | .lst, .str=>true
 | .lst, .tup=>true
 | .tup, .non=>true
 | .tup, .bl=>true
 | .tup, .int=>true
 | .tup, .str=>true
 | .tup, .lst=>true
 |_,_=>false
theorem kdV {X:Cx}{pins:List (Addr×Obj)}{σ:St}{H:Hp}{s:Shared}{x:V}{v:Value}(I:Inv X pins σ H s)(rx:X4 x v):∀{k:Kd},KdX X.K H x k->KdV s v k
 | .non,h=>by cases(show x= .non from h);cases rx;rfl
 | .bl,⟨b,h⟩=>by subst h;cases rx;exact⟨b,rfl⟩
 | .int,⟨b,h⟩=>by subst h;obtain⟨t,rfl⟩:=rx;exact⟨b,t,rfl⟩
 | .str,⟨b,h⟩=>by subst h;obtain⟨t,rfl⟩:=rx;exact⟨b,t,rfl⟩
 | .lst,⟨a,xs,h,q⟩=>by
  subst h;cases rx
  obtain⟨its,r1,l1,_⟩:=I.list q
  exact⟨a,_,rfl,l1.isList⟩
 | .tup,⟨a,xs,h,q⟩=>by
  subst h;cases rx
  obtain⟨its,r1,l1,_⟩:=I.tuple q
  exact⟨a,_,rfl,l1⟩
theorem Cb {s:Shared}{A:Around}{v u:Value}(hu:A.units<cLine):∀{j k:Kd},j.dis k=true->KdV s v j->KdV s u k->SeqAt.EqAt A s v u false/\SeqAt.RcAt A s v u false/\SeqAt.RcNeAt A s v u true
 | .non, .non,h,_,_=>absurd h Bool.false_ne_true
 | .non, .bl,_,h1,h2=>by
  cases(show _=Value.none from h1)
  obtain⟨b2,rfl⟩:=h2
  exact⟨SeqAt.EqAt.none_bool b2,SeqAt.RcAt.none_bool b2,SeqAt.RcNeAt.none_bool b2⟩
 | .non, .int,_,h1,h2=>by
  cases(show _=Value.none from h1)
  obtain⟨i2,t2,rfl⟩:=h2
  exact⟨SeqAt.EqAt.none_int i2 t2,SeqAt.RcAt.none_int i2 t2,SeqAt.RcNeAt.none_int i2 t2⟩
 | .non, .str,_,h1,h2=>by
  cases(show _=Value.none from h1)
  obtain⟨i2,t2,rfl⟩:=h2
  exact⟨SeqAt.EqAt.none_str i2 t2,SeqAt.RcAt.none_str i2 t2,SeqAt.RcNeAt.none_str i2 t2⟩
 | .non, .lst,_,h1,h2=>by
  cases(show _=Value.none from h1)
  obtain⟨l2,is2,rfl,q2⟩:=h2
  exact⟨SeqAt.EqAt.none_list q2 hu,SeqAt.RcAt.none_list q2 hu,SeqAt.RcNeAt.none_list q2 hu⟩
 | .non, .tup,_,h1,h2=>by
  cases(show _=Value.none from h1)
  obtain⟨l2,is2,rfl,q2⟩:=h2
  exact⟨SeqAt.EqAt.none_tuple q2 hu,SeqAt.RcAt.none_tuple q2 hu,SeqAt.RcNeAt.none_tuple q2 hu⟩
 | .bl, .non,_,h1,h2=>by
  obtain⟨b1,rfl⟩:=h1
  cases(show _=Value.none from h2)
  exact⟨SeqAt.EqAt.bool_none b1,SeqAt.RcAt.bool_none b1,SeqAt.RcNeAt.bool_none b1⟩
 | .bl, .bl,h,_,_=>absurd h Bool.false_ne_true
 | .bl, .int,h,_,_=>absurd h Bool.false_ne_true
 | .bl, .str,_,h1,h2=>by
  obtain⟨b1,rfl⟩:=h1
  obtain⟨i2,t2,rfl⟩:=h2
  exact⟨SeqAt.EqAt.bool_str b1 i2 t2,SeqAt.RcAt.bool_str b1 i2 t2,SeqAt.RcNeAt.bool_str b1 i2 t2⟩
 | .bl, .lst,_,h1,h2=>by
  obtain⟨b1,rfl⟩:=h1
  obtain⟨l2,is2,rfl,q2⟩:=h2
  exact⟨SeqAt.EqAt.bool_list b1 q2 hu,SeqAt.RcAt.bool_list b1 q2 hu,SeqAt.RcNeAt.bool_list b1 q2 hu⟩
 | .bl, .tup,_,h1,h2=>by
  obtain⟨b1,rfl⟩:=h1
  obtain⟨l2,is2,rfl,q2⟩:=h2
  exact⟨SeqAt.EqAt.bool_tuple b1 q2 hu,SeqAt.RcAt.bool_tuple b1 q2 hu,SeqAt.RcNeAt.bool_tuple b1 q2 hu⟩
 | .int, .non,_,h1,h2=>by
  obtain⟨i1,t1,rfl⟩:=h1
  cases(show _=Value.none from h2)
  exact⟨SeqAt.EqAt.int_none i1 t1,SeqAt.RcAt.int_none i1 t1,SeqAt.RcNeAt.int_none i1 t1⟩
 | .int, .bl,h,_,_=>absurd h Bool.false_ne_true
 | .int, .int,h,_,_=>absurd h Bool.false_ne_true
 | .int, .str,_,h1,h2=>by
  obtain⟨i1,t1,rfl⟩:=h1
  obtain⟨i2,t2,rfl⟩:=h2
  exact⟨SeqAt.EqAt.int_str i1 t1 i2 t2,SeqAt.RcAt.int_str i1 t1 i2 t2,SeqAt.RcNeAt.int_str i1 t1 i2 t2⟩
 | .int, .lst,_,h1,h2=>by
  obtain⟨i1,t1,rfl⟩:=h1
  obtain⟨l2,is2,rfl,q2⟩:=h2
  exact⟨SeqAt.EqAt.int_list i1 t1 q2 hu,SeqAt.RcAt.int_list i1 t1 q2 hu,SeqAt.RcNeAt.int_list i1 t1 q2 hu⟩
 | .int, .tup,_,h1,h2=>by
  obtain⟨i1,t1,rfl⟩:=h1
  obtain⟨l2,is2,rfl,q2⟩:=h2
  exact⟨SeqAt.EqAt.int_tuple i1 t1 q2 hu,SeqAt.RcAt.int_tuple i1 t1 q2 hu,SeqAt.RcNeAt.int_tuple i1 t1 q2 hu⟩
 | .str, .non,_,h1,h2=>by
  obtain⟨i1,t1,rfl⟩:=h1
  cases(show _=Value.none from h2)
  exact⟨SeqAt.EqAt.str_none i1 t1,SeqAt.RcAt.str_none i1 t1,SeqAt.RcNeAt.str_none i1 t1⟩
 | .str, .bl,_,h1,h2=>by
  obtain⟨i1,t1,rfl⟩:=h1
  obtain⟨b2,rfl⟩:=h2
  exact⟨SeqAt.EqAt.str_bool i1 t1 b2,SeqAt.RcAt.str_bool i1 t1 b2,SeqAt.RcNeAt.str_bool i1 t1 b2⟩
 | .str, .int,_,h1,h2=>by
  obtain⟨i1,t1,rfl⟩:=h1
  obtain⟨i2,t2,rfl⟩:=h2
  exact⟨SeqAt.EqAt.str_int i1 t1 i2 t2,SeqAt.RcAt.str_int i1 t1 i2 t2,SeqAt.RcNeAt.str_int i1 t1 i2 t2⟩
 | .str, .str,h,_,_=>absurd h Bool.false_ne_true
 | .str, .lst,_,h1,h2=>by
  obtain⟨i1,t1,rfl⟩:=h1
  obtain⟨l2,is2,rfl,q2⟩:=h2
  exact⟨SeqAt.EqAt.str_list i1 t1 q2 hu,SeqAt.RcAt.str_list i1 t1 q2 hu,SeqAt.RcNeAt.str_list i1 t1 q2 hu⟩
 | .str, .tup,_,h1,h2=>by
  obtain⟨i1,t1,rfl⟩:=h1
  obtain⟨l2,is2,rfl,q2⟩:=h2
  exact⟨SeqAt.EqAt.str_tuple i1 t1 q2 hu,SeqAt.RcAt.str_tuple i1 t1 q2 hu,SeqAt.RcNeAt.str_tuple i1 t1 q2 hu⟩
 | .lst, .non,_,h1,h2=>by
  obtain⟨l1,is1,rfl,q1⟩:=h1
  cases(show _=Value.none from h2)
  exact⟨SeqAt.EqAt.list_none q1 hu,SeqAt.RcAt.list_none q1 hu,SeqAt.RcNeAt.list_none q1 hu⟩
 | .lst, .bl,_,h1,h2=>by
  obtain⟨l1,is1,rfl,q1⟩:=h1
  obtain⟨b2,rfl⟩:=h2
  exact⟨SeqAt.EqAt.list_bool b2 q1 hu,SeqAt.RcAt.list_bool b2 q1 hu,SeqAt.RcNeAt.list_bool b2 q1 hu⟩
 | .lst, .int,_,h1,h2=>by
  obtain⟨l1,is1,rfl,q1⟩:=h1
  obtain⟨i2,t2,rfl⟩:=h2
  exact⟨SeqAt.EqAt.list_int i2 t2 q1 hu,SeqAt.RcAt.list_int i2 t2 q1 hu,SeqAt.RcNeAt.list_int i2 t2 q1 hu⟩
 | .lst, .str,_,h1,h2=>by
  obtain⟨l1,is1,rfl,q1⟩:=h1
  obtain⟨i2,t2,rfl⟩:=h2
  exact⟨SeqAt.EqAt.list_str i2 t2 q1 hu,SeqAt.RcAt.list_str i2 t2 q1 hu,SeqAt.RcNeAt.list_str i2 t2 q1 hu⟩
 | .lst, .lst,h,_,_=>absurd h Bool.false_ne_true
 | .lst, .tup,_,h1,h2=>by
  obtain⟨l1,is1,rfl,q1⟩:=h1
  obtain⟨l2,is2,rfl,q2⟩:=h2
  exact⟨SeqAt.EqAt.of_refs (SeqAt.ne_of_list_tuple q1 q2) (SeqAt.RcAt.list_tuple q1 q2 hu),SeqAt.RcAt.list_tuple q1 q2 hu,SeqAt.RcNeAt.list_tuple q1 q2 hu⟩
 | .tup, .non,_,h1,h2=>by
  obtain⟨l1,is1,rfl,q1⟩:=h1
  cases(show _=Value.none from h2)
  exact⟨SeqAt.EqAt.tuple_none q1 hu,SeqAt.RcAt.tuple_none q1 hu,SeqAt.RcNeAt.tuple_none q1 hu⟩
 | .tup, .bl,_,h1,h2=>by
  obtain⟨l1,is1,rfl,q1⟩:=h1
  obtain⟨b2,rfl⟩:=h2
  exact⟨SeqAt.EqAt.tuple_bool b2 q1 hu,SeqAt.RcAt.tuple_bool b2 q1 hu,SeqAt.RcNeAt.tuple_bool b2 q1 hu⟩
 | .tup, .int,_,h1,h2=>by
  obtain⟨l1,is1,rfl,q1⟩:=h1
  obtain⟨i2,t2,rfl⟩:=h2
  exact⟨SeqAt.EqAt.tuple_int i2 t2 q1 hu,SeqAt.RcAt.tuple_int i2 t2 q1 hu,SeqAt.RcNeAt.tuple_int i2 t2 q1 hu⟩
 | .tup, .str,_,h1,h2=>by
  obtain⟨l1,is1,rfl,q1⟩:=h1
  obtain⟨i2,t2,rfl⟩:=h2
  exact⟨SeqAt.EqAt.tuple_str i2 t2 q1 hu,SeqAt.RcAt.tuple_str i2 t2 q1 hu,SeqAt.RcNeAt.tuple_str i2 t2 q1 hu⟩
 | .tup, .lst,_,h1,h2=>by
  obtain⟨l1,is1,rfl,q1⟩:=h1
  obtain⟨l2,is2,rfl,q2⟩:=h2
  exact⟨SeqAt.EqAt.of_refs (λe=>SeqAt.ne_of_list_tuple q2 q1 e.symm) (SeqAt.RcAt.tuple_list q1 q2 hu),SeqAt.RcAt.tuple_list q1 q2 hu,SeqAt.RcNeAt.tuple_list q1 q2 hu⟩
 | .tup, .tup,h,_,_=>absurd h Bool.false_ne_true
class KdE (r:Enc α)(k:outParam Kd):Prop where
 to:∀{K:PySem.W.Frag}{H:Hp}{x:V}{a:α},r K H x a->KdX K H x k
instance:KdE Xc .int:=⟨λh=>⟨_,h⟩⟩
instance:KdE XC .bl:=⟨λh=>⟨_,h⟩⟩
instance {r:Enc α}:KdE (rV r) .lst:=⟨λr9=>by obtain⟨a,xs,e,q,_⟩:=r9;exact⟨a,xs,e,SqL.of q⟩⟩
instance {r:Enc α}:KdE (rPL r) .tup:=⟨λr9=>by obtain⟨a,xs,e,q,_⟩:=r9;exact⟨a,xs,e,SqT.of q⟩⟩
instance {r:Enc α}{q:Enc β}:KdE (rP2 r q) .tup:=⟨λr9=>by obtain⟨a,x,y,e,q,_⟩:=r9;exact⟨a,_,e,SqT.of q⟩⟩
instance {r:Enc α}{q:Enc β}{t:Enc γ}:KdE (rP3 r q t) .tup:=⟨λr9=>by obtain⟨a,x,y,z,e,q,_⟩:=r9;exact⟨a,_,e,SqT.of q⟩⟩
end
section
variable {K:PySem.W.Frag}{Er:Exc->Hp->Prop}{S:SC}{OO OO' OO1 OO2:List (List Xq)}{σ:St}{α β γ ρ ι δ ε ζ:Type}
variable {Fd:Ends->β->Hp->Prop}[fd:FdOk Fd]{u:TS}
noncomputable def getL:α ⊕ γ->Rs α
 | .inl a=>.ok a
 | .inr _=>.bad
noncomputable def getR:α ⊕ γ->Rs γ
 | .inl _=>.bad
 | .inr b=>.ok b
end
end L2
namespace L2
theorem OX {α:Type}{us:List α}(h:us.length=1):∃a,us=[a]:=List.length_eq_one_iff.mp h
theorem O0 {α:Type}{us:List α}(h:us.length=2):∃a0 a1,us=[a0,a1]:=by
 cases us with
 |nil=>cases h
 |cons a0 t=>
  obtain⟨a1,rfl⟩:=OX (Nat.succ.inj h)
  exact⟨a0,a1,rfl⟩
theorem Oa {α:Type}{us:List α}(h:us.length=3):∃a0 a1 a2,us=[a0,a1,a2]:=by
 cases us with
 |nil=>cases h
 |cons a0 t=>
  obtain⟨a1,a2,rfl⟩:=O0 (Nat.succ.inj h)
  exact⟨a0,a1,a2,rfl⟩
theorem Os {α:Type}{us:List α}(h:us.length=4):∃a0 a1 a2 a3,us=[a0,a1,a2,a3]:=by
 cases us with
 |nil=>cases h
 |cons a0 t=>
  obtain⟨a1,a2,a3,rfl⟩:=Oa (Nat.succ.inj h)
  exact⟨a0,a1,a2,a3,rfl⟩
theorem PL {α:Type}{us:List α}(h:us.length=5):∃a0 a1 a2 a3 a4,us=[a0,a1,a2,a3,a4]:=by
 cases us with
 |nil=>cases h
 |cons a0 t=>
  obtain⟨a1,a2,a3,a4,rfl⟩:=Os (Nat.succ.inj h)
  exact⟨a0,a1,a2,a3,a4,rfl⟩
end L2
namespace L2
open PySem PySem.Spec PyProof.Rows
section
variable {prog:Program}{w:World}{A:Around}{E:Value->Shared->Prop}
end
section
variable {X:Cx}{pos:Pos}
end
section
variable {K:PySem.W.Frag}{Er:Exc->Hp->Prop}{S:SC}{OO OO' OO1 OO2:List (List Xq)}{σ:St}{α β γ ρ ι δ ε ζ:Type}
variable {Fd:Ends->β->Hp->Prop}[fd:FdOk Fd]{u:TS}
theorem Dw [DecidableEq α]{r:Enc α}{k:Kd}{d:Nat}[m:MonoE r][n:KdE r k](h:Kd.non.dis k=true)(h':k.dis Kd.non=true)(E:EqOk r d):EqOk (JQ r) d where
 uniq:=fun {X pins σ H s x a b} I h1 h2=>by
  cases a with
  |none=>cases b with
   |none=>rfl
   |some b=>exact absurd h1 h2.1
  |some a=>cases b with
   |none=>exact absurd h2 h1.1
   |some b=>rw[E.uniq I h1.2 h2.2]
 eq:=fun {X pins σ H s x y v u a b A} I rx ry h1 h2 hu=>by
  cases a with
  |none=>cases b with
   |none=>
    cases(show x= .non from h1);cases(show y= .non from h2);cases rx;cases ry
    exact SeqAt.EqAt.same _
   |some b=>simpa using (Cb (A:=A) (by omega) h (kdV I rx (show KdX X.K H x .non from h1)) (kdV I ry (n.to h2.2))).1
  |some a=>cases b with
   |none=>simpa using (Cb (A:=A) (by omega) h' (kdV I rx (n.to h1.2)) (kdV I ry (show KdX X.K H y .non from h2))).1
   |some b=>simpa using E.eq I rx ry h1.2 h2.2 hu
 rc:=fun {X pins σ H s x y v u a b A} I rx ry h1 h2 hu=>by
  cases a with
  |none=>cases b with
   |none=>
    cases(show x= .non from h1);cases(show y= .non from h2);cases rx;cases ry
    exact SeqAt.RcAt.none_none
   |some b=>simpa using (Cb (A:=A) (by omega) h (kdV I rx (show KdX X.K H x .non from h1)) (kdV I ry (n.to h2.2))).2.1
  |some a=>cases b with
   |none=>simpa using (Cb (A:=A) (by omega) h' (kdV I rx (n.to h1.2)) (kdV I ry (show KdX X.K H y .non from h2))).2.1
   |some b=>simpa using E.rc I rx ry h1.2 h2.2 hu
 ne:=fun {X pins σ H s x y v u a b A} I rx ry h1 h2 hu=>by
  cases a with
  |none=>cases b with
   |none=>
    cases(show x= .non from h1);cases(show y= .non from h2);cases rx;cases ry
    exact SeqAt.RcNeAt.none_none
   |some b=>simpa using (Cb (A:=A) (by omega) h (kdV I rx (show KdX X.K H x .non from h1)) (kdV I ry (n.to h2.2))).2.2
  |some a=>cases b with
   |none=>simpa using (Cb (A:=A) (by omega) h' (kdV I rx (n.to h1.2)) (kdV I ry (show KdX X.K H y .non from h2))).2.2
   |some b=>simpa using E.ne I rx ry h1.2 h2.2 hu
 keep:=λs q=>MonoE.mono s q
theorem Bp {r:Enc α}:Ev K Er S OO OO σ (tC .non) (oF (JQ r)) (.ok none):=λH Q w s P=>P _ [] H (Xv.refl _) w.nil (by rw[Y7];exact Xv.refl _) ⟨rfl,rfl⟩
end
section
variable {X:Cx}
noncomputable def ipM:TIp:=λx y H Q=>∃ i j,x= .int i/\y= .int j/\NU i j/\Q (.int (i*j)) H
theorem Oo:PIp X .Mult ipM:=by
 intro pins s σ H x y v u Q I r1 r2 h
 obtain⟨i,j,e1,e2,hc,q⟩:=h
 subst e1;subst e2
 obtain⟨t,rfl⟩:=r1
 obtain⟨t',rfl⟩:=r2
 exact PySem.AutoIntOps.imul_0 ⟨.int _,H,I.tok _,⟨_,rfl⟩,q⟩ hc.ok
end
section
variable {K:PySem.W.Frag}{Er:Exc->Hp->Prop}{S:SC}{OO OO' OO1 OO2:List (List Xq)}{σ:St}{α β γ ρ ι δ ε ζ:Type}
variable {Fd:Ends->β->Hp->Prop}[fd:FdOk Fd]{u:TS}
theorem NI {te:TE}{m:Rs Int}{f:Int->Rs β}{v:V}{a:Int}(i:Nat)(hσ:σ[i]?=some (some v))(h:∀x,S.p x->Xc K x v a)(he:EvB K Er S OO σ te Xc m)
  (hr:∀b v,Sv Er (S.add K Xc v b) OO (σ.set i (some v)) u Fd (f b)):Sv Er S OO σ (ZK (Pn i te ipM) u) Fd (m.bind λb=>(M8 a b).bind f):=λH D w s P=>
 ⟨v,hσ,he.st w s P λb y H1 s1 w1 q1 r1 P1=>by
  cases e:M8 a b with
  |bad=>rw[e] at P1;exact P1.elim
  |err x=>exact absurd e Qq
  |ok c=>
   rw[e] at P1
   obtain⟨h1,h2⟩:=Zf e
   cases h2
   exact⟨a,b,h _ s,r1,h1,hr _ _ H1 D w1 ⟨q1,rfl⟩ P1⟩⟩
end
set_option maxRecDepth 100000
section
variable {prog:Program}{w:World}{A:Around}{E:Value->Shared->Prop}{s:Shared}
end
section
variable {prog:Program}{w:World}{A:Around}{R:Result->Shared->Prop}{K:Type}[DecidableEq K]{knd:KeyKind prog w K}
noncomputable def IM (acc kv:List (K×Value)):List (K×Value):=kv.foldl (λa p=>stored a p.1 p.2) acc
end
section
variable {X:Cx}
noncomputable def OF (acc kvs:List (Key×V)):List (Key×V):=kvs.foldl (λa p=>VI a p.1 p.2) acc
theorem KV.all {kvs:List (Key×V)}{vs:List (Key×Value)}(t:KV kvs vs):∀{acc:List (Key×V)}{acc':List (Key×Value)},KV acc acc'->KV (OF acc kvs) (IM acc' vs):=by
 induction t with
 |nil=>intro acc acc' h;exact h
 | @cons p q kvs vs r _ ih=>
  intro acc acc' h
  have h2:=h.put p.1 r.2
  have e:stored acc' p.1 q.2=stored acc' q.1 q.2:=by rw[r.1]
  rw[e] at h2
  exact ih h2
end
section
variable {X:Cx}{pins:List (Addr×Obj)}{σ:St}{H:Hp}{s:Shared}{d:Addr}{o:Obj}{kvs:List (Key×V)}
theorem KV.key {kvs:List (Key×V)}{vs:List (Key×Value)}(h:KV kvs vs):∀{i:Nat} (h1:i<kvs.length) (h2:i<vs.length),(kvs[i]).1=(vs[i]).1:=by
 induction h with
 |nil=>intro i h1;exact absurd h1 (Nat.not_lt_zero _)
 |cons r _ ih=>
  intro i h1 h2
  cases i with
  |zero=>exact r.1
  |succ i=>exact ih (Nat.lt_of_succ_lt_succ h1) (Nat.lt_of_succ_lt_succ h2)
end
section
variable {X:Cx}
end
section
variable {K:PySem.W.Frag}{Er:Exc->Hp->Prop}{S:SC}{OO OO' OO2:List (List Xq)}{σ:St}{α β γ ρ ι δ ε:Type}
variable {Fd:Ends->β->Hp->Prop}[fd:FdOk Fd]{u:TS}
theorem DJ {H:Hp}{xs:List V}{ns:List Int}(h:Paired (Xc K H) xs ns):xs=ns.map V.int:=by
 induction h with
 |nil=>rfl
 |cons r _ ih=>rw[List.map_cons,ih,show _=V.int _ from r]
theorem QT {ta:TE}{r:Enc α}{m:Rs (List α)}(ha:EvB K Er S OO σ ta (rV r) m):EvB K Er S OO σ ta (JQ (rV r)) (m.bind λa=>.ok (some a)):=λH Q w s P=>
 ha.run w s FB.tr P λa x H1 s1 w1 q1 r9 P1=>by obtain⟨p,xs,e,q,h⟩:=r9;exact P1 _ H1 (Xv.refl _) ⟨by rw[e];exact(λz=>nomatch z),p,xs,e,q,h⟩
end
section
variable {prog:Program}{w:World}{A:Around}
end
section
variable {X:Cx}
end
section
variable {K:PySem.W.Frag}{Er:Exc->Hp->Prop}{S:SC}{OO OO' OO1 OO2:List (List Xq)}{σ:St}{α β γ ρ ι δ ε:Type}
variable {Fd:Ends->β->Hp->Prop}[fd:FdOk Fd]{u:TS}
end
theorem Vb:entryFor table "list.__eq__.loop" =some Builtin.«list.__eq__.loop»:=entryFor_of_fast (by kernel_rfl)
theorem ZP:plainId "list.__eq__.loop" =true:=by decide+kernel
section
variable {X:Cx}
end
section
variable {K:PySem.W.Frag}{Er:Exc->Hp->Prop}{S:SC}{OO OO' OO1 OO2:List (List Xq)}{σ:St}{α β γ ρ ι δ ε:Type}
end
section
variable {K:PySem.W.Frag}{Er:Exc->Hp->Prop}{S:SC}{OO OO' OO1 OO2:List (List Xq)}{σ:St}{α β γ ρ ι δ ε:Type}
noncomputable def Lo (K:PySem.W.Frag):List V->Hp->VK->Prop:=λxs H Q=>∃ p ys,xs=[.ref p]/\((SqL K H p ys/\∀l,H l=none->Q (.ref l) (upd H l (.tup ys)))∨(SqT K H p ys/\Q (.ref p) H))
theorem ZC {X:Cx}(K:PySem.W.Frag)(h:X.K=K):Z2 X (.type "tuple") (Lo K):=by subst h;exact Kk
theorem Jr {ta:TE}{r:Enc α}[z:MonoE r]{ma:Rs (List α)}(ha:EvB K Er S OO σ ta (rV r) ma):EvB K Er S OO σ (tCB (Lo K) (Xo ta YN)) (rPL r) (ma.bind λa=>.ok a):=λH Q w s P=>
 ha.run w s FB.tr P λa x H1 s1 w1 q1 r9 P1=>by obtain⟨p,xs,e,q,pr⟩:=r9;exact⟨p,xs,by rw[e], .inl ⟨SqL.of q,λl hl=>P1 (.ref l) _ (XE hl _) ⟨l,xs,rfl,Yd,Paired.imp2 (λ_ _ h=>z.mono (XE hl _) h) pr⟩⟩⟩
noncomputable def tk (k:List Int):List Key:=k.map Sum.inl
theorem BG {a b:List Int}(h:tk a=tk b):a=b:=(List.map_inj_right (λ_ _ h=>Sum.inl.inj h)).mp h
theorem OU (k:List Int):(tk k).map kV=k.map V.int:=by unfold tk;rw[List.map_map];rfl
noncomputable def Ni {α:Type}(r:Enc α)(K:PySem.W.Frag)(H:Hp)(kv:List Key×V)(kx:List Int×α):Prop:=kv.1=tk kx.1/\r K H kv.2 kx.2
noncomputable def rDT {α:Type}(r:Enc α):Enc (List (List Int×α)):=λK H v d=>∃ p kvs,v= .ref p/\H p=some (.dT kvs)/\Paired (Ni r K H) kvs d
noncomputable def oDT {α:Type}(r:Enc α):OE (List (List Int×α)):=λK h v d C=>∃ p kvs,v= .ref p/\Paired (Ni r K h) kvs d/\C=[(p, .dT kvs)]
instance {r:Enc α}[m:MonoE r]:MonoE (rDT r):=⟨λs r9=>by obtain⟨p,kvs,e,q,pr⟩:=r9;exact⟨p,kvs,e,s _ _ q,Paired.imp2 (λ_ _ z=>⟨z.1,m.mono s z.2⟩) pr⟩⟩
instance {r:Enc α}[m:MonoE r]:MonoO (oDT r):=⟨λs r9=>by obtain⟨p,kvs,e,pr,c⟩:=r9;exact⟨p,kvs,e,Paired.imp2 (λ_ _ z=>⟨z.1,m.mono s z.2⟩) pr,c⟩⟩
instance {r:Enc α}[m:FlatE r]:FlatO (oDT r):=⟨λs r9=>by obtain⟨p,kvs,e,pr,c⟩:=r9;exact⟨p,kvs,e,Paired.imp2 (λ_ _ z=>⟨z.1,m.flat s z.2⟩) pr,c⟩⟩
instance {r:Enc α}[m:MonoE r]:FrzC (oDT r) (rDT r):=⟨λr9 s hc=>by obtain⟨p,kvs,e,pr,c⟩:=r9;exact⟨p,kvs,e,hc (p, .dT kvs) (by rw[c];simp),Paired.imp2 (λ_ _ z=>⟨z.1,m.mono s z.2⟩) pr⟩⟩
noncomputable def JR (d:List (List Int×α))(k:List Int):Option α:=(d.find? λkv=>decide (kv.1=k)).map (·.2)
noncomputable def Gk (d:List (List Int×α))(k:List Int)(v:α):List (List Int×α):=if(d.any λkv=>decide (kv.1=k))=true then d.map (λkv=>if kv.1=k then(kv.1,v) else kv) else d++[(k,v)]
theorem G6 {r:Enc α}{H:Hp}{k:List Int}{kvs:List (List Key×V)}{d:List (List Int×α)}(h:Paired (Ni r K H) kvs d):(DA kvs (tk k)).isSome=(JR d k).isSome:=by
 induction h with
 |nil=>rfl
 | @cons kv kx _ d h t ih=>
  by_cases e:kx.1=k
  ·rw[Q1 (show kv.1=tk k by rw[h.1,e]),show JR (kx::d) k=some kx.2 by simp[JR,List.find?_cons,e]]
   rfl
  ·rw[QO (show ¬kv.1=tk k from λz=>e (BG (h.1.symm.trans z))),show JR (kx::d) k=JR d k by simp[JR,List.find?_cons,e]]
   exact ih
theorem GT {r:Enc α}{H:Hp}{k:List Int}{kvs:List (List Key×V)}{d:List (List Int×α)}(h:Paired (Ni r K H) kvs d):(kvs.any λkv=>decide (kv.1=tk k))=d.any λkx=>decide (kx.1=k):=by
 induction h with
 |nil=>rfl
 | @cons kv kx _ _ h t ih=>
  rw[List.any_cons,List.any_cons,ih,h.1]
  congr 1
  rw[Bool.eq_iff_iff,decide_eq_true_eq,decide_eq_true_eq]
  exact⟨BG,λz=>by rw[z]⟩
theorem G9 {r:Enc α}{H:Hp}{k:List Int}{v:V}{a:α}(hv:r K H v a){kvs:List (List Key×V)}{d:List (List Int×α)}(h:Paired (Ni r K H) kvs d):Paired (Ni r K H) (VI kvs (tk k) v) (Gk d k a):=by
 unfold VI Gk
 rw[GT h]
 by_cases e:(d.any λkx=>decide (kx.1=k))=true
 ·rw[if_pos e,if_pos e]
  clear e
  induction h with
  |nil=>exact .nil
  | @cons kv kx l m h t ih=>
   refine .cons ?_ ih
   show Ni r K H (if kv.1=tk k then(kv.1,v) else kv) (if kx.1=k then(kx.1,a) else kx)
   by_cases e:kx.1=k
   ·rw[if_pos (show kv.1=tk k by rw[h.1,e]),if_pos e];exact⟨h.1,hv⟩
   ·rw[if_neg (show ¬kv.1=tk k from λz=>e (BG (h.1.symm.trans z))),if_neg e];exact h
 ·rw[if_neg e,if_neg e]
  exact Paired.app h (.cons ⟨rfl,hv⟩ .nil)
theorem IX {r:Enc α}:Ev K Er S OO OO σ Lv (oDT r) (.ok []):=λH Q w s P=>λp hp=>P (.ref p) [(p, .dT [])] _ (XE hp _) (w.new hp rfl) (VC hp) ⟨p,[],rfl, .nil,rfl⟩
theorem KZ {td ty:TE}{r:Enc α}{md:Rs (List (List Int×α))}{mk:Rs (List Int)}(hk:EvB K Er S OO σ ty (rPL Xc) mk)(hd:EvB K Er S OO σ td (rDT r) md):EvB K Er S OO σ (Hq ty td) XC (mk.bind λk=>md.bind λd=>.ok (!(JR d k).isSome)):=λH Q w s P=>
 hk.run w s FB.tr P λk y H1 s1 w1 q1 r9 P1=>by obtain⟨b,xs,eb,hb,pk⟩:=r9;exact hd.run w1 q1 FB.tr P1 λd x H2 s2 w2 q2 r9 P2=>by obtain⟨p,kvs,e,q,pr⟩:=r9;exact⟨p,DA kvs (tk k),e, .inr ⟨kvs,tk k,b, .inl q,eb,by rw[OU, ←DJ pk];exact s2 _ _ hb,rfl⟩,P2 _ H2 (Xv.refl _) (by rw[G6 (k:=k) pr];rfl)⟩
variable {Fd:Ends->β->Hp->Prop}[fd:FdOk Fd]{u:TS}
theorem Iy {tv ty:TE}{r:Enc α}[z:MonoE r]{mv:Rs α}{mk:Rs (List Int)}{f:List (List Int×α)->Rs β}{v:V}{d:List (List Int×α)}{C:List Xq}(i k:Nat)(hσ:σ[i]?=some (some v))(hk:OO[k]?=some C)(h:∀x,S.p x->oDT r K x v d C)(hv:EvS K Er S OO σ tv r mv)(hy:EvB K Er S OO σ ty (rPL Xc) mk)
  (hr:∀d' C',Sv Er (S.addO K (oDT r) v d' C') (OO.set k C') σ u Fd (f d')):Sv Er S OO σ (ZK (HD (Jz i) ty tv) u) Fd (mv.bind λa=>mk.bind λn=>chk (d.length<sizeLine) (f (Gk d n a))):=λH D w s P=>
 hv.st w s P λa va H1 s1 w1 q1 r1 P1=>⟨v,hσ,hy.st w1 q1 P1 λn vn H2 s2 w2 q2 r2 P2=>by
  obtain⟨hsz,P2⟩:=PZ.chk P2
  obtain⟨b,xs,eb,hb,pk⟩:=r2
  obtain⟨p,kvs,e,pr,c⟩:=h _ q2
  subst c e
  have hH:H2 p=some (.dT kvs):=w2.tr (p, .dT kvs) (List.mem_flatten.mpr ⟨_,List.mem_of_getElem? hk,by simp⟩)
  obtain⟨w3,m3⟩:=IA (D:=[]) (C':=[(p, .dT (VI kvs (tk n) va))]) (p:=p) (o:=.dT (VI kvs (tk n) va)) w2.nil hk (by simp) (by simp) (by simp) (λb hb=>by simpa using hb) (λc hc=>by
   have:c=(p, .dT (VI kvs (tk n) va)):=by simpa using hc
   rw[this];exact Yd) (λc hc=>by
   have:c=(p, .dT (VI kvs (tk n) va)):=by simpa using hc
   rw[this];rfl)
  rw[Y7] at m3
  refine⟨p,_,rfl, .inr ⟨kvs,tk n,b,hH,eb,by rw[OU, ←DJ pk];exact hb,by rw[Paired.len pr];exact hsz,rfl⟩,?_⟩
  exact hr _ _ _ D w3 ⟨S.mono _ _ m3 q2,⟨p,_,rfl,G9 (z.mono ((Xi s2).trans m3) r1) (Paired.imp2 (λ_ _ h=>⟨h.1,z.mono m3 h.2⟩) pr),rfl⟩⟩ (PZ.tr (fd.tr D) m3 P2)⟩
end
section
variable {X:Cx}{α:Type}[DecidableEq α]{r:Enc α}{d:Nat}
end
section
variable {K:PySem.W.Frag}{Er:Exc->Hp->Prop}{S:SC}{OO OO' OO1 OO2:List (List Xq)}{σ:St}{α β γ ρ ι δ ε:Type}
end
section
variable {X:Cx}{pins:List (Addr×Obj)}{σ:St}{H:Hp}{s:Shared}{h':Heap}
end
section
variable {X:Cx}{elts:List Expr}{k:Nat}{pos0:Pos}
end
section
variable {K:PySem.W.Frag}{Er:Exc->Hp->Prop}{S:SC}{OO OO' OO1 OO2:List (List Xq)}{σ:St}{α β γ ρ ι δ ε:Type}
end
section
variable {X:Cx}
end
section
variable {K:PySem.W.Frag}{Er:Exc->Hp->Prop}{S:SC}{OO OO' OO1 OO2:List (List Xq)}{σ:St}{α β γ ρ ι δ ε:Type}
variable {Fd:Ends->β->Hp->Prop}[fd:FdOk Fd]{u:TS}
end
section
variable {K:PySem.W.Frag}{Er:Exc->Hp->Prop}{S:SC}{OO OO' OO1 OO2:List (List Xq)}{σ:St}{α β γ ρ ι δ ε:Type}{u:TS}
end
section
variable {X:Cx}
end
section
variable {K:PySem.W.Frag}{Er:Exc->Hp->Prop}{S:SC}{OO:List (List Xq)}{σ:St}
end
section
variable {X:Cx}{pins:List (Addr×Obj)}{σ:St}{H:Hp}{s:Shared}{d:Addr}{o:Obj}{kvs:List (Key×V)}
end
section
variable {X:Cx}
end
section
variable {K:PySem.W.Frag}{Er:Exc->Hp->Prop}{S:SC}{OO OO' OO1 OO2 OO3:List (List Xq)}{σ:St}{α β γ ρ ι δ ε ζ:Type}
variable {Fd:Ends->β->Hp->Prop}[fd:FdOk Fd]{u:TS}
noncomputable def oT3 (o:OE α)(q:OE β)(t:OE γ):OE (α×β×γ):=λK h v a C=>∃ p x y z C1 C2 C3,v= .ref p/\h p=some (.tup [x,y,z])/\o K h x a.1 C1/\q K h y a.2.1 C2/\t K h z a.2.2 C3/\C=C1++(C2++C3)
instance {o:OE α}{q:OE β}{t:OE γ}[m:MonoO o][n:MonoO q][k:MonoO t]:MonoO (oT3 o q t):=⟨λs r9=>by obtain⟨p,x,y,z,C1,C2,C3,e,h,h1,h2,h3,c⟩:=r9;exact⟨p,x,y,z,C1,C2,C3,e,s _ _ h,m.mono s h1,n.mono s h2,k.mono s h3,c⟩⟩
instance {o:OE α}{q:OE β}{t:OE γ}[m:FlatO o][n:FlatO q][k:FlatO t]:FlatO (oT3 o q t):=⟨λs r9=>by obtain⟨p,x,y,z,C1,C2,C3,e,h,h1,h2,h3,c⟩:=r9;exact⟨p,x,y,z,C1,C2,C3,e,s _ _ h rfl,m.flat s h1,n.flat s h2,k.flat s h3,c⟩⟩
instance {o:OE α}{q:OE β}{t:OE γ}{ro:Enc α}{rq:Enc β}{rt:Enc γ}[m:FrzC o ro][n:FrzC q rq][k:FrzC t rt]:FrzC (oT3 o q t) (rP3 ro rq rt):=⟨λ⟨p,x,y,z,C1,C2,C3,e,h,h1,h2,h3,c⟩ s hc=>by
 subst c
 exact⟨p,x,y,z,e,s _ _ h,m.frz h1 s λc hm=>hc c (by simp[hm]),n.frz h2 s λc hm=>hc c (by simp[hm]),k.frz h3 s λc hm=>hc c (by simp[hm])⟩⟩
end
section
variable {K:PySem.W.Frag}{Er:Exc->Hp->Prop}{S:SC}{OO OO' OO1 OO2:List (List Xq)}{σ:St}{α β γ ρ ι δ ε ζ:Type}
variable {Fd:Ends->β->Hp->Prop}[fd:FdOk Fd]{u:TS}
end
section
variable {K:PySem.W.Frag}{Er:Exc->Hp->Prop}{S:SC}{OO OO' OO1 OO2:List (List Xq)}{σ:St}{α β γ ρ ι δ ε ζ:Type}
variable {Fd:Ends->β->Hp->Prop}[fd:FdOk Fd]{u:TS}
end
section
variable {K:PySem.W.Frag}{Er:Exc->Hp->Prop}{S:SC}{OO OO' OO1 OO2:List (List Xq)}{σ:St}{α β γ ρ ι δ ε ζ α1 α3 α4:Type}
variable {Fd:Ends->β->Hp->Prop}[fd:FdOk Fd]{u:TS}
end
end L2
namespace L2
open PySem
noncomputable def Inc (xs:Array Nat):Prop:=xs.toList.Pairwise (· < ·)
structure TOk (t:SetTable)(led:Bool):Prop where
 inc:Inc t.place
 dum:t.dummies= #[]
 led:t.led=led
end L2
namespace L2
open PySem PySem.Spec PyProof.Rows
noncomputable def dd (l:List Int):List Int:=l.foldl step_dedup []
structure SCore (prog:Program)(w:World)(es:Array (Int×Value))(t:SetTable)(ns:List Int):Prop where
 el:ElemsOf (intKind prog w) es.toList
 pm:∃ms,IntsAre (es.toList.map (·.2)) ms/\ms.Perm ns
 sz:es.size<scanBound
 fit:t.fits es.size=true
 tok:TOk t (!w.params.followText "set-order")
noncomputable def Ry (prog:Program)(w:World)(h:Heap)(a:Addr)(ns:List Int):Prop:=
 ∃o es ep t,h.get? a=some o/\o.ExactSet/\o.data= .set es ep t/\SCore prog w es t ns
section
variable {prog:Program}{w:World}{A:Around}{E:Value->Shared->Prop}{s:Shared}{a:Addr}{ns:List Int}
theorem Ry.put {h:Heap}{o:Obj}{es es':Array (Int×Value)}{ep:Nat}{t t':SetTable}(ho:h.get? a=some o)(hx:o.ExactSet)(hd:o.data= .set es ep t):
  (h.update a (Obj.putSet es' t')).get? a=some {o with data:=.set es' (ep+1) t'}/\(SCore prog w es' t' ns->Ry prog w (h.update a (Obj.putSet es' t')) a ns):=by
 have g:=Heap.get?_update_self (Obj.putSet es' t') ho (by rw[putSet_of es' t' hd];rfl)
 rw[putSet_of es' t' hd] at g
 exact⟨g,λc=>⟨_,_,_,_,g,hx,rfl,c⟩⟩
end
section
variable {prog:Program}{w:World}{A:Around}{E:Value->Shared->Prop}{s:Shared}
end
section
variable {M:Model}{A:Around}{E:Value->Shared->Prop}{s:Shared}
end
section
variable {prog:Program}{w:World}{A:Around}{E:Value->Shared->Prop}{s:Shared}{a:Addr}{o:Obj}{es:Array (Int×Value)}{ep:Nat}{t:SetTable}
end
section
variable {prog:Program}{w:World}{A:Around}{E:Value->Shared->Prop}{s:Shared}{a I tp:Addr}{o:Obj}{es:Array (Int×Value)}{ep:Nat}{t:SetTable}{L:List (Int×Value)}
end
section
variable {prog:Program}{w:World}{A:Around}{E:Value->Shared->Prop}{s:Shared}{a I tp:Addr}{o:Obj}{es:Array (Int×Value)}{ep:Nat}{t:SetTable}{L:List (Int×Value)}{ns:List Int}
end
section
variable {X:Cx}
end
section
variable {K:PySem.W.Frag}{Er:Exc->Hp->Prop}{S:SC}{OO:List (List Xq)}{σ:St}
variable {u:TS}{α γ ρ ι:Type}
variable {β:Type}{Fd:Ends->β->Hp->Prop}[fd:FdOk Fd]
end
section
variable {α β γ:Type}
end
section
variable {K:PySem.W.Frag}{Er:Exc->Hp->Prop}{S:SC}{OO:List (List Xq)}{σ:St}{α1 α2 α3 α4 ρ:Type}{mg:Str->Option Value}{E:XK}
end
section
variable {X:Cx}{tg:Expr}
end
section
variable {K:PySem.W.Frag}{Er:Exc->Hp->Prop}{S:SC}{OO OO':List (List Xq)}{σ:St}{α β γ:Type}
variable {u:TS}{Fd:Ends->β->Hp->Prop}[fd:FdOk Fd]
end
section
variable {K:PySem.W.Frag}{Er:Exc->Hp->Prop}{S:SC}{OO:List (List Xq)}{σ:St}{α β γ ι:Type}{u:TS}{Fd:Ends->β->Hp->Prop}[fd:FdOk Fd]
end
section
variable {K:PySem.W.Frag}{Er:Exc->Hp->Prop}{S:SC}{OO:List (List Xq)}{σ:St}{α β:Type}
end
noncomputable def ltG {α:Type}[DecidableEq α](lt:α->α->Bool):List α->List α->Bool
 |_,[]=>false
 | [],_::_=>true
 |a::as,b::bs=>if a=b then ltG lt as bs else lt a b
noncomputable def RU (A:Around)(s:Shared)(v u:Value)(b:Bool):Prop:=
 ∀(prog:Program) (w:World) (E:Value->Shared->Prop) (Q:Value->Shared->Prop),Q (.bool b) s->wpAny (model prog w) A (richCompare .Lt v u) Q E s
structure LtOk {α:Type}(r:Enc α)(lt:α->α->Bool)(d:Nat):Prop where
 at':∀{X:Cx}{pins:List (Addr×Obj)}{σ:St}{H:Hp}{s:Shared}{x y:V}{v u:Value}{a b:α}{A:Around},Inv X pins σ H s->X4 x v->X4 y u->r X.K H x a->r X.K H y b->A.units+d<cLine->RU A s v u (lt a b)
noncomputable def ltI (a b:Int):Bool:=decide (a<b)
theorem lt_int:LtOk Xc ltI 0:=⟨fun {X pins σ H s x y v u a b A} I rx ry h1 h2 _ prog w E Q q=>by
 have e1:x=V.int a:=h1
 have e2:y=V.int b:=h2
 subst e1 e2
 obtain⟨t,rfl⟩:=rx
 obtain⟨t',rfl⟩:=ry
 exact CmpOf.ints_lt (P:=λj v=>∃ t,v= .int (if j=0 then a else b) t) (λj=>if j=0 then a else b) (λ_ _ h=>h) 0 1 _ _ _ _ _ ⟨t,rfl⟩ ⟨t',rfl⟩ q⟩
section
variable {α:Type}[DecidableEq α]{r:Enc α}{lt:α->α->Bool}{d:Nat}
theorem UH {as:List α}:ltG lt as []=false:=by cases as<;> rfl
theorem RM (E:EqOk r d)(L:LtOk r lt d){X:Cx}{pins:List (Addr×Obj)}{σ:St}{H:Hp}{s:Shared}(I:Inv X pins σ H s){prog:Program}{w:World}{A:Around}{R:Result->Shared->Prop}{l b:Addr}{i1 i2:List Value}{n m:Nat}{o1 o2:Obj}(d1:o1.data= .seq i1.toArray n)(d2:o2.data= .seq i2.toArray m)
  {xs ys:List V}{as bs:List α}(v1:Ya xs i1)(v2:Ya ys i2)(p1:Paired (r X.K H) xs as)(p2:Paired (r X.K H) ys bs)(g1:s.heap.get? l=some o1)(g2:s.heap.get? b=some o2)(hu:A.units+(d+1)<cLine):
  ∀(k i:Nat),as.length-i=k->i<=as.length->i<=bs.length->R (.ok (.ret (.bool (ltG lt (as.drop i) (bs.drop i))))) s->
  codeAny (model prog w) A (.builtin "list.__eq__.loop" ⟨[.ref l, .ref b,rawInt i,rawInt 0],[]⟩) R s:=by
 have n1:as.length=i1.length:=by rw[←Paired.len p1];exact v1.length
 have n2:bs.length=i2.length:=by rw[←Paired.len p2];exact v2.length
 intro k
 induction k with
 |zero=>
  intro i hk hi1 hi2 q
  refine codeAny_builtin Vb ?_
  rw[Around.under_plainId ZP _]
  show wpAny _ A.in1 (Builtin.List.listItems (.ref l) >>= _) _ _ s
  refine wpAny_bind (wpAny_listItems g1 d1 (wpAny_bind (wpAny_listItems g2 d2 ?_)))
  rw[show((i:Nat):Int).toNat=i from rfl,show i1.toArray[i]?=none by simp;omega]
  refine wpAny_bind (wpAny_listItems g1 d1 (wpAny_bind (wpAny_listItems g2 d2 (wpAny_pure ?_))))
  have e:ltG lt (as.drop i) (bs.drop i)=decide (i1.toArray.size<i2.toArray.size):=by
   rw[List.drop_eq_nil_of_le (show as.length<=i by omega)]
   cases hd:bs.drop i with
   |nil=>
    have:=congrArg List.length hd
    simp at this
    rw[UH,decide_eq_false (by simp;omega)]
   |cons x t=>
    have:=congrArg List.length hd
    simp at this
    exact(decide_eq_true (show i1.toArray.size<i2.toArray.size by simp;omega)).symm
  rw[e] at q
  exact q
 |succ k ih=>
  intro i hk hi1 hi2 q
  have lt1:i<as.length:=by omega
  refine codeAny_builtin Vb ?_
  rw[Around.under_plainId ZP _]
  show wpAny _ A.in1 (Builtin.List.listItems (.ref l) >>= _) _ _ s
  refine wpAny_bind (wpAny_listItems g1 d1 (wpAny_bind (wpAny_listItems g2 d2 ?_)))
  rw[show((i:Nat):Int).toNat=i from rfl]
  have f1:i1.toArray[i]?=some i1[i]:=by simp
  obtain⟨x,ex,rx⟩:=Paired.getR (i:=i) (b:=i1[i]) v1 (by simp)
  obtain⟨a,ea,ra⟩:=Paired.getL p1 ex
  have dx:as.drop i=a::as.drop (i+1):=by rw[List.drop_eq_getElem_cons lt1, ←(List.getElem?_eq_some_iff.mp ea).2]
  rw[f1]
  by_cases lt2:i<bs.length
  ·have f2:i2.toArray[i]?=some i2[i]:=by simp
   obtain⟨y,ey,ry⟩:=Paired.getR (i:=i) (b:=i2[i]) v2 (by simp)
   obtain⟨c,ec,rc⟩:=Paired.getL p2 ey
   have dy:bs.drop i=c::bs.drop (i+1):=by rw[List.drop_eq_getElem_cons lt2, ←(List.getElem?_eq_some_iff.mp ec).2]
   rw[dx,dy,ltG] at q
   rw[f2]
   show wpAny _ _ (eqBool i1[i] i2[i] >>= _) _ _ _
   refine wpAny_bind (E.eq (A:=A.in1) I rx ry ra rc (by rw[Qd];omega) _ _ _ _ ?_)
   by_cases hac:a=c
   ·rw[if_pos hac] at q
    rw[if_pos (by simpa using hac)]
    exact wpAny_pure ⟨plainId_quiet ZP _,ih (i+1) (by omega) (by omega) (by omega) q⟩
   ·rw[if_neg hac] at q
    rw[if_neg (by simpa using hac)]
    refine wpAny_bind (wpAny_listItems g1 d1 (wpAny_bind (wpAny_listItems g2 d2 ?_)))
    rw[f1,f2]
    show wpAny _ _ (richCompare .Lt i1[i] i2[i] >>= _) _ _ _
    exact wpAny_bind (L.at' (A:=A.in1) I rx ry ra rc (by rw[Qd];omega) _ _ _ _ (wpAny_pure q))
  ·rw[show i2.toArray[i]?=none by simp;omega]
   refine wpAny_bind (wpAny_listItems g1 d1 (wpAny_bind (wpAny_listItems g2 d2 (wpAny_pure ?_))))
   rw[List.drop_eq_nil_of_le (show bs.length<=i by omega),UH, ←decide_eq_false (show ¬i1.toArray.size<i2.toArray.size by simp;omega)] at q
   exact q
theorem MV (E:EqOk r d)(L:LtOk r lt d){X:Cx}{pins:List (Addr×Obj)}{σ:St}{H:Hp}{s:Shared}(I:Inv X pins σ H s){prog:Program}{w:World}{A:Around}{Er:Value->Shared->Prop}{x y:V}{v u:Value}{as bs:List α}(rx:X4 x v)(ry:X4 y u)(h1:rL r X.K H x as)(h2:rL r X.K H y bs)(hu:A.units+(d+1)<cLine){Q:Value->Shared->Prop}(q:Q (.bool (ltG lt as bs)) s):
  ∃l b o1 o2,v= .ref l/\u= .ref b/\s.heap.get? l=some o1/\o1.cls= .type "list" /\s.heap.get? b=some o2/\o2.cls= .type "list" /\wpAny (model prog w) A (call (.builtin "list.__lt__") [.ref l, .ref b]) Q Er s:=by
 obtain⟨l,xs,rfl,q1,p1⟩:=h1
 obtain⟨b,ys,rfl,q2,p2⟩:=h2
 cases rx
 cases ry
 obtain⟨i1,v1,⟨o1,n1,g1,c1,_,d1⟩,_⟩:=I.list q1
 obtain⟨i2,v2,⟨o2,n2,g2,c2,_,d2⟩,_⟩:=I.list q2
 have me:Meets (Builtin.«list.__lt__» ⟨[.ref l, .ref b],[]⟩) λA' R s'=>s'=s/\A'.units+(d+1)<cLine/\R (.ok (.ret (.bool (ltG lt as bs)))) s':=by
  rintro prog w A' R s' ⟨rfl,hu',q'⟩
  show wpAny _ _ (slotArgs "__lt__" 1 ⟨[.ref l, .ref b],[]⟩ >>= _) _ _ _
  refine wpAny_bind (wpAny_pure (wpAny_bind (wpAny_isInstance ⟨_,g2,c2⟩ (by first |rfl |kernel_rfl) ?_)))
  rw[if_neg (by decide)]
  show wpAny _ _ (if(CmpOp.Lt==CmpOp.Eq || CmpOp.Lt==CmpOp.NotEq)=true then _ else _) _ _ _
  rw[if_neg (by decide)]
  exact wpAny_pure ⟨plainId_quiet ZP _,RM E L I d1 d2 v1 v2 p1 p2 g1 g2 hu' as.length 0 rfl (Nat.zero_le _) (Nat.zero_le _) (by simpa using q')⟩
 exact⟨l,b,o1,o2,rfl,rfl,g1,c1,g2,c2,call_meets F.slot_list_lt ⟨_,g1,c1⟩ F.entry_list_lt (F.args_list_lt_2 _ _) me ⟨rfl,hu,q⟩⟩
theorem LtOk.imp {q:Enc α}(L:LtOk r lt d)(h:∀{K:PySem.W.Frag}{H:Hp}{v:V}{a:α},q K H v a->r K H v a):LtOk q lt d:=⟨λI rx ry h1 h2 hu=>L.at' I rx ry (h h1) (h h2) hu⟩
theorem PM {q:Enc α}{K:PySem.W.Frag}{H:Hp}{v:V}{as:List α}(h:rV q K H v as):rL q K H v as:=by
 obtain⟨a,xs,e,q,p⟩:=h
 exact⟨a,xs,e,SqL.of q,p⟩
end
section
variable {α:Type}
noncomputable def kp (kf:Value->α)(d:α)(xs:Array Keyed)(i:Nat):α:=(xs[i]?.map λp=>kf p.1).getD d
structure Ord (lt:α->α->Bool):Prop where
 irr:∀a,lt a a=false
 tr:∀{a b c},lt a b=true->lt b c=true->lt a c=true
variable {prog:Program}{w:World}{A:Around}{E:Value->Shared->Prop}{s:Shared}{κ:SortKind}{lt:α->α->Bool}{kf:Value->α}{d:α}{a0:Array Keyed}
noncomputable def Fal (lt:α->α->Bool)(k:Nat->α)(n:Nat):Prop:=∀ i j,i<j->j<n->lt (k j) (k i)=true
theorem Fal.more (O:Ord lt){k:Nat->α}{n:Nat}(h:Fal lt k n)(q:0<n->lt (k n) (k (n-1))=true):Fal lt k (n+1):=λi j hij hj=>by
 rcases Nat.lt_or_ge j n with z |z
 ·exact h i j hij z
 ·have e:j=n:=by omega
  subst e
  rcases Nat.lt_or_ge i (j-1) with y |y
  ·exact O.tr (q (by omega)) (h i (j-1) y (by omega))
  ·rw[show i=j-1 by omega];exact q (by omega)
end
section
variable {α β γ:Type}
theorem Ge {f:α->β}{l' k:List β}(h:l'.Perm k):∀{l:List α},k=l.map f->∃m:List α,m.Perm l/\m.map f=l':=by
 induction h with
 |nil=>intro l e;cases l with
  |nil=>exact⟨[], .nil,rfl⟩
  |cons a l=>cases e
 |cons x _ ih=>intro l e;cases l with
  |nil=>cases e
  |cons a l=>
   injection e with e1 e2
   obtain⟨m,hm,em⟩:=ih e2
   exact⟨a::m,hm.cons a,by rw[List.map_cons,em,e1]⟩
 |swap x y t=>intro l e;cases l with
  |nil=>cases e
  |cons a l=>cases l with
   |nil=>cases e
   |cons b l=>
    injection e with e1 e2
    injection e2 with e2 e3
    exact⟨b::a::l, .swap ..,by rw[List.map_cons,List.map_cons,e1,e2,e3]⟩
 |trans _ _ ih1 ih2=>
  intro l e
  obtain⟨m2,h2,e2⟩:=ih2 e
  obtain⟨m1,h1,e1⟩:=ih1 e2.symm
  exact⟨m1,h1.trans h2,e1⟩
structure OrdT (lt:α->α->Bool):Prop extends Ord lt where
 tot:∀{a b},a≠b->lt a b=true∨lt b a=true
theorem Kt:OrdT ltI:=⟨⟨λa=>by simp[ltI],λh1 h2=>by simp only[ltI,decide_eq_true_eq] at*;omega⟩,λh=>by simp only[ltI,decide_eq_true_eq];omega⟩
section
variable [DecidableEq α]{lt:α->α->Bool}
theorem Lz (O:OrdT lt):∀{a b c:List α},ltG lt a b=true->ltG lt b c=true->ltG lt a c=true
 |_,[],_,h,_=>by rw[UH] at h;cases h
 |_,_::_,[],_,h=>by rw[UH] at h;cases h
 | [],_::_,_::_,_,_=>rfl
 |a::as,b::bs,c::cs,h1,h2=>by
  rw[ltG] at h1 h2⊢
  by_cases e1:a=b
  ·rw[if_pos e1] at h1
   by_cases e2:b=c
   ·rw[if_pos e2] at h2
    rw[if_pos (e1.trans e2)]
    exact Lz O h1 h2
   ·rw[if_neg e2] at h2
    rw[if_neg (by rw[e1];exact e2),e1];exact h2
  ·rw[if_neg e1] at h1
   by_cases e2:b=c
   ·rw[if_neg (by rw[←e2];exact e1), ←e2];exact h1
   ·rw[if_neg e2] at h2
    have h3:=O.tr h1 h2
    rw[if_neg (λe=>by rw[e,O.irr] at h3;cases h3)]
    exact h3
theorem BC:∀(a:List α),ltG lt a a=false
 | []=>rfl
 |a::as=>by rw[ltG,if_pos rfl];exact BC as
theorem BP (O:OrdT lt):∀{a b:List α},a≠b->ltG lt a b=true∨ltG lt b a=true
 | [],[],h=>absurd rfl h
 | [],_::_,_=>.inl rfl
 |_::_,[],_=>.inr rfl
 |a::as,b::bs,h=>by
  rw[ltG,ltG]
  by_cases e:a=b
  ·subst e
   rw[if_pos rfl,if_pos rfl]
   exact BP O λz=>h (by rw[z])
  ·rw[if_neg e,if_neg (Ne.symm e)];exact O.tot e
theorem V1 (O:OrdT lt):OrdT (ltG lt):=⟨⟨BC,Lz O⟩,BP O⟩
end
noncomputable def NP (lt:α->α->Bool)(a:α):List α->List α
 | []=>[a]
 |b::l=>if lt a b=true then a::b::l else b::NP lt a l
noncomputable def UJ (lt:α->α->Bool)(l:List α):List α:=l.foldr (NP lt) []
theorem V8 (lt:α->α->Bool)(a:α):∀l,(NP lt a l).Perm (a::l)
 | []=>.refl _
 |b::l=>by
  rw[NP]
  split
  ·exact .refl _
  ·exact((V8 lt a l).cons b).trans (.swap ..)
theorem Qj (lt:α->α->Bool):∀l:List α,(UJ lt l).Perm l
 | []=>.refl _
 |a::l=>(V8 lt a _).trans ((Qj lt l).cons a)
theorem Ga {lt:α->α->Bool}(O:OrdT lt){a:α}:∀{l:List α},(∀b∈l,a≠b)->l.Pairwise (λx y=>lt x y=true)->(NP lt a l).Pairwise λx y=>lt x y=true
 | [],_,_=>List.pairwise_singleton ..
 |b::l,hn,h=>by
  rw[List.pairwise_cons] at h
  rw[NP]
  split
  ·rename_i hab
   refine List.pairwise_cons.mpr ⟨λc hc=>?_,List.pairwise_cons.mpr h⟩
   rcases List.mem_cons.mp hc with z |z
   ·rw[z];exact hab
   ·exact O.tr hab (h.1 c z)
  ·rename_i hab
   refine List.pairwise_cons.mpr ⟨λc hc=>?_,Ga O (λc hc=>hn c (List.mem_cons_of_mem _ hc)) h.2⟩
   rcases List.mem_cons.mp ((V8 lt a l).mem_iff.mp hc) with z |z
   ·rw[z];exact(O.tot (hn b List.mem_cons_self)).resolve_left hab
   ·exact h.1 c z
theorem Ur {lt:α->α->Bool}(O:OrdT lt):∀{l:List α},l.Nodup->(UJ lt l).Pairwise λx y=>lt x y=true
 | [],_=>.nil
 |a::l,h=>by
  rw[List.nodup_cons] at h
  exact Ga O (λb hb e=>h.1 ((Qj lt l).mem_iff.mp (e▸hb))) (Ur O h.2)
theorem Df {lt:α->α->Bool}(O:OrdT lt){a b:List α}(hn:b.Nodup)(h:a.Perm b)(r:a.Pairwise λx y=>lt x y=true):a=UJ lt b:=
 List.Perm.eq_of_pairwise (le:=λx y=>lt x y=true) (λx y _ _ h1 h2=>by have:=O.tr h1 h2;rw[O.irr] at this;cases this) r (Ur O hn) (h.trans (Qj lt b).symm)
end
section
variable {prog:Program}{w:World}{A:Around}{E:Value->Shared->Prop}{s:Shared}{α:Type}
theorem Vo {β:Type}{f:Value->Sem β}{c:β}:∀{vs:List Value}{Q:List β->Shared->Prop},(∀v∈vs,∀Q:β->Shared->Prop,Q c s->wpAny (model prog w) A (f v) Q E s)->Q (vs.map λ_=>c) s->wpAny (model prog w) A (vs.mapM f) Q E s
 | [],Q,_,q=>by rw[List.mapM_nil];exact wpAny_pure q
 |v::vs,Q,h,q=>by
  rw[List.mapM_cons]
  refine wpAny_bind (h v List.mem_cons_self _ (wpAny_bind (Vo (λu hu=>h u (List.mem_cons_of_mem _ hu)) (wpAny_pure q))))
theorem CD {vs:List Value}{Q:SortKind->Shared->Prop}(hT:∀v∈vs,s.TypeIs v "list")(hne:vs≠ [])(q:Q oneType' s):wpAny (model prog w) A (keyKind' vs.toArray) Q E s:=by
 obtain⟨v0,vr,rfl⟩:=List.exists_cons_of_ne_nil hne
 rw[keyKind'_eq,List.mapM_toArray]
 refine wpAny_bind (wpAny_map (Vo (c:=(none:Option Value)) (λv hv Q q=>?_) ?_))
 ·show wpAny _ _ (typeOf v >>= λt=>if(t != .type "tuple")=true then pure none else _) _ _ _
  refine wpAny_bind (wpAny_typeOf (hT v hv) ?_)
  rw[if_pos (by decide)]
  exact wpAny_pure q
 ·rw[if_neg (by simp),if_neg (by simp),oneTypeOnly'_eq,List.mapM_toArray]
  refine wpAny_bind (wpAny_bind (wpAny_map (Vo (c:=Value.type "list") (λv hv Q q=>wpAny_typeOf (hT v hv) q) ?_)))
  rw[show((List.map (λ_=>Value.type "list") (v0::vr)).toArray)[0]?=some (Value.type "list") by simp]
  have hall:((List.map (λ_=>Value.type "list") (v0::vr)).toArray.all λx=>x==Value.type "list")=true:=by
   simp only[List.all_toArray,List.all_map,List.all_eq_true]
   intro _ _
   rfl
  simp only[hall,if_true]
  exact wpAny_pure (wpAny_pure q)
noncomputable def mid (h:Heap)(a:Addr)(vs:List Value):Heap:=((h.update a (Obj.mapSeq λ_=>#[])).push (seqObj "tuple" vs.toArray 0)).push (seqObj "list" #[] 0)
theorem L0 {h:Heap}{a b:Addr}{vs:List Value}{o:Obj}(hne:b≠a)(hb:h.get? b=some o):(mid h a vs).get? b=some o:=by
 have hlt:=Heap.lt_size hb
 unfold mid
 rw[Heap.get?_push_ne _ _ _ (by rw[size_push',Heap.size_update];exact Nat.ne_of_lt (Nat.lt_succ_of_lt hlt)),Heap.get?_push_ne _ _ _ (by rw[Heap.size_update];exact Nat.ne_of_lt hlt),Heap.get?_update_ne _ _ _ _ hne]
 exact hb
end
section
variable {X:Cx}{β:Type}[DecidableEq β]{r:Enc β}{lt:β->β->Bool}{d:Nat}
open Classical in
noncomputable def kfo (T:List (Value×V×List β))(v:Value):List β:=if h:∃t,t∈T/\t.1=v then(Classical.choose h).2.2 else[]
theorem El {T:List (Value×V×List β)}(hu:∀t u,t∈T->u∈T->t.1=u.1->t.2.2=u.2.2){t:Value×V×List β}(ht:t∈T):kfo T t.1=t.2.2:=by
 have h:∃u,u∈T/\u.1=t.1:=⟨t,ht,rfl⟩
 unfold kfo
 rw[dif_pos h]
 exact hu _ _ (Classical.choose_spec h).1 ht (Classical.choose_spec h).2
theorem Op {F:Value->V->List β->Prop}:∀{its:List Value}{ys:List V}{as:List (List β)}{G:V->List β->Prop},Paired X4 ys its->Paired G ys as->(∀v y a,X4 y v->G y a->F v y a)->∃T:List (Value×V×List β),T.map (·.1)=its/\T.map (λt=>(t.2.1,t.2.2))=ys.zip as/\T.map (·.2.2)=as/\∀t∈T,F t.1 t.2.1 t.2.2
 |_,_,_,_, .nil, .nil,_=>⟨[],rfl,rfl,rfl,λt h=>nomatch h⟩
 |_,_,_,_, .cons r1 p1, .cons r2 p2,h=>by
  obtain⟨T,e1,e2,e3,hT⟩:=Op p1 p2 h
  exact⟨(_,_,_)::T,by rw[List.map_cons,e1],by rw[List.map_cons,e2];rfl,by rw[List.map_cons,e3],λt ht=>(List.mem_cons.mp ht).elim (λz=>z▸h _ _ _ r1 r2) (hT t)⟩
end
section
variable {X:Cx}{α:Type}
end
section
variable {K:PySem.W.Frag}{Er:Exc->Hp->Prop}{S:SC}{OO OO':List (List Xq)}{σ:St}{α β γ δ:Type}
theorem P3.tri {F:α->β->γ->Prop}:∀{l m n},P3 F l m n->∃T:List (α×β×γ),T.map (·.1)=l/\T.map (·.2.1)=m/\T.map (·.2.2)=n/\∀t∈T,F t.1 t.2.1 t.2.2:=λp=>by
 induction p with
 |nil=>exact⟨[],rfl,rfl,rfl,λt h=>nomatch h⟩
 |cons r _ ih=>
  obtain⟨T,e1,e2,e3,h⟩:=ih
  exact⟨(_,_,_)::T,by rw[List.map_cons,e1],by rw[List.map_cons,e2],by rw[List.map_cons,e3],λt ht=>(List.mem_cons.mp ht).elim (λz=>z▸r) (h t)⟩
theorem P3.oft {F:α->β->γ->Prop}:∀{T:List (α×β×γ)},(∀t∈T,F t.1 t.2.1 t.2.2)->P3 F (T.map (·.1)) (T.map (·.2.1)) (T.map (·.2.2)):=fun {T}=>by
 induction T with
 |nil=>intro _;exact .nil
 |cons t T ih=>intro h;exact .cons (h t List.mem_cons_self) (ih λu hu=>h u (List.mem_cons_of_mem _ hu))
theorem Mo {a a':List α}{b b':List β}(h:a.zip b=a'.zip b')(h1:a.length=b.length)(h2:a'.length=b'.length):a=a'/\b=b':=by
 have e1:=congrArg (List.map Prod.fst) h
 have e2:=congrArg (List.map Prod.snd) h
 rw[List.map_fst_zip (by omega),List.map_fst_zip (by omega)] at e1
 rw[List.map_snd_zip (by omega),List.map_snd_zip (by omega)] at e2
 exact⟨e1,e2⟩
theorem P3.perm {F:α->β->γ->Prop}{l zs:List α}{m bs:List β}{n:List γ}(p:P3 F l m n)(h:(zs.zip bs).Perm (l.zip m))(hl:zs.length=bs.length):∃n',P3 F zs bs n'/\n'.Perm n:=by
 obtain⟨T,e1,e2,e3,hT⟩:=p.tri
 have ez:T.map (λt=>(t.1,t.2.1))=l.zip m:=by rw[←e1, ←e2,List.zip_map']
 obtain⟨T',hp,e⟩:=Ge h ez.symm
 have:(T'.map (·.1)).zip (T'.map (·.2.1))=zs.zip bs:=by rw[List.zip_map'];exact e
 obtain⟨f1,f2⟩:=Mo this (by simp) hl
 refine⟨T'.map (·.2.2),?_,by rw[←e3];exact hp.map _⟩
 rw[←f1, ←f2]
 exact P3.oft λt ht=>hT t (hp.mem_iff.mp ht)
end
section
variable {K:PySem.W.Frag}{Er:Exc->Hp->Prop}{S:SC}{OO OO':List (List Xq)}{σ:St}{α β:Type}{u:TS}{Fd:Ends->β->Hp->Prop}[fd:FdOk Fd]
end
section
variable {K:PySem.W.Frag}{Er:Exc->Hp->Prop}{S:SC}{OO OO':List (List Xq)}{σ:St}{α1 α2 β ρ:Type}{u:TS}
noncomputable def Ra (K:PySem.W.Frag)(o:OE ρ)(Cf:List Xq)(Q:VK)(b:ρ)(h:Hp):Prop:=∀ v C H',W [C++Cf] H'->Xv h (hid H' [C++Cf])->o K (hid H' [C++Cf]) v b C->Q v H'
noncomputable def GE (K:PySem.W.Frag)(o:OE ρ)(k:Nat)(Cf:List Xq)(D:Ends)(b:ρ)(h:Hp):Prop:=∀ v C OO' H',OO'[k]?=some Cf->W (C::OO') H'->Xv h (hid H' (C::OO'))->o K (hid H' (C::OO')) v b C->D.rt v H'
instance {o:OE ρ}{k:Nat}{Cf:List Xq}:FdOk (GE K o k Cf):=⟨λD b h h' s q v C O H' e w m x=>q v C O H' e w (s.trans m) x⟩
noncomputable def Po (r1:Enc α1)(r2:Enc α2)(o:OE ρ)(f:α1->α2->Rs ρ)(K:PySem.W.Frag):Sp:=λvs H Q _=>∃ v1 v2 a1 a2 b,vs=[v1,v2]/\∃Cf,W [Cf] H/\r1 K (hid H [Cf]) v1 a1/\r2 K (hid H [Cf]) v2 a2/\f a1 a2= .ok b/\Ra K o Cf Q b (hid H [Cf])
theorem U8 {te:TE}{o:OE ρ}{m:Rs ρ}{Cf:List Xq}(k:Nat)(hk:OO'[k]?=some Cf)(he:Ev K Er S OO OO' σ te o m):Sv Er S OO σ (ZK (Re te) u) (GE K o k Cf) m:=λH D w s P=>
 he H _ w s (by
  cases m with
  |bad=>exact P
  |err x=>exact λH' s'=>P H' (Xz.trans s')
  |ok a=>exact λv C H' s' w' m' ho=>P v C OO' H' hk w' m' ho)
theorem O9 {o:OE ρ}[zo:MonoO o]{t:TS}{m:Rs ρ}{Q:VK}{b:ρ}{H:Hp}{D:Ends}{Cf:List Xq}(n:Nat)(h:Sv (λ_ _=>False) S (List.replicate n []++[Cf]) σ t (GE K o n Cf) m)(w:W [Cf] H)(hs:S.p (hid H [Cf]))(hm:m= .ok b)(qf:Ra K o Cf Q b (hid H [Cf]))(hD:D.rt=Q):t D σ H:=by
 have pe:(List.replicate n ([]:List Xq)++[Cf]).flatten.Perm [Cf].flatten:=by
  rw[List.flatten_append,Yf,List.nil_append]
 refine h H D (w.of pe) (by rw[XW pe];exact hs) ?_
 subst hm
 rw[XW pe]
 intro v C OO' H' hk w' m' ho
 rw[hD]
 have hp:=XT hk
 have wk:W (C::Cf::OO'.set n []) H':=w'.of (by rw[List.flatten_cons,List.flatten_cons (l:=C)];exact hp.append_left C)
 have eh:hid H' (C::OO')=hid H' (C::Cf::OO'.set n []):=(XW (by rw[List.flatten_cons,List.flatten_cons (l:=C)];exact hp.append_left C)).symm
 have hsub:Xv (hid H' (C::OO')) (hid H' [C++Cf]):=by
  rw[eh]
  exact Qh (Xv.refl _) λb hb=>by
   rw[XX,XX, ←List.append_assoc]
   refine List.mem_append_left _ ?_
   simpa[fl] using hb
 exact qf v C H' (wk.sub (by simp)) (m'.trans hsub) (zo.mono hsub ho)
theorem PK {o:OE ρ}{Q:VK}{b:ρ}{H:Hp}(w:W OO H)(P:FO K OO OO o Q b H):Ra K o OO.flatten Q b (hid H OO):=λv C H' w' m' ho=>by
 have e1:([C++OO.flatten]:List (List Xq)).flatten=(C::OO).flatten:=by simp
 have e2:hid H' [C++OO.flatten]=hid H' (C::OO):=by unfold hid fl;rw[e1]
 rw[e2] at m' ho
 have w2:W (C::OO) H':=w'.of (by rw[e1])
 refine P v C H' (λx ob hx=>?_) w2 m' ho
 by_cases hb:x∈fl OO
 ·obtain⟨oo,hoo⟩:=Cg hb
  have h1:=w.tr _ hoo
  rw[hx] at h1
  cases h1
  exact w2.tail.tr _ hoo
 ·exact(X1 (m' _ _ (Zg hx hb))).1
theorem MK {H:Hp}:hid H [OO.flatten]=hid H OO:=by unfold hid fl;rw[show([OO.flatten]:List (List Xq)).flatten=OO.flatten by simp]
theorem W.one {H:Hp}(w:W OO H):W [OO.flatten] H:=w.of (by simp)
theorem Qf {ta tb:TE}{r1:Enc α1}{r2:Enc α2}[z1:MonoE r1][MonoE r2]{o:OE ρ}{f:α1->α2->Rs ρ}{ma:Rs α1}{mb:Rs α2}(ha:EvS K Er S OO σ ta r1 ma)(hb:EvS K Er S OO σ tb r2 mb):
  Ev K Er S OO OO σ (JO (Po r1 r2 o f K) [] E0 (Xo ta (Xo tb YN))) o (ma.bind λa=>mb.bind λb=>noE (f a b)):=λH Q w s P=>
 ha.run w s FO.tr P λa x H1 s1 w1 q1 r1 P1=>hb.run w1 q1 FO.tr P1 λb y H2 s2 w2 q2 r2 P2=>by
  obtain⟨c,hc,P3⟩:=P2.okOf λx=>Us
  exact⟨x,y,a,b,c,rfl,OO.flatten,w2.one,by rw[MK];exact z1.mono (Xi s2) r1,by rw[MK];exact r2,Uu hc,by rw[MK];exact PK w2 P3⟩
end
section
variable {K:PySem.W.Frag}{Er:Exc->Hp->Prop}{S:SC}{OO OO':List (List Xq)}{σ:St}{α α2 β γ ρ:Type}
variable {Fd:Ends->β->Hp->Prop}[fd:FdOk Fd]{u:TS}
end
section
variable {prog:Program}{w:World}{A:Around}{E:Value->Shared->Prop}{s:Shared}
end
section
variable {X:Cx}
end
section
variable {K:PySem.W.Frag}{Er:Exc->Hp->Prop}{S:SC}{OO OO':List (List Xq)}{σ:St}{α β γ:Type}
end
section
variable {X:Cx}{α:Type}{r:Enc α}{lt:α->α->Bool}{d:Nat}
end
section
variable {K:PySem.W.Frag}{Er:Exc->Hp->Prop}{S:SC}{OO OO':List (List Xq)}{σ:St}{α:Type}
end
section
variable {X:Cx}{pins:List (Addr×Obj)}{σ:St}{H:Hp}{s0:Shared}
noncomputable def RG (X:Cx)(g:Heap)(d:Addr)(xs:List (List Key×Addr×Value)):Prop:=∃ o es ep,g.get? d=some o/\o.ExactDict/\o.data= .dict es ep/\es.toList=xs.map (entryOfKey (tupleKind (YD X.prog X.w)))/\(xs.map (·.1)).Nodup
theorem RG.of {g:Heap}{d:Addr}{xs:List (List Key×Addr×Value)}(D:g.DictOfH (tupleKind (YD X.prog X.w)) d xs):RG X g d xs:=by
 obtain⟨o,es,ep,h1,h2,h3,h4,_,h5⟩:=D
 exact⟨o,es,ep,h1,h2,h3,h4,h5⟩
end
section
variable {K:PySem.W.Frag}{Er:Exc->Hp->Prop}{S:SC}{OO OO':List (List Xq)}{σ:St}{α β γ:Type}
end
section
variable {K:PySem.W.Frag}{Er:Exc->Hp->Prop}{S:SC}{OO:List (List Xq)}{σ:St}{α1 α2 α3 α4 α5 ρ:Type}{mg:Str->Option Value}{E:XK}
end
section
variable {X:Cx}{o e:Expr}{es:List Expr}{to:TE}{t:TA}{name:Str}{apos cpos:Pos}{id:String}{r:V->List V->Hp->VK->Prop}
end
section
variable {K:PySem.W.Frag}{Er:Exc->Hp->Prop}{S:SC}{OO:List (List Xq)}{σ:St}
end
section
variable {α β γ δ:Type}{K:PySem.W.Frag}{Er:Exc->Hp->Prop}{S:SC}{OO:List (List Xq)}{σ:St}{Fd:Ends->β->Hp->Prop}[fd:FdOk Fd]{u:TS}
end
end L2
namespace HT
open PySem PySem.Spec PyProof PyProof.Rows
section
variable {prog:Program}{w:World}{A:Around}{E:Value->Shared->Prop}{s:Shared}
end
end HT
namespace L2
open PySem PySem.Spec PyProof.Rows
section
variable {X:Cx}{e:Expr}{te:TE}
end
section
variable {α β:Type}{K:PySem.W.Frag}{Er:Exc->Hp->Prop}{S:SC}{OO:List (List Xq)}{σ:St}
end
section
variable {α β:Type}{K:PySem.W.Frag}{Er:Exc->Hp->Prop}{S:SC}{OO:List (List Xq)}{σ:St}{Fd:Ends->β->Hp->Prop}[fd:FdOk Fd]{u:TS}
end
section
variable {K:PySem.W.Frag}{Er:Exc->Hp->Prop}{S:SC}{OO OO' OO2:List (List Xq)}{σ:St}{α β γ ρ ι:Type}{mg:Str->Option Value}{E:XK}{u:TS}
end
section
variable {X:Cx}
end
section
variable {prog:Program}{w:World}{A:Around}{E:Value->Shared->Prop}{s:Shared}
end
section
variable {X:Cx}{o:Expr}{lo hi:Option Expr}{pos p2:Pos}{to:TE}{tl th:TO}
end
section
variable {X:Cx}{pins:List (Addr×Obj)}{σ:St}{H G:Hp}{s:Shared}{h':Heap}
end
section
variable {X:Cx}{l:Expr}{tl:TE}{pos npos apos cpos:Pos}
end
section
variable {X:Cx}
end
inductive Mx where
 |i (n:Int) |s (x:Str) |b (v:Bool)
 deriving DecidableEq
noncomputable def Mx.v:Mx->V
 | .i n=>.int n
 | .s x=>.str x
 | .b v=>.bl v
noncomputable def rMx:Enc Mx:=λ_ _ v m=>v=m.v
instance:FlatE rMx:=⟨λ_ h=>h⟩
section
variable {K:PySem.W.Frag}{Er:Exc->Hp->Prop}{S:SC}{OO OO' OO1 OO2 OO3:List (List Xq)}{σ:St}{α β γ δ ρ:Type}{u:TS}
end
section
variable {K:PySem.W.Frag}{Er:Exc->Hp->Prop}{S:SC}{OO OO' OO1 OO2 OO3:List (List Xq)}{σ:St}{α β γ δ ρ ι:Type}{α1 α2 α3 α4 α5:Type}{u:TS}
variable {Fd:Ends->β->Hp->Prop}[fd:FdOk Fd]
section
variable {o:OE ρ}{kf:Nat}{Cf:List Xq}{J:Jn γ ι}
noncomputable def NS (K:PySem.W.Frag)(o:OE ρ)(kf:Nat)(Cf:List Xq)(J:Jn γ ι)(D:Ends)(c:Ctl ρ γ)(h:Hp):Prop:=match c with
 | .ret r=>GE K o kf Cf D r h
 | .nx g=>FNd J D g h
instance:FdOk (NS K o kf Cf J):=⟨λD b h h' s q=>by
 cases b with
 |ret r=>exact λv C O H' e w m x=>q v C O H' e w (s.trans m) x
 |nx g=>exact λx H' w m y=>q x H' w (s.trans m) y⟩
theorem Ih {t:TS}{m:Rs γ}(h:Sv Er S OO σ t (FNd J) m):Sv Er S OO σ t (NS K o kf Cf J) (m.bind λr=>.ok (.nx r)):=λH D w s P=>h H D w s (by
 cases m with
 |bad=>exact P
 |err x=>exact P
 |ok a=>exact P)
theorem HL {c:TT}{t1:TS}{mc:Rs Bool}{m1 m2:Rs ρ}(hc:EvT Er S OO σ c mc)(h1:Sv Er S OO σ t1 (GE K o kf Cf) m1)(h2:Sv Er S OO σ u (GE K o kf Cf) m2):Sv Er S OO σ (ZK (MS c t1 Gn) u) (GE K o kf Cf) (mc.bind λb=>if b=true then m1 else m2):=λH D w s P=>
 hc.st (Fd:=GE K o kf Cf) w s P λb H' w' s' P'=>by
  cases b with
  |true=>rw[if_pos rfl] at P'⊢;exact h1 H' _ w' s' P'
  |false=>exact h2 H' D w' s' P'
theorem Eu {c:TT}{t1:TS}{mc:Rs Bool}{m1:Rs ρ}{m2:Rs (Ctl ρ γ)}(hc:EvT Er S OO σ c mc)(h1:Sv Er S OO σ t1 (GE K o kf Cf) m1)(h2:Sv Er S OO σ u (NS K o kf Cf J) m2):Sv Er S OO σ (ZK (MS c t1 Gn) u) (NS K o kf Cf J) (mc.bind λb=>if b=true then m1.bind (λr=>.ok (.ret r)) else m2):=λH D w s P=>
 hc.st (Fd:=NS K o kf Cf J) w s P λb H' w' s' P'=>by
  cases b with
  |true=>
   rw[if_pos rfl] at P'⊢
   refine h1 H' _ w' s' ?_
   cases m1 with
   |bad=>exact P'
   |err x=>exact P'
   |ok a=>exact P'
  |false=>exact h2 H' D w' s' P'
end
end
section
variable {K:PySem.W.Frag}{Er:Exc->Hp->Prop}{S:SC}{OO:List (List Xq)}{σ:St}{α β γ ρ ι:Type}{u:TS}{Fd:Ends->β->Hp->Prop}[fd:FdOk Fd]
end
section
variable {K:PySem.W.Frag}{Er:Exc->Hp->Prop}{S:SC}{OO OO':List (List Xq)}{σ:St}{α1 α2 α3 β ρ:Type}{u:TS}
end
section
variable {h0 h:Heap}{H:Hp}{a T:Addr}{cls fl:Value}
end
section
variable {P:Program}{w:World}{K:PySem.W.Frag}{mg:Str->Option Value}{base:Heap}{N:List Str}{qual:Str}{scope:Scope}{f:Addr}{cd:Value}{A:Around}{outer:List Env}{s0:Shared}{H0:Hp}{E:XK}
end
theorem Un.but {fs ch:List Addr}{H:Hp}{h h':Heap}(k:∀b,b∉ch->h'.get? b=h.get? b):Un fs ch H H h h' where
 keep:=λb o e _ _ hx=>(k b hx).trans e
 slot:=λb o e _ _ hx=>⟨o.slots,(k b hx).trans e⟩
 free:=λ_ _ _ n _=>n
 there:=λb o e hx=>⟨o,(k b hx).trans e⟩
 tups:=λ_ _ q=>q
 frzs:=λ_ _ _ q=>q
 tbls:=λ_ ps q=>⟨#[],by simpa using q⟩
section
variable {X:Cx}{pins:List (Addr×Obj)}{σ:St}{H:Hp}{s:Shared}{N:List Str}{scope:Scope}{cl:List (Str×Addr)}{C:Addr}{fp:List Addr}{Q:Value->Shared->Prop}{acc:Value}{E:XK}{use:Option (Value->Sem Unit)}
end
section
variable {X:Cx}{elt tg iter:Expr}{ifs:List Expr}{scope:Scope}{pos:Pos}{wi:TI}{g:TG}{tt:TT}{te:TE}{E':XK}
end
section
variable {K:PySem.W.Frag}{mg:Str->Option Value}{Er:Exc->Hp->Prop}{S:SC}{OO OO':List (List Xq)}{σ:St}{α β γ ρ:Type}{u:TS}
variable {Fd:Ends->β->Hp->Prop}[fd:FdOk Fd]
end
section
noncomputable abbrev SM:=StateT SortSt Sem
noncomputable abbrev GS:=Option (Option Nat)×Nat×Nat
noncomputable def NQ (bey:Nat->SM (Option Bool))(n lo hi:Nat):SM (Option Nat):=do
 let c ←forIn [:n] ((none,lo,hi):GS) λ_ c=>
  if c.2.1≥c.2.2 then pure (.done (none,c.2.1,c.2.2)) else do
   match ←bey (c.2.1+(c.2.2-c.2.1)/2) with
   |some b=>if b=true then pure (.yield (none,c.2.1+(c.2.2-c.2.1)/2+1,c.2.2)) else pure (.yield (none,c.2.1,c.2.1+(c.2.2-c.2.1)/2))
   |_=>pure (.done (some none,c.2.1,c.2.2))
 match c.1 with
 |some r=>pure r
 |none=>pure (some c.2.2)
noncomputable def Rp (bey:Nat->SM (Option Bool))(n h:Nat):SM GS:=
 forIn [:n] ((none,0,1):GS) λ_ c=>
  if c.2.2≥n-h then pure (.done (none,c.2.1,c.2.2)) else do
   match ←bey (h+c.2.2) with
   |some b=>if(!b)=true then pure (.done (none,c.2.1,c.2.2)) else pure (.yield (none,c.2.2,2*c.2.2+1))
   |_=>pure (.done (some none,c.2.1,c.2.2))
noncomputable def Ro (bey:Nat->SM (Option Bool))(n h:Nat):SM GS:=
 forIn [:n] ((none,0,1):GS) λ_ c=>
  if c.2.2≥h+1 then pure (.done (none,c.2.1,c.2.2)) else do
   match ←bey (h-c.2.2) with
   |some b=>if b=true then pure (.done (none,c.2.1,c.2.2)) else pure (.yield (none,c.2.2,2*c.2.2+1))
   |_=>pure (.done (some none,c.2.1,c.2.2))
noncomputable def gal (bey:Nat->SM (Option Bool))(n h:Nat):SM (Option Nat):=do
 match ←bey h with
 |some b=>
  if b=true then do
   let c ←Rp bey n h
   match c.1 with
   |some r=>pure r
   |none=>NQ bey n (h+c.2.1+1) (h+min c.2.2 (n-h))
  else do
   let c ←Ro bey n h
   match c.1 with
   |some r=>pure r
   |none=>NQ bey n (h+1-min c.2.2 (h+1)) (h-c.2.1)
 |_=>pure none
noncomputable def LV (left:Bool)(key:Keyed)(arr:Array Keyed)(base i:Nat):SM (Option Bool):=do
 let x ←elem' arr (base+i)
 if left=true then lt' x key else do
  let r ←lt' key x
  pure (r.map λb=>!b)
noncomputable def ZO:Bool->Keyed->Array Keyed->Nat->Nat->Nat->SM (Option Nat):=sortPriv% PySem.Builtin.gallop
theorem He {left:Bool}{key:Keyed}{arr:Array Keyed}{base n h:Nat}:ZO left key arr base n h=gal (LV left key arr base) n h:=by
 show _=(LV left key arr base h >>= _)
 unfold ZO
 refine congrArg (LV left key arr base h >>= ·) (funext λr=>?_)
 cases r with
 |none=>rfl
 |some b=>
  cases b with
  |true=>
   refine congrArg (Rp (LV left key arr base) n h >>= ·) (funext λc=>?_)
   obtain⟨r,x,y⟩:=c
   cases r with
   |some r=>rfl
   |none=>
    refine congrArg (bind _) (funext λc=>?_)
    obtain⟨r,x,y⟩:=c
    cases r<;> rfl
  |false=>
   refine congrArg (Ro (LV left key arr base) n h >>= ·) (funext λc=>?_)
   obtain⟨r,x,y⟩:=c
   cases r with
   |some r=>rfl
   |none=>
    refine congrArg (bind _) (funext λc=>?_)
    obtain⟨r,x,y⟩:=c
    cases r<;> rfl
variable {M:Model}{A:Around}{E:Value->Shared->Prop}{s:Shared}{st:SortSt}{f:Nat->Bool}{n:Nat}{bey:Nat->SM (Option Bool)}
structure Bey (M:Model)(A:Around)(E:Value->Shared->Prop)(s:Shared)(st:SortSt)(bey:Nat->SM (Option Bool))(f:Nat->Bool)(n:Nat):Prop where
 ask:∀{i:Nat}{Q:Option Bool->SortSt->Prop},i<n->Q (some (f i)) st->wpS M A E s (bey i) Q st
 an:∀{i j:Nat},i<=j->j<n->f j=true->f i=true
structure Plc (f:Nat->Bool)(n k:Nat):Prop where
 le:k<=n
 up:∀{i:Nat},i<k->f i=true
 dn:∀{i:Nat},k<=i->i<n->f i=false
theorem Bey.up (b:Bey M A E s st bey f n){j:Nat}(hj:j<n)(h:f j=true){i:Nat}(hi:i<j+1):f i=true:=b.an (by omega) hj h
theorem Bey.dn (b:Bey M A E s st bey f n){j:Nat}(h:f j=false){i:Nat}(hi:j<=i)(hn:i<n):f i=false:=by
 cases e:f i with
 |false=>rfl
 |true=>rw[b.an hi hn e] at h;cases h
theorem Ey (b:Bey M A E s st bey f n){lo hi:Nat}{Q:Option Nat->SortSt->Prop}(h1:lo<=hi)(h2:hi<=n)(up:∀{i:Nat},i<lo->f i=true)(dn:∀{i:Nat},hi<=i->i<n->f i=false)(q:∀k,Plc f n k->Q (some k) st):wpS M A E s (NQ bey n lo hi) Q st:=by
 unfold NQ
 refine wpS_bind (wpS_mono (wpS_forRange (I:=λx c u=>u=st/\∃l r,c=(none,l,r)/\l<=r/\r<=n/\r+x<=n+l/\(∀{i:Nat},i<l->f i=true)/\∀{i:Nat},r<=i->i<n->f i=false)
  (Q:=λc u=>u=st/\∃k,c=(none,k,k)/\Plc f n k) ?_ ?_ ⟨rfl,lo,hi,rfl,h1,h2,by omega,up,dn⟩) ?_)
 ·intro x c u _ hx hI
  obtain⟨rfl,l,r,rfl,hlr,hrn,hm,up,dn⟩:=hI
  by_cases hge:l≥r
  ·have e:r=l:=by omega
   subst e
   show wpS _ _ _ _ (if r≥r then _ else _) _ _
   rw[if_pos (Nat.le_refl _)]
   exact wpS_pure ⟨rfl,r,rfl,hrn,up,dn⟩
  ·show wpS _ _ _ _ (if l≥r then _ else _) _ _
   rw[if_neg hge]
   show wpS _ _ _ _ (bey (l+(r-l)/2) >>= _) _ _
   refine wpS_bind (b.ask (by omega) ?_)
   cases e:f (l+(r-l)/2) with
   |true=>exact wpS_pure ⟨rfl,l+(r-l)/2+1,r,rfl,by omega,hrn,by omega,λhi=>b.up (by omega) e hi,dn⟩
   |false=>exact wpS_pure ⟨rfl,l,l+(r-l)/2,rfl,by omega,by omega,by omega,up,λh1 h2=>b.dn e h1 h2⟩
 ·intro c u hI
  obtain⟨rfl,l,r,rfl,hlr,hrn,hm,up,dn⟩:=hI
  have e:r=l:=by omega
  subst e
  exact⟨rfl,r,rfl,hrn,up,dn⟩
 ·intro c u hI
  obtain⟨rfl,k,rfl,hk⟩:=hI
  exact wpS_pure (q k hk)
theorem ON (b:Bey M A E s st bey f n){h:Nat}{Q:Option Nat->SortSt->Prop}(hh:h<n)(q:∀k,Plc f n k->Q (some k) st):wpS M A E s (gal bey n h) Q st:=by
 unfold gal
 refine wpS_bind (b.ask hh ?_)
 cases e:f h with
 |true=>
  refine wpS_bind (wpS_mono (wpS_forRange (I:=λx c u=>u=st/\∃l r,c=(none,l,r)/\l<r/\x<r/\h+l<n/\f (h+l)=true)
   (Q:=λc u=>u=st/\∃l r,c=(none,l,r)/\l<r/\h+l<n/\f (h+l)=true/\(n-h<=r∨h+r<n/\f (h+r)=false)) ?_ ?_ ⟨rfl,0,1,rfl,by omega,by omega,by omega,e⟩) ?_)
  ·intro x c u _ hx hI
   obtain⟨rfl,l,r,rfl,h1,h2,h3,h4⟩:=hI
   by_cases hge:r≥n-h
   ·show wpS _ _ _ _ (if r≥n-h then _ else _) _ _
    rw[if_pos hge]
    exact wpS_pure ⟨rfl,l,r,rfl,h1,h3,h4, .inl hge⟩
   ·show wpS _ _ _ _ (if r≥n-h then _ else _) _ _
    rw[if_neg hge]
    show wpS _ _ _ _ (bey (h+r) >>= _) _ _
    refine wpS_bind (b.ask (by omega) ?_)
    cases e:f (h+r) with
    |true=>exact wpS_pure ⟨rfl,r,2*r+1,rfl,by omega,by omega,by omega,e⟩
    |false=>exact wpS_pure ⟨rfl,l,r,rfl,h1,h3,h4, .inr ⟨by omega,e⟩⟩
  ·intro c u hI
   obtain⟨rfl,l,r,rfl,h1,h2,h3,h4⟩:=hI
   exact⟨rfl,l,r,rfl,h1,h3,h4, .inl (by omega)⟩
  ·intro c u hI
   obtain⟨rfl,l,r,rfl,h1,h3,h4,h5⟩:=hI
   show wpS _ _ _ _ (NQ bey n (h+l+1) (h+min r (n-h))) _ _
   refine Ey b (by omega) (by omega) (λhi=>b.up h3 h4 hi) (λh6 h7=>?_) q
   rcases h5 with z | ⟨z1,z2⟩
   ·omega
   ·exact b.dn z2 (by omega) h7
 |false=>
  refine wpS_bind (wpS_mono (wpS_forRange (I:=λx c u=>u=st/\∃l r,c=(none,l,r)/\l<r/\x<r/\l<=h/\f (h-l)=false)
   (Q:=λc u=>u=st/\∃l r,c=(none,l,r)/\l<r/\l<=h/\f (h-l)=false/\(h+1<=r∨r<=h/\f (h-r)=true)) ?_ ?_ ⟨rfl,0,1,rfl,by omega,by omega,by omega,e⟩) ?_)
  ·intro x c u _ hx hI
   obtain⟨rfl,l,r,rfl,h1,h2,h3,h4⟩:=hI
   by_cases hge:r≥h+1
   ·show wpS _ _ _ _ (if r≥h+1 then _ else _) _ _
    rw[if_pos hge]
    exact wpS_pure ⟨rfl,l,r,rfl,h1,h3,h4, .inl hge⟩
   ·show wpS _ _ _ _ (if r≥h+1 then _ else _) _ _
    rw[if_neg hge]
    show wpS _ _ _ _ (bey (h-r) >>= _) _ _
    refine wpS_bind (b.ask (by omega) ?_)
    cases e:f (h-r) with
    |true=>exact wpS_pure ⟨rfl,l,r,rfl,h1,h3,h4, .inr ⟨by omega,e⟩⟩
    |false=>exact wpS_pure ⟨rfl,r,2*r+1,rfl,by omega,by omega,by omega,e⟩
  ·intro c u hI
   obtain⟨rfl,l,r,rfl,h1,h2,h3,h4⟩:=hI
   exact⟨rfl,l,r,rfl,h1,h3,h4, .inl (by omega)⟩
  ·intro c u hI
   obtain⟨rfl,l,r,rfl,h1,h3,h4,h5⟩:=hI
   show wpS _ _ _ _ (NQ bey n (h+1-min r (h+1)) (h-l)) _ _
   refine Ey b (by omega) (by omega) (λh6=>?_) (λh6 h7=>b.dn h4 h6 h7) q
   rcases h5 with z | ⟨z1,z2⟩
   ·omega
   ·exact b.an (by omega) (by omega) z2
end
section
variable {β:Type}{lk:β->β->Bool}
noncomputable abbrev Rw (lk:β->β->Bool)(l:List β):Prop:=l.Pairwise λx y=>lk x y=true
structure MI (lk:β->β->Bool)(as bs o:List β)(i j:Nat):Prop where
 pm:o.Perm (as.take i++bs.take j)
 ra:Rw lk (o++as.drop i)
 rb:Rw lk (o++bs.drop j)
theorem MI.symm {as bs o:List β}{i j:Nat}(h:MI lk as bs o i j):MI lk bs as o j i:=⟨h.pm.trans List.perm_append_comm,h.rb,h.ra⟩
theorem MI.cat {as bs o:List β}{i j:Nat}(h:MI lk as bs o i j)(k:Nat)(q:∀x∈(as.drop i).take k,∀y∈bs.drop j,lk x y=true):MI lk as bs (o++(as.drop i).take k) (i+k) j:=by
 have e:(as.drop i).take k++as.drop (i+k)=as.drop i:=by rw[←List.drop_drop,List.take_append_drop]
 refine⟨?_,by rw[List.append_assoc,e];exact h.ra,?_⟩
 ·have e2:as.take (i+k)=as.take i++(as.drop i).take k:=List.take_add
  rw[e2]
  refine(h.pm.append_right _).trans ?_
  rw[List.append_assoc,List.append_assoc]
  exact List.perm_append_comm.append_left _
 ·have h1:=List.pairwise_append.mp (show Rw lk (o++((as.drop i).take k++as.drop (i+k))) by rw[e];exact h.ra)
  have h2:=List.pairwise_append.mp h.rb
  refine List.pairwise_append.mpr ⟨List.pairwise_append.mpr ⟨h1.1,(List.pairwise_append.mp h1.2.1).1,λx hx y hy=>h1.2.2 x hx y (List.mem_append_left _ hy)⟩,h2.2.1,λx hx y hy=>?_⟩
  rcases List.mem_append.mp hx with z |z
  ·exact h2.2.2 x z y hy
  ·exact q x z y hy
structure Fin2 (lk:β->β->Bool)(as bs r:List β):Prop where
 pm:r.Perm (as++bs)
 ri:Rw lk r
theorem MI.end {as bs o:List β}{i:Nat}(h:MI lk as bs o i bs.length):Fin2 lk as bs (o++as.drop i):=by
 refine⟨?_,h.ra⟩
 have p:=h.pm
 rw[List.take_length] at p
 refine(p.append_right _).trans ?_
 rw[List.append_assoc]
 refine(List.perm_append_comm.append_left _).trans ?_
 rw[←List.append_assoc,List.take_append_drop]
theorem MI.last {as bs o:List β}{i j:Nat}(h:MI lk as bs o i j)(hi:i+1=as.length)(q:∀z,as[i]?=some z->∀y∈bs,lk y z=true):Fin2 lk as bs (o++bs.drop j++as.drop i):=by
 have e:as.drop i=[as[i]'(by omega)]:=by rw[List.drop_eq_getElem_cons (by omega),List.drop_eq_nil_of_le (by omega)]
 have h1:=List.pairwise_append.mp h.ra
 refine⟨?_,List.pairwise_append.mpr ⟨h.rb,h1.2.1,λx hx y hy=>?_⟩⟩
 ·refine((h.pm.append_right _).append_right _).trans ?_
  rw[List.append_assoc,List.append_assoc, ←List.append_assoc (bs.take j),List.take_append_drop]
  refine(List.perm_append_comm.append_left _).trans ?_
  rw[←List.append_assoc,List.take_append_drop]
 ·rcases List.mem_append.mp hx with z |z
  ·exact h1.2.2 x z y hy
  ·rw[e] at hy
   rw[List.mem_singleton.mp hy]
   exact q _ (by simp) x (List.mem_of_mem_drop z)
structure AskE (prog:Program)(w:World)(A:Around)(E:Value->Shared->Prop)(s:Shared)(κ:SortKind)(lk:Keyed->Keyed->Bool)(a0:List Keyed):Prop where
 ask:∀{st:SortSt}{x y:Keyed}{Q:Option Bool->SortSt->Prop},kindOf st=κ->x∈a0->y∈a0->Q (some (lk x y)) st->wpS (model prog w) A E s (lt' x y) Q st
 irr:∀x,lk x x=false
 tr:∀{x y z},lk x y=true->lk y z=true->lk x z=true
 tot:∀{x y},x∈a0->y∈a0->x≠y->lk x y=true∨lk y x=true
end
section
variable {prog:Program}{w:World}{A:Around}{E:Value->Shared->Prop}{s:Shared}{κ:SortKind}{lk:Keyed->Keyed->Bool}{a0:List Keyed}{st:SortSt}
theorem AskE.not (L:AskE prog w A E s κ lk a0){x y:Keyed}(hx:x∈a0)(hy:y∈a0)(n:x≠y)(h:lk x y=false):lk y x=true:=(L.tot hx hy n).resolve_left (by rw[h];decide)
theorem XO {arr:Array Keyed}{i:Nat}{x:Keyed}{Q:Keyed->SortSt->Prop}(h:arr[i]?=some x)(q:Q x st):wpS (model prog w) A E s (elem' arr i) Q st:=by
 rw[elem'_eq,h]
 exact wpS_pure q
noncomputable def bf (lk:Keyed->Keyed->Bool)(left:Bool)(key:Keyed)(seg:List Keyed)(i:Nat):Bool:=match seg[i]? with
 |some x=>if left=true then lk x key else !lk key x
 |none=>false
theorem ZE (L:AskE prog w A E s κ lk a0){left:Bool}{key:Keyed}{arr:Array Keyed}{base n h:Nat}{seg:List Keyed}{Q:Option Nat->SortSt->Prop}(hk:kindOf st=κ)(hkey:key∈a0)(hkn:key∉seg)(hn:seg.length=n)(he:∀i<n,arr[base+i]?=seg[i]?)(hs:Rw lk seg)(hm:∀x∈seg,x∈a0)(hh:h<n)
  (q:∀k,k<=n->(∀x∈seg.take k,lk x key=true)->(∀x∈seg.drop k,lk key x=true)->Q (some k) st):wpS (model prog w) A E s (ZO left key arr base n h) Q st:=by
 subst hn
 rw[He]
 have g:∀{i:Nat} (h:i<seg.length),bf lk left key seg i=if left=true then lk seg[i] key else !lk key seg[i]:=fun {i} h=>by unfold bf;rw[List.getElem?_eq_getElem h]
 have b:Bey (model prog w) A E s st (LV left key arr base) (bf lk left key seg) seg.length:=⟨fun {i Q} hi qq=>by
  unfold LV
  refine wpS_bind (XO (x:=seg[i]) (by rw[he i hi,List.getElem?_eq_getElem hi]) ?_)
  have hx:=hm _ (List.getElem_mem hi)
  rw[g hi] at qq
  cases left with
  |true=>exact L.ask hk hx hkey qq
  |false=>exact wpS_bind (L.ask hk hkey hx (wpS_pure qq)),fun {i j} hij hj f=>by
  rcases Nat.eq_or_lt_of_le hij with z |z
  ·subst z;exact f
  ·have r:lk seg[i] seg[j]=true:=List.pairwise_iff_getElem.mp hs i j (by omega) hj z
   rw[g hj] at f
   rw[g (by omega)]
   cases left with
   |true=>exact L.tr r f
   |false=>
    cases e:lk key seg[i] with
    |false=>rfl
    |true=>rw[L.tr e r] at f;exact f⟩
 refine ON b hh λk p=>q k p.le (λx hx=>?_) λx hx=>?_
 ·obtain⟨i,hi,rfl⟩:=List.mem_take_iff_getElem.mp hx
  have hi2:i<seg.length:=by omega
  have u:=p.up (show i<k by omega)
  rw[g hi2] at u
  have hx:=hm _ (List.getElem_mem hi2)
  cases left with
  |true=>exact u
  |false=>exact L.not hkey hx (λe=>hkn (e▸List.getElem_mem hi2)) (by simpa using u)
 ·obtain⟨i,hi,rfl⟩:=List.mem_drop_iff_getElem.mp hx
  have u:=p.dn (show k<=k+i by omega) (by omega)
  rw[g (by omega)] at u
  have hx:=hm _ (List.getElem_mem (show k+i<seg.length by omega))
  cases left with
  |true=>exact L.not hx hkey (λe=>hkn (e▸List.getElem_mem _)) u
  |false=>simpa using u
end
section
structure Sm (st t:SortSt):Prop where
 k:kindOf t=kindOf st
 a:arrOf t=arrOf st
 p:pendingOf t=pendingOf st
 f:failedOf t=failedOf st
theorem Sm.refl {st:SortSt}:Sm st st:=⟨rfl,rfl,rfl,rfl⟩
noncomputable def EX:Nat->SM Unit:=sortPriv% PySem.Builtin.setMinGallop
noncomputable def Iw:Array Keyed->Array Keyed->SM (Array Keyed):=sortPriv% PySem.Builtin.mergeLo
noncomputable def H9:Array Keyed->Array Keyed->SM (Array Keyed):=sortPriv% PySem.Builtin.mergeHi
variable {prog:Program}{w:World}{A:Around}{E:Value->Shared->Prop}{s:Shared}{κ:SortKind}{lk:Keyed->Keyed->Bool}{a0:List Keyed}{st t:SortSt}
theorem Kf {g:Nat}{Q:Unit->SortSt->Prop}(S:Sm st t)(q:∀t',Sm st t'->Q () t'):wpS (model prog w) A E s (EX g) Q t:=
 wpS_modify (q _ ⟨S.k,S.a,S.p,S.f⟩)
structure Two (lk:Keyed->Keyed->Bool)(a0:List Keyed)(as bs:List Keyed):Prop where
 ra:Rw lk as
 rb:Rw lk bs
 ma:∀x∈as,x∈a0
 mb:∀x∈bs,x∈a0
 ne:∀x∈as,x∉bs
 h0:∀x∈as,∀y,bs[0]?=some y->lk y x=true
 hz:∀y∈bs,∀x,as[as.length-1]?=some x->lk y x=true
variable {as bs:List Keyed}
noncomputable abbrev L5:=Option (Array Keyed)×Array Keyed×Nat×Nat×Nat
noncomputable abbrev L6:=Option (Array Keyed)×Array Keyed×Nat×Nat×Nat×Nat
noncomputable abbrev L7:=Option (Array Keyed)×Array Keyed×Nat×Nat×Nat×Nat×Nat
structure Wy (lk:Keyed->Keyed->Bool)(as bs:List Keyed)(o:Array Keyed)(i j m:Nat):Prop where
 mi:MI lk as bs o.toList i j
 hi:i+1<as.length
 hj:j<bs.length
 hm:m<=i+j
theorem Zu {l:List Keyed}{i:Nat}(h:i<l.length):(l.drop i).take 1=[l[i]]:=by rw[List.drop_eq_getElem_cons h];rfl
theorem Y6 {a:Array Keyed}{i:Nat}:(a.extract i a.size).toList=a.toList.drop i:=by
 rw[Array.toList_extract,List.extract_eq_take_drop,List.take_of_length_le (by simp)]
theorem F6 {a:Array Keyed}{i k:Nat}:(a.extract i (i+k)).toList=(a.toList.drop i).take k:=by simp
theorem AskE.lo1 (L:AskE prog w A E s κ lk a0){a b:Array Keyed}(T:Two lk a0 a.toList b.toList){o:Array Keyed}{ia ib m mg:Nat}(W:Wy lk a.toList b.toList o ia ib m)(hk:kindOf t=κ)
  {f:Nat->L6->SM (ForInStep L6)}(hf:∀x c,f x c=(elem' b c.2.2.2.1 >>= λy=>elem' a c.2.2.1 >>= λz=>lt' y z >>= λr=>match r with
   |some b'=>if b'=true then elem' b c.2.2.2.1 >>= λy=>if(c.2.2.2.1+1==b.size)=true then pure (.done (some (c.2.1.push y++a.extract c.2.2.1 a.size++b.extract (c.2.2.2.1+1) b.size),c.2.1.push y,c.2.2.1,c.2.2.2.1+1,0,c.2.2.2.2.2+1)) else if c.2.2.2.2.2+1≥mg then pure (.done (none,c.2.1.push y,c.2.2.1,c.2.2.2.1+1,0,c.2.2.2.2.2+1)) else pure (.yield (none,c.2.1.push y,c.2.2.1,c.2.2.2.1+1,0,c.2.2.2.2.2+1))
    else elem' a c.2.2.1 >>= λy=>if(c.2.2.1+1+1==a.size)=true then pure (.done (some (c.2.1.push y++b.extract c.2.2.2.1 b.size++a.extract (c.2.2.1+1) a.size),c.2.1.push y,c.2.2.1+1,c.2.2.2.1,c.2.2.2.2.1+1,0)) else if c.2.2.2.2.1+1≥mg then pure (.done (none,c.2.1.push y,c.2.2.1+1,c.2.2.2.1,c.2.2.2.2.1+1,0)) else pure (.yield (none,c.2.1.push y,c.2.2.1+1,c.2.2.2.1,c.2.2.2.2.1+1,0))
   |_=>pure (.done (some (c.2.1++a.extract c.2.2.1 a.size++b.extract c.2.2.2.1 b.size),c.2.1,c.2.2.1,c.2.2.2.1,c.2.2.2.2.1,c.2.2.2.2.2))))
  {Q:L6->SortSt->Prop}(q1:∀r o i j x y,Fin2 lk a.toList b.toList r.toList->Q (some r,o,i,j,x,y) t)(q2:∀o i j x y,Wy lk a.toList b.toList o i j (m+1)->Q (none,o,i,j,x,y) t):wpS (model prog w) A E s (forIn [:a.size+b.size] ((none,o,ia,ib,0,0):L6) f) Q t:=by
 refine wpS_forRange (I:=λx c u=>u=t/\∃o i j p q,c=(none,o,i,j,p,q)/\Wy lk a.toList b.toList o i j (m+x)) ?_ ?_ ⟨rfl,o,ia,ib,0,0,rfl,W⟩
 ·intro x c u _ hx hI
  obtain⟨rfl,o,i,j,p,q,rfl,W⟩:=hI
  have hi:=W.hi
  have hj:=W.hj
  have hm:=W.hm
  have ha:a.toList.length=a.size:=Array.length_toList
  have hb:b.toList.length=b.size:=Array.length_toList
  have ea:a[i]?=some a.toList[i]:=by simp
  have eb:b[j]?=some b.toList[j]:=by simp
  have xa:=T.ma _ (List.getElem_mem (show i<a.toList.length by omega))
  have xb:=T.mb _ (List.getElem_mem hj)
  rw[hf]
  refine wpS_bind (XO eb (wpS_bind (XO ea (wpS_bind (L.ask hk xb xa ?_)))))
  cases e:lk b.toList[j] a.toList[i] with
  |true=>
   refine wpS_bind (XO eb ?_)
   have M:MI lk a.toList b.toList (o.push b.toList[j]).toList i (j+1):=by
    have:=W.mi.symm.cat 1 λy hy z hz=>by
     rw[Zu hj] at hy
     rw[List.mem_singleton.mp hy]
     rw[List.drop_eq_getElem_cons (by omega)] at hz
     rcases List.mem_cons.mp hz with rfl |hz
     ·exact e
     ·obtain⟨u,hu,rfl⟩:=List.mem_drop_iff_getElem.mp hz
      exact L.tr e (List.pairwise_iff_getElem.mp T.ra i _ (by omega) _ (by omega))
    rw[Zu hj] at this
    rw[Array.toList_push]
    exact this.symm
   by_cases z:j+1=b.size
   ·show wpS _ _ _ _ (if(j+1==b.size)=true then _ else _) _ _
    rw[if_pos (by simpa using z)]
    refine wpS_pure (q1 _ _ _ _ _ _ ?_)
    show Fin2 lk _ _ (o.push b.toList[j]++a.extract i a.size++b.extract (j+1) b.size).toList
    rw[Array.toList_append,Array.toList_append,Y6,Y6,List.drop_eq_nil_of_le (as:=b.toList) (by omega),List.append_nil]
    rw[z, ←hb] at M
    exact M.end
   ·show wpS _ _ _ _ (if(j+1==b.size)=true then _ else _) _ _
    rw[if_neg (by simpa using z)]
    have W':∀{m'},m'<=i+j+1->Wy lk a.toList b.toList (o.push b.toList[j]) i (j+1) m':=λh=>⟨M,hi,by omega,by omega⟩
    show wpS _ _ _ _ (if q+1≥mg then _ else _) _ _
    split
    ·exact wpS_pure (q2 _ _ _ _ _ (W' (by omega)))
    ·exact wpS_pure ⟨rfl,_,_,_,_,_,rfl,W' (by omega)⟩
  |false=>
   have e':=L.not xb xa (λz=>T.ne _ (List.getElem_mem (show i<a.toList.length by omega)) (z▸List.getElem_mem hj)) e
   refine wpS_bind (XO ea ?_)
   have M:MI lk a.toList b.toList (o.push a.toList[i]).toList (i+1) j:=by
    have:=W.mi.cat 1 λy hy z hz=>by
     rw[Zu (by omega)] at hy
     rw[List.mem_singleton.mp hy]
     rw[List.drop_eq_getElem_cons hj] at hz
     rcases List.mem_cons.mp hz with rfl |hz
     ·exact e'
     ·obtain⟨u,hu,rfl⟩:=List.mem_drop_iff_getElem.mp hz
      exact L.tr e' (List.pairwise_iff_getElem.mp T.rb j _ (by omega) _ (by omega))
    rw[Zu (by omega)] at this
    rw[Array.toList_push]
    exact this
   by_cases z:i+1+1=a.size
   ·show wpS _ _ _ _ (if(i+1+1==a.size)=true then _ else _) _ _
    rw[if_pos (by simpa using z)]
    refine wpS_pure (q1 _ _ _ _ _ _ ?_)
    rw[Array.toList_append,Array.toList_append,Y6,Y6]
    exact M.last (by omega) λx hx y hy=>T.hz y hy x (by rw[show a.toList.length-1=i+1 by omega];exact hx)
   ·show wpS _ _ _ _ (if(i+1+1==a.size)=true then _ else _) _ _
    rw[if_neg (by simpa using z)]
    have W':∀{m'},m'<=i+j+1->Wy lk a.toList b.toList (o.push a.toList[i]) (i+1) j m':=λh=>⟨M,by omega,hj,by omega⟩
    show wpS _ _ _ _ (if p+1≥mg then _ else _) _ _
    split
    ·exact wpS_pure (q2 _ _ _ _ _ (W' (by omega)))
    ·exact wpS_pure ⟨rfl,_,_,_,_,_,rfl,W' (by omega)⟩
 ·intro c u hI
  obtain⟨rfl,o,i,j,p,q,rfl,W⟩:=hI
  have hi:=W.hi
  have hj:=W.hj
  have hm:=W.hm
  have ha:a.toList.length=a.size:=Array.length_toList
  have hb:b.toList.length=b.size:=Array.length_toList
  omega
end
section
noncomputable def j4 (a b o:Array Keyed)(i j g p q:Nat):SM (ForInStep L7):=elem' a i >>= λz=>
 if(i+1+1==a.size)=true then pure (.done (some (o.push z++b.extract j b.size++a.extract (i+1) a.size),o.push z,i+1,j,g,p,q))
 else if(decide (p<7)&&decide (q<7))=true then pure (.done (none,o.push z,i+1,j,g,p,q)) else pure (.yield (none,o.push z,i+1,j,g,p,q))
noncomputable def j3 (a b o:Array Keyed)(i j g p q:Nat):SM (ForInStep L7):=elem' b j >>= λy=>
 if(j+1==b.size)=true then pure (.done (some (o.push y++a.extract i a.size++b.extract (j+1) b.size),o.push y,i,j+1,g,p,q))
 else elem' a i >>= λz=>ZO true z b (j+1) (b.size-(j+1)) 0 >>= λr=>match r with
  |some k=>if k > 0 then if(j+1+k==b.size)=true then pure (.done (some (o.push y++b.extract (j+1) (j+1+k)++a.extract i a.size++b.extract (j+1+k) b.size),o.push y++b.extract (j+1) (j+1+k),i,j+1+k,g,p,k)) else j4 a b (o.push y++b.extract (j+1) (j+1+k)) i (j+1+k) g p k
   else j4 a b (o.push y) i (j+1) g p k
  |_=>pure (.done (some (o.push y++a.extract i a.size++b.extract (j+1) b.size),o.push y,i,j+1,g,p,q))
noncomputable def j2 (a b o:Array Keyed)(i j g p q:Nat):SM (ForInStep L7):=EX g >>= λ_=>elem' b j >>= λy=>ZO false y a i (a.size-i) 0 >>= λr=>match r with
  |some k=>if k > 0 then if(i+k+1==a.size)=true then pure (.done (some (o++a.extract i (i+k)++b.extract j b.size++a.extract (i+k) a.size),o++a.extract i (i+k),i+k,j,g,k,q)) else if(i+k==a.size)=true then pure (.done (some (o++a.extract i (i+k)++a.extract (i+k) a.size++b.extract j b.size),o++a.extract i (i+k),i+k,j,g,k,q)) else j3 a b (o++a.extract i (i+k)) (i+k) j g k q
   else j3 a b o i j g k q
  |_=>pure (.done (some (o++a.extract i a.size++b.extract j b.size),o,i,j,g,p,q))
variable {prog:Program}{w:World}{A:Around}{E:Value->Shared->Prop}{s:Shared}{κ:SortKind}{lk:Keyed->Keyed->Bool}{a0:List Keyed}{st t:SortSt}{a b o:Array Keyed}{i j g p q m:Nat}{R:ForInStep L7->SortSt->Prop}
structure Aft (lk:Keyed->Keyed->Bool)(st:SortSt)(a b:Array Keyed)(m:Nat)(R:ForInStep L7->SortSt->Prop):Prop where
 fin:∀{r o i j g x y u},Sm st u->Fin2 lk a.toList b.toList r.toList->R (.done (some r,o,i,j,g,x,y)) u
 dn:∀{o i j g x y u},Sm st u->Wy lk a.toList b.toList o i j (m+1)->R (.done (none,o,i,j,g,x,y)) u
 yd:∀{o i j g x y u},Sm st u->Wy lk a.toList b.toList o i j (m+1)->R (.yield (none,o,i,j,g,x,y)) u
theorem Rw.head {l:List Keyed}(L:AskE prog w A E s κ lk a0)(h:Rw lk l){y:Keyed}(hi:i<l.length)(e:lk y l[i]=true):∀z∈l.drop i,lk y z=true:=λz hz=>by
 rw[List.drop_eq_getElem_cons hi] at hz
 rcases List.mem_cons.mp hz with rfl |hz
 ·exact e
 ·obtain⟨u,hu,rfl⟩:=List.mem_drop_iff_getElem.mp hz
  exact L.tr e (List.pairwise_iff_getElem.mp h i _ hi _ (by omega))
theorem MI.push {as bs:List Keyed}(M:MI lk as bs o.toList i j)(hi:i<as.length)(h:∀y∈bs.drop j,lk as[i] y=true):MI lk as bs (o.push as[i]).toList (i+1) j:=by
 have:=M.cat 1 λx hx=>by
  rw[Zu hi] at hx
  rw[List.mem_singleton.mp hx]
  exact h
 rw[Zu hi] at this
 rw[Array.toList_push]
 exact this
theorem Pg (T:Two lk a0 a.toList b.toList)(S:Sm st t)(W:Wy lk a.toList b.toList o i j m)(h:∀y∈b.toList.drop j,lk (a.toList[i]'(by have:=W.hi;omega)) y=true)(F:Aft lk st a b m R):wpS (model prog w) A E s (j4 a b o i j g p q) R t:=by
 have hi:=W.hi
 have hj:=W.hj
 have hm:=W.hm
 have ha:a.toList.length=a.size:=Array.length_toList
 have M:=W.mi.push (by omega) h
 unfold j4
 refine wpS_bind (XO (x:=a.toList[i]) (by simp) ?_)
 by_cases z:i+1+1=a.size
 ·rw[if_pos (by simpa using z)]
  refine wpS_pure (F.fin S ?_)
  rw[Array.toList_append,Array.toList_append,Y6,Y6]
  exact M.last (by omega) λx hx y hy=>T.hz y hy x (by rw[show a.toList.length-1=i+1 by omega];exact hx)
 ·rw[if_neg (by simpa using z)]
  have W':Wy lk a.toList b.toList (o.push a.toList[i]) (i+1) j (m+1):=⟨M,by omega,hj,by omega⟩
  split
  ·exact wpS_pure (F.dn S W')
  ·exact wpS_pure (F.yd S W')
theorem Fw {as bs:List Keyed}(M:MI lk as bs o.toList i j)(e:as=a.toList)(e2:bs=b.toList)(h:j=b.size):Fin2 lk a.toList b.toList (o++a.extract i a.size++b.extract j b.size).toList:=by
 subst e e2 h
 rw[Array.toList_append,Array.toList_append,Y6,Y6,List.drop_eq_nil_of_le (as:=b.toList) (by simp),List.append_nil]
 rw[←Array.length_toList] at M
 exact M.end
theorem OM (L:AskE prog w A E s κ lk a0)(hk:kindOf st=κ)(T:Two lk a0 a.toList b.toList)(S:Sm st t)(W:Wy lk a.toList b.toList o i j m)(h:∀x∈a.toList.drop i,lk (b.toList[j]'W.hj) x=true)(F:Aft lk st a b m R):wpS (model prog w) A E s (j3 a b o i j g p q) R t:=by
 have hi:=W.hi
 have hj:=W.hj
 have hm:=W.hm
 have ha:a.toList.length=a.size:=Array.length_toList
 have hb:b.toList.length=b.size:=Array.length_toList
 have M:=(W.mi.symm.push hj h).symm
 have i1:i<a.toList.length:=by omega
 unfold j3
 refine wpS_bind (XO (x:=b.toList[j]) (by simp) ?_)
 by_cases z:j+1=b.size
 ·rw[if_pos (by simpa using z)]
  exact wpS_pure (F.fin S (Fw M rfl rfl z))
 ·rw[if_neg (by simpa using z)]
  refine wpS_bind (XO (x:=a.toList[i]) (by simp) ?_)
  have xa:=List.getElem_mem i1
  refine wpS_bind (ZE L (seg:=b.toList.drop (j+1)) (S.k.trans hk) (T.ma _ xa) (λe=>T.ne _ xa (List.mem_of_mem_drop e)) (by simp) (λu hu=>by simp) (List.Pairwise.sublist (List.drop_sublist _ _) T.rb) (λx hx=>T.mb x (List.mem_of_mem_drop hx)) (by omega) λk hkn k1 k2=>?_)
  rw[List.drop_drop] at k2
  by_cases hk0:k > 0
  ·show wpS _ _ _ _ (if k > 0 then _ else _) _ _
   rw[if_pos hk0]
   have M2:MI lk a.toList b.toList (o.push b.toList[j]++b.extract (j+1) (j+1+k)).toList i (j+1+k):=by
    rw[Array.toList_append,F6]
    exact(M.symm.cat k λx hx y hy=>Rw.head (y:=x) L T.ra i1 (k1 x hx) y hy).symm
   by_cases z2:j+1+k=b.size
   ·rw[if_pos (by simpa using z2)]
    exact wpS_pure (F.fin S (Fw M2 rfl rfl z2))
   ·rw[if_neg (by simpa using z2)]
    exact Pg T S ⟨M2,hi,by omega,by omega⟩ k2 F
  ·show wpS _ _ _ _ (if k > 0 then _ else _) _ _
   rw[if_neg hk0]
   have:k=0:=by omega
   subst this
   exact Pg T S ⟨M,hi,by omega,by omega⟩ k2 F
theorem Rl (L:AskE prog w A E s κ lk a0)(hk:kindOf st=κ)(T:Two lk a0 a.toList b.toList)(S:Sm st t)(W:Wy lk a.toList b.toList o i j m)(F:Aft lk st a b m R):wpS (model prog w) A E s (j2 a b o i j g p q) R t:=by
 have hi:=W.hi
 have hj:=W.hj
 have hm:=W.hm
 have ha:a.toList.length=a.size:=Array.length_toList
 have hb:b.toList.length=b.size:=Array.length_toList
 have xb:=List.getElem_mem hj
 unfold j2
 refine wpS_bind (Kf S λt S=>wpS_bind (XO (x:=b.toList[j]) (by simp) ?_))
 refine wpS_bind (ZE L (seg:=a.toList.drop i) (S.k.trans hk) (T.mb _ xb) (λe=>T.ne _ (List.mem_of_mem_drop e) xb) (by simp) (λu hu=>by simp) (List.Pairwise.sublist (List.drop_sublist _ _) T.ra) (λx hx=>T.ma x (List.mem_of_mem_drop hx)) (by omega) λk hkn k1 k2=>?_)
 rw[List.drop_drop] at k2
 have kl:i+k<a.size:=by
  rcases Nat.lt_or_ge (i+k) a.size with z |z
  ·exact z
  ·have l1:=T.hz _ xb (a.toList[a.toList.length-1]'(by omega)) (by simp)
   have l2:=k1 (a.toList[a.toList.length-1]'(by omega)) (List.mem_take_iff_getElem.mpr ⟨a.toList.length-1-i,by simp;omega,by
    rw[List.getElem_drop];congr 1;omega⟩)
   have:=L.tr l1 l2
   rw[L.irr] at this
   cases this
 by_cases hk0:k > 0
 ·show wpS _ _ _ _ (if k > 0 then _ else _) _ _
  rw[if_pos hk0]
  have M2:MI lk a.toList b.toList (o++a.extract i (i+k)).toList (i+k) j:=by
   rw[Array.toList_append,F6]
   exact W.mi.cat k λx hx y hy=>Rw.head (y:=x) L T.rb hj (k1 x hx) y hy
  by_cases z:i+k+1=a.size
  ·rw[if_pos (by simpa using z)]
   refine wpS_pure (F.fin S ?_)
   rw[Array.toList_append,Array.toList_append,Y6,Y6]
   exact M2.last (by omega) λx hx y hy=>T.hz y hy x (by rw[show a.toList.length-1=i+k by omega];exact hx)
  ·rw[if_neg (by simpa using z),if_neg (by simp;omega)]
   exact OM L hk T S ⟨M2,by omega,hj,by omega⟩ k2 F
 ·show wpS _ _ _ _ (if k > 0 then _ else _) _ _
  rw[if_neg hk0]
  have:k=0:=by omega
  subst this
  exact OM L hk T S W k2 F
theorem Ck (L:AskE prog w A E s κ lk a0)(hk:kindOf st=κ)(T:Two lk a0 a.toList b.toList)(na:0<a.size)(nb:0<b.size){Q:Array Keyed->SortSt->Prop}(q:∀r t,Sm st t->Fin2 lk a.toList b.toList r.toList->Q r t):wpS (model prog w) A E s (Iw a b) Q st:=by
 have ha:a.toList.length=a.size:=Array.length_toList
 have hb:b.toList.length=b.size:=Array.length_toList
 have j0:0<b.toList.length:=by omega
 have M:MI lk a.toList b.toList #[b.toList[0]].toList 0 1:=by
  have e: [b.toList[0]]++b.toList.drop 1=b.toList:=by rw[show[b.toList[0]]++b.toList.drop 1=b.toList[0]::b.toList.drop (0+1) from rfl, ←List.drop_eq_getElem_cons j0];rfl
  refine⟨?_,List.pairwise_cons.mpr ⟨λx hx=>T.h0 x hx _ (by simp),T.ra⟩,by rw[e];exact T.rb⟩
  rw[List.take_zero,List.nil_append,show(1:Nat)=0+1 from rfl,List.take_succ_eq_append_getElem j0]
  exact List.Perm.refl _
 show wpS _ _ _ _ (liftM (rule _) >>= _) _ _
 refine wpS_bind (wpS_lift (wpAny_rule ⟨rfl,?_⟩))
 show wpS _ _ _ _ (elem' b 0 >>= _) _ _
 refine wpS_bind (XO (x:=b.toList[0]) (by simp) ?_)
 show wpS _ _ _ _ (if(1==b.size)=true then _ else _) _ _
 by_cases z:1=b.size
 ·rw[if_pos (by simpa using z)]
  exact wpS_pure (q _ _ .refl (Fw (o:=#[b.toList[0]]) M rfl rfl z))
 ·rw[if_neg (by simpa using z)]
  show wpS _ _ _ _ (if(0+1==a.size)=true then _ else _) _ _
  by_cases y:0+1=a.size
  ·rw[if_pos (by simpa using y)]
   refine wpS_pure (q _ _ .refl ?_)
   show Fin2 lk _ _ (#[b.toList[0]]++b.extract 1 b.size++a.extract 0 a.size).toList
   rw[Array.toList_append,Array.toList_append,Y6,Y6]
   exact M.last (by omega) λx hx y hy=>T.hz y hy x (by rw[show a.toList.length-1=0 by omega];exact hx)
  ·rw[if_neg (by simpa using y)]
   show wpS _ _ _ _ (get >>= _) _ _
   refine wpS_bind (wpS_get ?_)
   show wpS _ _ _ _ (forIn [:a.size+b.size] ((none, #[b.toList[0]],0,1,gallopOf st):L5) _ >>= _) _ _
   refine wpS_bind (wpS_mono (wpS_forRange (I:=λx c t=>Sm st t/\∃o i j g,c=(none,o,i,j,g)/\Wy lk a.toList b.toList o i j (x+1)) (Q:=λc t=>Sm st t/\∃r,c.1=some r/\Fin2 lk a.toList b.toList r.toList) ?_ ?_ ⟨.refl,_,0,1,_,rfl,M,by omega,by omega,by omega⟩) ?_)
   ·intro x c t _ hx hI
    obtain⟨S,o,i,j,g,rfl,W⟩:=hI
    show wpS _ _ _ _ (forIn [:a.size+b.size] ((none,o,i,j,0,0):L6) _ >>= _) _ _
    refine wpS_bind (L.lo1 T W (S.k.trans hk) (λ_ _=>rfl) (λr o i j x y h=>?_) λo i j x' y W=>?_)
    ·exact wpS_pure ⟨S,r,rfl,h⟩
    ·show wpS _ _ _ _ (liftM (rule _) >>= _) _ _
     refine wpS_bind (wpS_lift (wpAny_rule ⟨rfl,?_⟩))
     show wpS _ _ _ _ (forIn [:a.size+b.size] ((none,o,i,j,g+1,x',y):L7) _ >>= _) _ _
     refine wpS_bind (wpS_mono (wpS_forRange (I:=λv c t=>Sm st t/\∃o i j g p q,c=(none,o,i,j,g,p,q)/\Wy lk a.toList b.toList o i j (x+1+1+v)) (Q:=λc t=>Sm st t/\((∃r,c.1=some r/\Fin2 lk a.toList b.toList r.toList)∨∃o i j g p q,c=(none,o,i,j,g,p,q)/\Wy lk a.toList b.toList o i j (x+1+1))) ?_ ?_ ⟨S,_,_,_,_,_,_,rfl,W⟩) ?_)
     ·intro v c t _ hv hI
      obtain⟨S,o,i,j,g,p,q,rfl,W⟩:=hI
      have F:Aft lk st a b (x+1+1+v) (λr st'=>match r with
       | .done c'=>Sm st st'/\((∃r,c'.1=some r/\Fin2 lk a.toList b.toList r.toList)∨∃o i j g p q,c'=(none,o,i,j,g,p,q)/\Wy lk a.toList b.toList o i j (x+1+1))
       | .yield c'=>Sm st st'/\∃o i j g p q,c'=(none,o,i,j,g,p,q)/\Wy lk a.toList b.toList o i j (x+1+1+(v+1))):=⟨λS h=>⟨S, .inl ⟨_,rfl,h⟩⟩,λS W=>⟨S, .inr ⟨_,_,_,_,_,_,rfl,W.mi,W.hi,W.hj,by have:=W.hm;omega⟩⟩,λS W=>⟨S,_,_,_,_,_,_,rfl,W⟩⟩
      have k2:∀g',wpS (model prog w) A E s (j2 a b o i j g' p q) _ t:=λg'=>Rl L hk T S W F
      show wpS _ _ _ _ (if g > 1 then _ else _) _ _
      split
      ·exact wpS_mono (k2 (g-1)) λr t' h=>by cases r<;> exact h
      ·exact wpS_mono (k2 g) λr t' h=>by cases r<;> exact h
     ·intro c t hI
      obtain⟨S,o,i,j,g,p,q,rfl,W⟩:=hI
      have:=W.hi
      have:=W.hj
      have:=W.hm
      omega
     ·intro c t hI
      obtain⟨r,o,i,j,g,p,q⟩:=c
      obtain⟨S,hI⟩:=hI
      rcases hI with⟨r,rfl,h⟩ | ⟨o,i,j,g,p,q,e,W⟩
      ·exact wpS_pure ⟨S,r,rfl,h⟩
      ·cases e
       show wpS _ _ _ _ (EX (g+1) >>= _) _ _
       exact wpS_bind (Kf S λt S=>wpS_pure ⟨S,_,_,_,_,rfl,W⟩)
   ·intro c t hI
    obtain⟨S,o,i,j,g,rfl,W⟩:=hI
    have:=W.hi
    have:=W.hj
    have:=W.hm
    omega
   ·intro c t hI
    obtain⟨r,o,i,j,g⟩:=c
    obtain⟨S,r,rfl,h⟩:=hI
    exact wpS_pure (q r t S h)
end
section
variable {prog:Program}{w:World}{A:Around}{E:Value->Shared->Prop}{s:Shared}{κ:SortKind}{lk:Keyed->Keyed->Bool}{a0:List Keyed}{st t:SortSt}{a b:Array Keyed}{as bs o:List Keyed}{i j na nb k:Nat}
noncomputable def MH (lk:Keyed->Keyed->Bool)(as bs o:List Keyed)(na nb:Nat):Prop:=MI (λx y=>lk y x) bs.reverse as.reverse o (bs.length-nb) (as.length-na)
theorem MH.symm (h:MH lk as bs o na nb):MH lk bs as o nb na:=MI.symm h
theorem VQ {l:List Keyed}{m:Nat}(h:m<=l.length):l.reverse.drop (l.length-m)=(l.take m).reverse:=by rw[List.drop_reverse];congr 2;omega
theorem MH.cat (h:MH lk as bs o na nb)(h1:k<=nb)(h2:nb<=bs.length)(h3:na<=as.length)(q:∀x∈(bs.take nb).drop k,∀y∈as.take na,lk y x=true):MH lk as bs (o++((bs.take nb).drop k).reverse) na k:=by
 have e:(bs.reverse.drop (bs.length-nb)).take (nb-k)=((bs.take nb).drop k).reverse:=by
  rw[VQ h2,List.take_reverse]
  congr 2
  rw[List.length_take];omega
 have:=MI.cat h (nb-k) λx hx y hy=>by
  rw[e] at hx
  rw[VQ h3] at hy
  exact q x (List.mem_reverse.mp hx) y (List.mem_reverse.mp hy)
 rw[e,show bs.length-nb+(nb-k)=bs.length-k by omega] at this
 exact this
theorem Fin2.rev {r:List Keyed}(h:Fin2 (λx y=>lk y x) bs.reverse as.reverse r):Fin2 lk as bs r.reverse:=by
 refine⟨(List.reverse_perm _).trans (h.pm.trans ?_),List.pairwise_reverse.mpr h.ri⟩
 exact((List.reverse_perm _).append (List.reverse_perm _)).trans List.perm_append_comm
theorem MH.end (h:MH lk as bs o 0 nb)(h2:nb<=bs.length):Fin2 lk as bs (bs.take nb++o.reverse):=by
 have h':MI (λx y=>lk y x) bs.reverse as.reverse o (bs.length-nb) as.reverse.length:=by rw[List.length_reverse];exact h
 have:=h'.end.rev
 rw[VQ h2,List.reverse_append,List.reverse_reverse] at this
 exact this
theorem MH.last (h:MH lk as bs o na 1)(h1:1<=bs.length)(h3:na<=as.length)(q:∀z,bs[0]?=some z->∀y∈as,lk z y=true):Fin2 lk as bs (bs.take 1++as.take na++o.reverse):=by
 have:=(MI.last h (by rw[List.length_reverse];omega) λz hz y hy=>q z (by
  rw[List.getElem?_reverse (by omega)] at hz
  rw[←hz];congr 1;omega) y (List.mem_reverse.mp hy)).rev
 rw[VQ h1,VQ h3,List.reverse_append,List.reverse_append,List.reverse_reverse,List.reverse_reverse, ←List.append_assoc] at this
 exact this
theorem Dm {n:Nat}:(a.extract 0 n).toList=a.toList.take n:=by simp
theorem LA {n m:Nat}:(a.extract m n).reverse.toList=((a.toList.take n).drop m).reverse:=by simp[List.drop_take]
theorem Rw.tail {l:List Keyed}(L:AskE prog w A E s κ lk a0)(h:Rw lk l){y:Keyed}(hi:i<l.length)(e:lk l[i] y=true):∀z∈l.take (i+1),lk z y=true:=λz hz=>by
 obtain⟨u,hu,rfl⟩:=List.mem_take_iff_getElem.mp hz
 rcases Nat.lt_or_ge u i with z |z
 ·exact L.tr (List.pairwise_iff_getElem.mp h u i _ hi z) e
 ·have:u=i:=by omega
  subst this
  exact e
theorem LH {l:List Keyed}(hi:i<l.length):(l.take (i+1)).drop i=[l[i]]:=by
 rw[List.drop_take,show i+1-i=1 by omega,Zu hi]
structure Wh (lk:Keyed->Keyed->Bool)(as bs:List Keyed)(o:Array Keyed)(na nb m:Nat):Prop where
 mi:MH lk as bs o.toList na nb
 a1:0<na
 a2:na<=as.length
 b1:1<nb
 b2:nb<=bs.length
 hm:m+na+nb<=as.length+bs.length
noncomputable abbrev H5:=Option (Array Keyed)×Nat×Nat×Array Keyed×Nat
noncomputable abbrev H6:=Option (Array Keyed)×Nat×Nat×Array Keyed×Nat×Nat
noncomputable abbrev H7:=Option (Array Keyed)×Nat×Nat×Array Keyed×Nat×Nat×Nat
variable {o:Array Keyed}{g p q m:Nat}{R:ForInStep H7->SortSt->Prop}
theorem MH.push (M:MH lk as bs o.toList na (nb+1))(h2:nb+1<=bs.length)(h3:na<=as.length)(h:∀y∈as.take na,lk y (bs[nb]'(by omega))=true):MH lk as bs (o.push (bs[nb]'(by omega))).toList na nb:=by
 have:=M.cat (k:=nb) (by omega) h2 h3 λx hx=>by
  rw[LH (by omega)] at hx
  rw[List.mem_singleton.mp hx]
  exact h
 rw[LH (by omega)] at this
 rw[Array.toList_push]
 exact this
theorem FM (M:MH lk a.toList b.toList o.toList na nb)(h:na=0)(h2:nb<=b.size):Fin2 lk a.toList b.toList (a.extract 0 na++b.extract 0 nb++o.reverse).toList:=by
 subst h
 rw[Array.toList_append,Array.toList_append,Dm,Dm,Array.toList_reverse,List.take_zero,List.nil_append]
 exact M.end (by rw[Array.length_toList];exact h2)
theorem Ky (T:Two lk a0 a.toList b.toList)(M:MH lk a.toList b.toList o.toList na nb)(h:nb=1)(h1:1<=b.size)(h3:na<=a.size):Fin2 lk a.toList b.toList (b.extract 0 nb++a.extract 0 na++o.reverse).toList:=by
 subst h
 rw[Array.toList_append,Array.toList_append,Dm,Dm,Array.toList_reverse]
 exact M.last (by rw[Array.length_toList];exact h1) (by rw[Array.length_toList];exact h3) λz hz y hy=>T.h0 y hy z hz
theorem AskE.hi1 (L:AskE prog w A E s κ lk a0)(T:Two lk a0 a.toList b.toList){mg:Nat}(W:Wh lk a.toList b.toList o na nb m)(hk:kindOf t=κ)
  {f:Nat->H6->SM (ForInStep H6)}(hf:∀x c,f x c=(elem' b (c.2.2.1-1) >>= λy=>elem' a (c.2.1-1) >>= λz=>lt' y z >>= λr=>match r with
   |some b'=>if b'=true then elem' a (c.2.1-1) >>= λy=>if(c.2.1-1==0)=true then pure (.done (some (a.extract 0 (c.2.1-1)++b.extract 0 c.2.2.1++(c.2.2.2.1.push y).reverse),c.2.1-1,c.2.2.1,c.2.2.2.1.push y,c.2.2.2.2.1+1,0)) else if c.2.2.2.2.1+1≥mg then pure (.done (none,c.2.1-1,c.2.2.1,c.2.2.2.1.push y,c.2.2.2.2.1+1,0)) else pure (.yield (none,c.2.1-1,c.2.2.1,c.2.2.2.1.push y,c.2.2.2.2.1+1,0))
    else elem' b (c.2.2.1-1) >>= λy=>if(c.2.2.1-1==1)=true then pure (.done (some (b.extract 0 (c.2.2.1-1)++a.extract 0 c.2.1++(c.2.2.2.1.push y).reverse),c.2.1,c.2.2.1-1,c.2.2.2.1.push y,0,c.2.2.2.2.2+1)) else if c.2.2.2.2.2+1≥mg then pure (.done (none,c.2.1,c.2.2.1-1,c.2.2.2.1.push y,0,c.2.2.2.2.2+1)) else pure (.yield (none,c.2.1,c.2.2.1-1,c.2.2.2.1.push y,0,c.2.2.2.2.2+1))
   |_=>pure (.done (some (a.extract 0 c.2.1++b.extract 0 c.2.2.1++c.2.2.2.1.reverse),c.2.1,c.2.2.1,c.2.2.2.1,c.2.2.2.2.1,c.2.2.2.2.2))))
  {Q:H6->SortSt->Prop}(q1:∀r i j o x y,Fin2 lk a.toList b.toList r.toList->Q (some r,i,j,o,x,y) t)(q2:∀i j o x y,Wh lk a.toList b.toList o i j (m+1)->Q (none,i,j,o,x,y) t):wpS (model prog w) A E s (forIn [:a.size+b.size] ((none,na,nb,o,0,0):H6) f) Q t:=by
 have ha:a.toList.length=a.size:=Array.length_toList
 have hb:b.toList.length=b.size:=Array.length_toList
 refine wpS_forRange (I:=λx c u=>u=t/\∃o i j p q,c=(none,i,j,o,p,q)/\Wh lk a.toList b.toList o i j (m+x)) ?_ ?_ ⟨rfl,o,na,nb,0,0,rfl,W⟩
 ·intro x c u _ hx hI
  obtain⟨rfl,o,i,j,p,q,rfl,W⟩:=hI
  obtain⟨M,w1,w2,w3,w4,w5⟩:=W
  obtain⟨i,rfl⟩:∃n,i=n+1:=⟨i-1,by omega⟩
  obtain⟨j,rfl⟩:∃n,j=n+1:=⟨j-1,by omega⟩
  have i1:i<a.toList.length:=by omega
  have j1:j<b.toList.length:=by omega
  have ea:a[i+1-1]?=some a.toList[i]:=by simp
  have eb:b[j+1-1]?=some b.toList[j]:=by simp
  have xa:=T.ma _ (List.getElem_mem i1)
  have xb:=T.mb _ (List.getElem_mem j1)
  rw[hf]
  refine wpS_bind (XO eb (wpS_bind (XO ea (wpS_bind (L.ask hk xb xa ?_)))))
  cases e:lk b.toList[j] a.toList[i] with
  |true=>
   refine wpS_bind (XO ea ?_)
   have M2:MH lk a.toList b.toList (o.push a.toList[i]).toList i (j+1):=(M.symm.push w2 w4 (Rw.tail L T.rb j1 e)).symm
   by_cases z:i=0
   ·show wpS _ _ _ _ (if(i+1-1==0)=true then _ else _) _ _
    rw[if_pos (by simpa using z)]
    exact wpS_pure (q1 _ _ _ _ _ _ (FM M2 z (by omega)))
   ·show wpS _ _ _ _ (if(i+1-1==0)=true then _ else _) _ _
    rw[if_neg (by simpa using z)]
    have W':∀{m'},m'<=m+x+1->Wh lk a.toList b.toList (o.push a.toList[i]) i (j+1) m':=λh=>⟨M2,by omega,by omega,w3,w4,by omega⟩
    show wpS _ _ _ _ (if p+1≥mg then _ else _) _ _
    split
    ·exact wpS_pure (q2 _ _ _ _ _ (W' (by omega)))
    ·exact wpS_pure ⟨rfl,_,_,_,_,_,rfl,W' (by omega)⟩
  |false=>
   have e':=L.not xb xa (λz=>T.ne _ (List.getElem_mem i1) (z▸List.getElem_mem j1)) e
   refine wpS_bind (XO eb ?_)
   have M2:MH lk a.toList b.toList (o.push b.toList[j]).toList (i+1) j:=M.push w4 w2 (Rw.tail L T.ra i1 e')
   by_cases z:j=1
   ·show wpS _ _ _ _ (if(j+1-1==1)=true then _ else _) _ _
    rw[if_pos (by simpa using z)]
    exact wpS_pure (q1 _ _ _ _ _ _ (Ky T M2 z (by omega) (by omega)))
   ·show wpS _ _ _ _ (if(j+1-1==1)=true then _ else _) _ _
    rw[if_neg (by simpa using z)]
    have W':∀{m'},m'<=m+x+1->Wh lk a.toList b.toList (o.push b.toList[j]) (i+1) j m':=λh=>⟨M2,w1,w2,by omega,by omega,by omega⟩
    show wpS _ _ _ _ (if q+1≥mg then _ else _) _ _
    split
    ·exact wpS_pure (q2 _ _ _ _ _ (W' (by omega)))
    ·exact wpS_pure ⟨rfl,_,_,_,_,_,rfl,W' (by omega)⟩
 ·intro c u hI
  obtain⟨rfl,o,i,j,p,q,rfl,W⟩:=hI
  have h1:=W.a1
  have h2:=W.b1
  have:=W.hm
  omega
end
section
noncomputable def h4 (a b o:Array Keyed)(i j g p q:Nat):SM (ForInStep H7):=elem' a (i-1) >>= λz=>
 if(i-1==0)=true then pure (.done (some (a.extract 0 (i-1)++b.extract 0 j++(o.push z).reverse),i-1,j,o.push z,g,p,q))
 else if(decide (p<7)&&decide (q<7))=true then pure (.done (none,i-1,j,o.push z,g,p,q)) else pure (.yield (none,i-1,j,o.push z,g,p,q))
noncomputable def h3 (a b o:Array Keyed)(i j g p q:Nat):SM (ForInStep H7):=elem' b (j-1) >>= λy=>
 if(j-1==1)=true then pure (.done (some (b.extract 0 (j-1)++a.extract 0 i++(o.push y).reverse),i,j-1,o.push y,g,p,q))
 else elem' a (i-1) >>= λz=>ZO true z b 0 (j-1) (j-1-1) >>= λr=>match r with
  |some v=>if j-1-v > 0 then if(v==1)=true then pure (.done (some (b.extract 0 v++a.extract 0 i++(o.push y++(b.extract v (j-1)).reverse).reverse),i,v,o.push y++(b.extract v (j-1)).reverse,g,p,j-1-v)) else if(v==0)=true then pure (.done (some (a.extract 0 i++b.extract 0 v++(o.push y++(b.extract v (j-1)).reverse).reverse),i,v,o.push y++(b.extract v (j-1)).reverse,g,p,j-1-v)) else h4 a b (o.push y++(b.extract v (j-1)).reverse) i v g p (j-1-v)
   else h4 a b (o.push y) i (j-1) g p (j-1-v)
  |_=>pure (.done (some (a.extract 0 i++b.extract 0 (j-1)++(o.push y).reverse),i,j-1,o.push y,g,p,q))
noncomputable def h2 (a b o:Array Keyed)(i j g p q:Nat):SM (ForInStep H7):=EX g >>= λ_=>elem' b (j-1) >>= λy=>ZO false y a 0 i (i-1) >>= λr=>match r with
  |some v=>if i-v > 0 then if(v==0)=true then pure (.done (some (a.extract 0 v++b.extract 0 j++(o++(a.extract v i).reverse).reverse),v,j,o++(a.extract v i).reverse,g,i-v,q)) else h3 a b (o++(a.extract v i).reverse) v j g (i-v) q
   else h3 a b o i j g (i-v) q
  |_=>pure (.done (some (a.extract 0 i++b.extract 0 j++o.reverse),i,j,o,g,p,q))
variable {prog:Program}{w:World}{A:Around}{E:Value->Shared->Prop}{s:Shared}{κ:SortKind}{lk:Keyed->Keyed->Bool}{a0:List Keyed}{st t:SortSt}{a b o:Array Keyed}{i j g p q m:Nat}{R:ForInStep H7->SortSt->Prop}
structure Afh (lk:Keyed->Keyed->Bool)(st:SortSt)(a b:Array Keyed)(m:Nat)(R:ForInStep H7->SortSt->Prop):Prop where
 fin:∀{r o i j g x y u},Sm st u->Fin2 lk a.toList b.toList r.toList->R (.done (some r,i,j,o,g,x,y)) u
 dn:∀{o i j g x y u},Sm st u->Wh lk a.toList b.toList o i j (m+1)->R (.done (none,i,j,o,g,x,y)) u
 yd:∀{o i j g x y u},Sm st u->Wh lk a.toList b.toList o i j (m+1)->R (.yield (none,i,j,o,g,x,y)) u
theorem OZ (S:Sm st t)(W:Wh lk a.toList b.toList o (i+1) j m)(h:∀y∈b.toList.take j,lk y (a.toList[i]'(by have:=W.a2;omega))=true)(F:Afh lk st a b m R):wpS (model prog w) A E s (h4 a b o (i+1) j g p q) R t:=by
 obtain⟨M,w1,w2,w3,w4,w5⟩:=W
 have hb:b.toList.length=b.size:=Array.length_toList
 have M2:=(M.symm.push w2 w4 h).symm
 unfold h4
 refine wpS_bind (XO (x:=a.toList[i]) (by simp) ?_)
 by_cases z:i=0
 ·rw[if_pos (by simpa using z)]
  exact wpS_pure (F.fin S (FM M2 z (by omega)))
 ·rw[if_neg (by simpa using z)]
  have W':Wh lk a.toList b.toList (o.push a.toList[i]) i j (m+1):=⟨M2,by omega,by omega,w3,w4,by omega⟩
  split
  ·exact wpS_pure (F.dn S W')
  ·exact wpS_pure (F.yd S W')
theorem Ou (L:AskE prog w A E s κ lk a0)(hk:kindOf st=κ)(T:Two lk a0 a.toList b.toList)(S:Sm st t)(W:Wh lk a.toList b.toList o (i+1) (j+1) m)(h:∀x∈a.toList.take (i+1),lk x (b.toList[j]'(by have:=W.b2;omega))=true)(F:Afh lk st a b m R):wpS (model prog w) A E s (h3 a b o (i+1) (j+1) g p q) R t:=by
 obtain⟨M,w1,w2,w3,w4,w5⟩:=W
 have ha:a.toList.length=a.size:=Array.length_toList
 have hb:b.toList.length=b.size:=Array.length_toList
 have i1:i<a.toList.length:=by omega
 have M2:=M.push w4 w2 h
 unfold h3
 refine wpS_bind (XO (x:=b.toList[j]) (by simp) ?_)
 by_cases z:j=1
 ·rw[if_pos (by simpa using z)]
  exact wpS_pure (F.fin S (Ky T M2 z (by omega) (by omega)))
 ·rw[if_neg (by simpa using z)]
  refine wpS_bind (XO (x:=a.toList[i]) (by simp) ?_)
  have xa:=List.getElem_mem i1
  rw[Nat.add_sub_cancel]
  refine wpS_bind (ZE L (seg:=b.toList.take j) (S.k.trans hk) (T.ma _ xa) (λe=>T.ne _ xa (List.mem_of_mem_take e)) (by rw[List.length_take];omega) (λu hu=>by simp[List.getElem?_take,hu]) (List.Pairwise.sublist (List.take_sublist _ _) T.rb) (λx hx=>T.mb x (List.mem_of_mem_take hx)) (by omega) λv hv k1 k2=>?_)
  have hd:∀y∈b.toList.take v,lk y a.toList[i]=true:=λy hy=>k1 y (by rw[List.take_take,Nat.min_eq_left hv];exact hy)
  have v1:0<v:=by
   rcases Nat.eq_zero_or_pos v with z0 |z0
   ·subst z0
    have l1:=k2 (b.toList[0]'(by omega)) (by rw[List.drop_zero];exact List.mem_take_iff_getElem.mpr ⟨0,by omega,rfl⟩)
    have l2:=T.h0 _ xa (b.toList[0]'(by omega)) (by simp)
    have:=L.tr l1 l2
    rw[L.irr] at this
    cases this
   ·exact z0
  by_cases hk0:j-v > 0
  ·show wpS _ _ _ _ (if j-v > 0 then _ else _) _ _
   rw[if_pos hk0]
   have M3:MH lk a.toList b.toList (o.push b.toList[j]++(b.extract v j).reverse).toList (i+1) v:=by
    rw[Array.toList_append,LA]
    exact M2.cat hv (by omega) w2 λx hx y hy=>Rw.tail (y:=x) L T.ra i1 (k2 x hx) y hy
   by_cases z2:v=1
   ·rw[if_pos (by simpa using z2)]
    exact wpS_pure (F.fin S (Ky T M3 z2 (by omega) (by omega)))
   ·rw[if_neg (by simpa using z2),if_neg (by simp;omega)]
    exact OZ S ⟨M3,w1,w2,by omega,by omega,by omega⟩ hd F
  ·show wpS _ _ _ _ (if j-v > 0 then _ else _) _ _
   rw[if_neg hk0]
   have:v=j:=by omega
   subst this
   exact OZ S ⟨M2,w1,w2,by omega,by omega,by omega⟩ hd F
theorem PY (L:AskE prog w A E s κ lk a0)(hk:kindOf st=κ)(T:Two lk a0 a.toList b.toList)(S:Sm st t)(W:Wh lk a.toList b.toList o i (j+1) m)(F:Afh lk st a b m R):wpS (model prog w) A E s (h2 a b o i (j+1) g p q) R t:=by
 obtain⟨M,w1,w2,w3,w4,w5⟩:=W
 have ha:a.toList.length=a.size:=Array.length_toList
 have hb:b.toList.length=b.size:=Array.length_toList
 have j1:j<b.toList.length:=by omega
 have xb:=List.getElem_mem j1
 unfold h2
 refine wpS_bind (Kf S λt S=>wpS_bind (XO (x:=b.toList[j]) (by simp) ?_))
 refine wpS_bind (ZE L (seg:=a.toList.take i) (S.k.trans hk) (T.mb _ xb) (λe=>T.ne _ (List.mem_of_mem_take e) xb) (by rw[List.length_take];omega) (λu hu=>by simp[List.getElem?_take,hu]) (List.Pairwise.sublist (List.take_sublist _ _) T.ra) (λx hx=>T.ma x (List.mem_of_mem_take hx)) (by omega) λv hv k1 k2=>?_)
 have hd:∀y∈a.toList.take v,lk y b.toList[j]=true:=λy hy=>k1 y (by rw[List.take_take,Nat.min_eq_left hv];exact hy)
 by_cases hk0:i-v > 0
 ·show wpS _ _ _ _ (if i-v > 0 then _ else _) _ _
  rw[if_pos hk0]
  have M2:MH lk a.toList b.toList (o++(a.extract v i).reverse).toList v (j+1):=by
   rw[Array.toList_append,LA]
   exact(M.symm.cat hv w2 w4 λx hx y hy=>Rw.tail (y:=x) L T.rb j1 (k2 x hx) y hy).symm
  by_cases z:v=0
  ·rw[if_pos (by simpa using z)]
   exact wpS_pure (F.fin S (FM M2 z (by omega)))
  ·rw[if_neg (by simpa using z)]
   obtain⟨v,rfl⟩:∃n,v=n+1:=⟨v-1,by omega⟩
   exact Ou L hk T S ⟨M2,by omega,by omega,w3,w4,by omega⟩ hd F
 ·show wpS _ _ _ _ (if i-v > 0 then _ else _) _ _
  rw[if_neg hk0]
  have:v=i:=by omega
  subst this
  obtain⟨v,rfl⟩:∃n,v=n+1:=⟨v-1,by omega⟩
  exact Ou L hk T S ⟨M,w1,w2,w3,w4,w5⟩ hd F
theorem DZ (L:AskE prog w A E s κ lk a0)(hk:kindOf st=κ)(T:Two lk a0 a.toList b.toList)(na:0<a.size)(nb:0<b.size){Q:Array Keyed->SortSt->Prop}(q:∀r t,Sm st t->Fin2 lk a.toList b.toList r.toList->Q r t):wpS (model prog w) A E s (H9 a b) Q st:=by
 have ha:a.toList.length=a.size:=Array.length_toList
 have hb:b.toList.length=b.size:=Array.length_toList
 obtain⟨n,hn⟩:∃n,a.size=n+1:=⟨a.size-1,by omega⟩
 have i1:n<a.toList.length:=by omega
 have M0:MH lk a.toList b.toList (#[]:Array Keyed).toList (n+1) b.size:=by
  refine⟨?_,?_,?_⟩
  ·rw[←hb, ←hn, ←ha,Nat.sub_self,Nat.sub_self];exact List.Perm.refl _
  ·rw[←hb,Nat.sub_self];exact List.pairwise_reverse.mpr T.rb
  ·rw[←hn, ←ha,Nat.sub_self];exact List.pairwise_reverse.mpr T.ra
 have M:MH lk a.toList b.toList #[a.toList[n]].toList n b.size:=(M0.symm.push (o:=#[]) (by omega) (by omega) λy hy=>T.hz y (List.mem_of_mem_take hy) _ (by rw[show a.toList.length-1=n by omega];exact List.getElem?_eq_getElem i1)).symm
 show wpS _ _ _ _ (liftM (rule _) >>= _) _ _
 refine wpS_bind (wpS_lift (wpAny_rule ⟨rfl,?_⟩))
 show wpS _ _ _ _ (elem' a (a.size-1) >>= _) _ _
 refine wpS_bind (XO (x:=a.toList[n]) (by rw[hn];simp) ?_)
 show wpS _ _ _ _ (if(a.size-1==0)=true then pure (a.extract 0 (a.size-1)++b.extract 0 b.size++ #[a.toList[n]].reverse) else if(b.size==1)=true then pure (b.extract 0 b.size++a.extract 0 (a.size-1)++ #[a.toList[n]].reverse) else _) _ _
 rw[show a.size-1=n by omega]
 by_cases z:n=0
 ·rw[if_pos (by simpa using z)]
  exact wpS_pure (q _ _ .refl (FM M z (Nat.le_refl _)))
 ·rw[if_neg (by simpa using z)]
  by_cases y:b.size=1
  ·rw[if_pos (by simpa using y)]
   exact wpS_pure (q _ _ .refl (Ky T M y nb (by omega)))
  ·rw[if_neg (by simpa using y)]
   show wpS _ _ _ _ (get >>= _) _ _
   refine wpS_bind (wpS_get ?_)
   show wpS _ _ _ _ (forIn [:a.size+b.size] ((none,n,b.size, #[a.toList[n]],gallopOf st):H5) _ >>= _) _ _
   refine wpS_bind (wpS_mono (wpS_forRange (I:=λx c t=>Sm st t/\∃o i j g,c=(none,i,j,o,g)/\Wh lk a.toList b.toList o i j (x+1)) (Q:=λc t=>Sm st t/\∃r,c.1=some r/\Fin2 lk a.toList b.toList r.toList) ?_ ?_ ⟨.refl,_,n,b.size,_,rfl,M,by omega,by omega,by omega,by omega,by omega⟩) ?_)
   ·intro x c t _ hx hI
    obtain⟨S,o,i,j,g,rfl,W⟩:=hI
    show wpS _ _ _ _ (forIn [:a.size+b.size] ((none,i,j,o,0,0):H6) _ >>= _) _ _
    refine wpS_bind (L.hi1 T W (S.k.trans hk) (λ_ _=>rfl) (λr i j o x y h=>?_) λi j o x' y W=>?_)
    ·exact wpS_pure ⟨S,r,rfl,h⟩
    ·show wpS _ _ _ _ (liftM (rule _) >>= _) _ _
     refine wpS_bind (wpS_lift (wpAny_rule ⟨rfl,?_⟩))
     show wpS _ _ _ _ (forIn [:a.size+b.size] ((none,i,j,o,g+1,x',y):H7) _ >>= _) _ _
     refine wpS_bind (wpS_mono (wpS_forRange (I:=λv c t=>Sm st t/\∃o i j g p q,c=(none,i,j,o,g,p,q)/\Wh lk a.toList b.toList o i j (x+1+1+v)) (Q:=λc t=>Sm st t/\((∃r,c.1=some r/\Fin2 lk a.toList b.toList r.toList)∨∃o i j g p q,c=(none,i,j,o,g,p,q)/\Wh lk a.toList b.toList o i j (x+1+1))) ?_ ?_ ⟨S,_,_,_,_,_,_,rfl,W⟩) ?_)
     ·intro v c t _ hv hI
      obtain⟨S,o,i,j,g,p,q,rfl,W⟩:=hI
      have F:Afh lk st a b (x+1+1+v) (λr st'=>match r with
       | .done c'=>Sm st st'/\((∃r,c'.1=some r/\Fin2 lk a.toList b.toList r.toList)∨∃o i j g p q,c'=(none,i,j,o,g,p,q)/\Wh lk a.toList b.toList o i j (x+1+1))
       | .yield c'=>Sm st st'/\∃o i j g p q,c'=(none,i,j,o,g,p,q)/\Wh lk a.toList b.toList o i j (x+1+1+(v+1))):=⟨λS h=>⟨S, .inl ⟨_,rfl,h⟩⟩,λS W=>⟨S, .inr ⟨_,_,_,_,_,_,rfl,W.mi,W.a1,W.a2,W.b1,W.b2,by have:=W.hm;omega⟩⟩,λS W=>⟨S,_,_,_,_,_,_,rfl,W⟩⟩
      obtain⟨j,rfl⟩:∃n,j=n+1:=⟨j-1,by have:=W.b1;omega⟩
      have k2:∀g',wpS (model prog w) A E s (h2 a b o i (j+1) g' p q) _ t:=λg'=>PY L hk T S W F
      show wpS _ _ _ _ (if g > 1 then _ else _) _ _
      split
      ·exact wpS_mono (k2 (g-1)) λr t' h=>by cases r<;> exact h
      ·exact wpS_mono (k2 g) λr t' h=>by cases r<;> exact h
     ·intro c t hI
      obtain⟨S,o,i,j,g,p,q,rfl,W⟩:=hI
      have h1:=W.a1
      have h2:=W.b1
      have:=W.hm
      omega
     ·intro c t hI
      obtain⟨r,i,j,o,g,p,q⟩:=c
      obtain⟨S,hI⟩:=hI
      rcases hI with⟨r,rfl,h⟩ | ⟨o,i,j,g,p,q,e,W⟩
      ·exact wpS_pure ⟨S,r,rfl,h⟩
      ·cases e
       show wpS _ _ _ _ (EX (g+1) >>= _) _ _
       exact wpS_bind (Kf S λt S=>wpS_pure ⟨S,_,_,_,_,rfl,W⟩)
   ·intro c t hI
    obtain⟨S,o,i,j,g,rfl,W⟩:=hI
    have h1:=W.a1
    have h2:=W.b1
    have:=W.hm
    omega
   ·intro c t hI
    obtain⟨r,i,j,o,g⟩:=c
    obtain⟨S,r,rfl,h⟩:=hI
    exact wpS_pure (q r t S h)
end
section
variable {prog:Program}{w:World}{A:Around}{E:Value->Shared->Prop}{s:Shared}{κ:SortKind}{lk:Keyed->Keyed->Bool}{a0:List Keyed}{st t:SortSt}
theorem Dr {z:List Keyed}:∀{ms v:List Keyed}{n off:Nat}{X:Array Keyed}{u:List Keyed},X.toList=u++v++z->u.length=off+n->v.length=ms.length->((ms.zipIdx n).foldl (λ(a:Array Keyed) (x:Keyed×Nat)=>a.setIfInBounds (off+x.2) x.1) X).toList=u++ms++z
 | [],v,n,off,X,u,hX,hu,hv=>by
  rw[List.length_eq_zero_iff.mp hv] at hX
  exact hX
 |p::ms,[],n,off,X,u,hX,hu,hv=>by cases hv
 |p::ms,v0::v,n,off,X,u,hX,hu,hv=>by
  rw[List.zipIdx_cons,List.foldl_cons]
  have:=Dr (z:=z) (ms:=ms) (v:=v) (n:=n+1) (off:=off) (X:=X.setIfInBounds (off+n) p) (u:=u++[p]) (by
   rw[Array.toList_setIfInBounds,hX, ←hu]
   simp) (by simp;omega) (by simpa using hv)
  refine this.trans ?_
  simp
theorem Bj {X:Array Keyed}{u v z:List Keyed}{n m:Nat}(hX:X.toList=u++v++z)(hn:n=u.length)(hm:m=n+v.length):(X.extract n m).toList=v:=by
 subst hn hm
 rw[Array.toList_extract,List.extract_eq_take_drop,hX,List.append_assoc,List.drop_left,Nat.add_sub_cancel_left,List.take_left]
theorem Cu (L:AskE prog w A E s κ lk a0){i pw pw2:Nat}{pre as bs post:List Keyed}{Q:Bool->SortSt->Prop}(hX:(arrOf st).toList=pre++as++bs++post)(hk:kindOf st=κ)(hf:failedOf st=none)(p1:(pendingOf st)[i]?=some (pre.length,as.length,pw))(p2:(pendingOf st)[i+1]?=some (pre.length+as.length,bs.length,pw2))
  (ra:Rw lk as)(rb:Rw lk bs)(ma:∀x∈as,x∈a0)(mb:∀x∈bs,x∈a0)(ne:∀x∈as,x∉bs)(la:0<as.length)(lb:0<bs.length)
  (q:∀t m,kindOf t=κ->failedOf t=none->pendingOf t=((pendingOf st).setIfInBounds i (pre.length,as.length+bs.length,pw)).eraseIdxIfInBounds (i+1)->(arrOf t).toList=pre++m++post->Fin2 lk as bs m->Q true t):wpS (model prog w) A E s (mergeAt' i) Q st:=by
 have gx:∀n,(arrOf st)[n]?=(pre++as++bs++post)[n]?:=λn=>by rw[←hX];exact Array.getElem?_toList.symm
 have ga:∀n<as.length,(arrOf st)[pre.length+n]?=as[n]?:=λn hn=>by
  rw[gx,List.append_assoc,List.append_assoc,List.getElem?_append_right (by omega),List.getElem?_append_left (by omega)]
  congr 1;omega
 have gb:∀n<bs.length,(arrOf st)[pre.length+as.length+n]?=bs[n]?:=λn hn=>by
  rw[gx,List.append_assoc,List.getElem?_append_right (by simp),List.getElem?_append_left (by simp;omega)]
  congr 1;simp
 have xb:=List.getElem_mem lb
 have xa:=List.getElem_mem (show as.length-1<as.length by omega)
 show wpS _ _ _ _ (get >>= _) _ _
 refine wpS_bind (wpS_get ?_)
 rw[p1,p2]
 show wpS _ _ _ _ (set (setPending st (((pendingOf st).setIfInBounds i (pre.length,as.length+bs.length,pw)).eraseIdxIfInBounds (i+1))) >>= _) _ _
 refine wpS_bind (wpS_modify (f:=λ_=>setPending st (((pendingOf st).setIfInBounds i (pre.length,as.length+bs.length,pw)).eraseIdxIfInBounds (i+1))) ?_)
 generalize hst:setPending st (((pendingOf st).setIfInBounds i (pre.length,as.length+bs.length,pw)).eraseIdxIfInBounds (i+1))=su
 have su1:kindOf su=κ:=by rw[←hst];exact hk
 have su2:failedOf su=none:=by rw[←hst];exact hf
 have su3:pendingOf su=((pendingOf st).setIfInBounds i (pre.length,as.length+bs.length,pw)).eraseIdxIfInBounds (i+1):=by rw[←hst]
 have su4:arrOf su=arrOf st:=by rw[←hst]
 show wpS _ _ _ _ (elem' (arrOf st) (pre.length+as.length) >>= _) _ _
 refine wpS_bind (XO (x:=bs[0]) (by have:=gb 0 lb;rw[Nat.add_zero] at this;rw[this];exact List.getElem?_eq_getElem lb) ?_)
 show wpS _ _ _ _ (ZO false bs[0] (arrOf st) pre.length as.length 0 >>= _) _ _
 refine wpS_bind (ZE L (seg:=as) su1 (mb _ xb) (λe=>ne _ e xb) rfl ga ra ma la λk hk1 k1 k2=>?_)
 have kb:∀x∈as.take k,∀y∈bs,lk x y=true:=λx hx y hy=>Rw.head (i:=0) L rb lb (k1 x hx) y (by rw[List.drop_zero];exact hy)
 have sp:=List.pairwise_append.mp (show Rw lk (as.take k++as.drop k) by rw[List.take_append_drop];exact ra)
 show wpS _ _ _ _ (if(as.length-k==0)=true then _ else _) _ _
 by_cases z:as.length-k=0
 ·rw[if_pos (by simpa using z)]
  refine wpS_pure (q su (as++bs) su1 su2 su3 (by rw[su4,hX];simp) ⟨List.Perm.refl _,List.pairwise_append.mpr ⟨ra,rb,λx hx=>kb x ?_⟩⟩)
  rw[List.take_of_length_le (by omega)]
  exact hx
 ·rw[if_neg (by simpa using z)]
  show wpS _ _ _ _ (elem' (arrOf st) (pre.length+k+(as.length-k)-1) >>= _) _ _
  have ez:pre.length+k+(as.length-k)-1=pre.length+(as.length-1):=by omega
  refine wpS_bind (XO (x:=as[as.length-1]) (by rw[ez,ga _ (by omega)];exact List.getElem?_eq_getElem (by omega)) ?_)
  show wpS _ _ _ _ (ZO true as[as.length-1] (arrOf st) (pre.length+as.length) bs.length (bs.length-1) >>= _) _ _
  refine wpS_bind (ZE L (seg:=bs) su1 (ma _ xa) (ne _ xa) rfl gb rb mb (by omega) λv hv v1 v2=>?_)
  have xk:as[as.length-1]∈as.drop k:=List.mem_drop_iff_getElem.mpr ⟨as.length-1-k,by omega,by congr 1;omega⟩
  have v0:0<v:=by
   rcases Nat.eq_zero_or_pos v with z0 |z0
   ·subst z0
    have:=L.tr (k2 _ xk) (v2 _ (by rw[List.drop_zero];exact xb))
    rw[L.irr] at this
    cases this
   ·exact z0
  show wpS _ _ _ _ (if(v==0)=true then _ else _) _ _
  rw[if_neg (by simp;omega)]
  have ex:((arrOf st).extract (pre.length+k) (pre.length+as.length)).toList=as.drop k:=Bj (u:=pre++as.take k) (z:=bs++post) (by rw[hX,List.append_assoc pre (as.take k),List.take_append_drop];simp only[List.append_assoc]) (by simp;omega) (by rw[List.length_drop];omega)
  have ey:((arrOf st).extract (pre.length+as.length) (pre.length+as.length+v)).toList=bs.take v:=Bj (u:=pre++as) (z:=bs.drop v++post) (by rw[hX,List.append_assoc (pre++as) (bs.take v), ←List.append_assoc (bs.take v),List.take_append_drop];simp only[List.append_assoc]) (by simp) (by rw[List.length_take];omega)
  have T:Two lk a0 ((arrOf st).extract (pre.length+k) (pre.length+as.length)).toList ((arrOf st).extract (pre.length+as.length) (pre.length+as.length+v)).toList:=by
   rw[ex,ey]
   refine⟨sp.2.1,List.Pairwise.sublist (List.take_sublist _ _) rb,λx hx=>ma x (List.mem_of_mem_drop hx),λx hx=>mb x (List.mem_of_mem_take hx),λx hx hy=>ne x (List.mem_of_mem_drop hx) (List.mem_of_mem_take hy),λx hx y hy=>?_,λy hy x hx=>?_⟩
   ·rw[List.getElem?_take,if_pos v0,List.getElem?_eq_getElem lb] at hy
    cases hy
    exact k2 x hx
   ·rw[List.length_drop,List.getElem?_drop,show k+(as.length-k-1)=as.length-1 by omega,List.getElem?_eq_getElem (by omega)] at hx
    cases hx
    exact v1 y hy
  have fin:∀(r:Array Keyed) u,Sm su u->Fin2 lk ((arrOf st).extract (pre.length+k) (pre.length+as.length)).toList ((arrOf st).extract (pre.length+as.length) (pre.length+as.length+v)).toList r.toList->Q true (setArr u ((r.toList.zipIdx).foldl (λ(a:Array Keyed) (x:Keyed×Nat)=>a.setIfInBounds (pre.length+k+x.2) x.1) (arrOf u))):=λr u S F=>by
   rw[ex,ey] at F
   have sv:=List.pairwise_append.mp (show Rw lk (bs.take v++bs.drop v) by rw[List.take_append_drop];exact rb)
   have mem:∀x∈r.toList,x∈as.drop k∨x∈bs.take v:=λx hx=>List.mem_append.mp (F.pm.mem_iff.mp hx)
   refine q _ (as.take k++r.toList++bs.drop v) (S.k.trans su1) (S.f.trans su2) (S.p.trans su3) ?_ ⟨?_,?_⟩
   ·show((r.toList.zipIdx).foldl (λ(a:Array Keyed) (x:Keyed×Nat)=>a.setIfInBounds (pre.length+k+x.2) x.1) (arrOf u)).toList=_
    rw[S.a,su4,Dr (v:=as.drop k++bs.take v) (z:=bs.drop v++post) (u:=pre++as.take k) (n:=0) ?_ ?_ ?_]
    ·simp only[List.append_assoc]
    ·rw[hX]
     rw[show pre++as.take k++(as.drop k++bs.take v)++(bs.drop v++post)=pre++(as.take k++as.drop k)++(bs.take v++bs.drop v)++post by simp only[List.append_assoc],List.take_append_drop,List.take_append_drop]
    ·simp;omega
    ·exact F.pm.length_eq.symm
   ·have e:as++bs=as.take k++((as.drop k++bs.take v)++bs.drop v):=by
     rw[List.append_assoc,List.take_append_drop, ←List.append_assoc,List.take_append_drop]
    rw[e,List.append_assoc]
    exact(F.pm.append_right _).append_left _
   ·refine List.pairwise_append.mpr ⟨List.pairwise_append.mpr ⟨sp.1,F.ri,λx hx y hy=>?_⟩,sv.2.1,λx hx y hy=>?_⟩
    ·rcases mem y hy with z |z
     ·exact sp.2.2 x hx y z
     ·exact kb x hx y (List.mem_of_mem_take z)
    ·rcases List.mem_append.mp hx with z |z
     ·exact kb x z y (List.mem_of_mem_drop hy)
     ·rcases mem x z with z |z
      ·have h1:=v2 y hy
       obtain⟨n,hn,rfl⟩:=List.mem_drop_iff_getElem.mp z
       rcases Nat.lt_or_ge (k+n) (as.length-1) with c |c
       ·exact L.tr (List.pairwise_iff_getElem.mp ra _ _ _ (by omega) c) h1
       ·rw[show as[as.length-1]=as[k+n] by congr 1;omega] at h1
        exact h1
      ·exact sv.2.2 x z y hy
  show wpS _ _ _ _ (if as.length-k<=v then _ else _) _ _
  have la':0<((arrOf st).extract (pre.length+k) (pre.length+as.length)).size:=by rw[←Array.length_toList,ex,List.length_drop];omega
  have lb':0<((arrOf st).extract (pre.length+as.length) (pre.length+as.length+v)).size:=by rw[←Array.length_toList,ey,List.length_take];omega
  have nx:∀(r:Array Keyed) u,Sm su u->Fin2 lk ((arrOf st).extract (pre.length+k) (pre.length+as.length)).toList ((arrOf st).extract (pre.length+as.length) (pre.length+as.length+v)).toList r.toList->wpS (model prog w) A E s (modify (λu=>setArr u ((r.toList.zipIdx).foldl (λ(a:Array Keyed) (x:Keyed×Nat)=>a.setIfInBounds (pre.length+k+x.2) x.1) (arrOf u))) >>= λ_=>(get:SM SortSt) >>= λu=>pure (failedOf u).isNone) Q u:=λr u S F=>by
   refine wpS_bind (wpS_modify (wpS_bind (wpS_get (wpS_pure ?_))))
   have:=fin r u S F
   show Q (failedOf u).isNone _
   rw[S.f,su2]
   exact this
  split
  ·exact wpS_bind (Ck L su1 T la' lb' nx)
  ·exact wpS_bind (DZ L su1 T la' lb' nx)
end
section
variable {prog:Program}{w:World}{A:Around}{E:Value->Shared->Prop}{s:Shared}{κ:SortKind}{lk:Keyed->Keyed->Bool}{a0:List Keyed}{st0 st t:SortSt}{pre rest:List Keyed}
theorem Mv (L:AskE prog w A E s κ lk a0){i j:Nat}{x y:Keyed}{Q:Option Bool->SortSt->Prop}(hk:kindOf st=κ)(hi:(arrOf st)[i]?=some x)(hj:(arrOf st)[j]?=some y)(mx:x∈a0)(my:y∈a0)(q:Q (some (lk x y)) st):wpS (model prog w) A E s (ltAt' i j) Q st:=by
 rw[ltAt'_eq]
 refine wpS_bind (wpS_get ?_)
 exact wpS_bind (XO hi (wpS_bind (XO hj (L.ask hk mx my q))))
structure Rst (κ:SortKind)(a0:List Keyed)(st0:SortSt)(pre rest:List Keyed)(st:SortSt):Prop where
 k:kindOf st=κ
 f:failedOf st=none
 p:pendingOf st=pendingOf st0
 a:(arrOf st).toList=pre++rest
 m:∀x∈rest,x∈a0
 n:rest.Nodup
theorem Rst.at (B:Rst κ a0 st0 pre rest st){i:Nat}(hi:i<rest.length):(arrOf st)[pre.length+i]?=some rest[i]:=by
 rw[←Array.getElem?_toList,B.a,List.getElem?_append_right (by omega),Nat.add_sub_cancel_left]
 exact List.getElem?_eq_getElem hi
theorem Rst.ask (L:AskE prog w A E s κ lk a0)(B:Rst κ a0 st0 pre rest st){i j:Nat}{Q:Option Bool->SortSt->Prop}(hi:i<rest.length)(hj:j<rest.length)(q:Q (some (lk rest[i] rest[j])) st):wpS (model prog w) A E s (ltAt' (pre.length+i) (pre.length+j)) Q st:=
 Mv L B.k (B.at hi) (B.at hj) (B.m _ (List.getElem_mem hi)) (B.m _ (List.getElem_mem hj)) q
theorem Rst.not (L:AskE prog w A E s κ lk a0)(B:Rst κ a0 st0 pre rest st){i j:Nat}(hi:i<rest.length)(hj:j<rest.length)(n:i≠j)(h:lk rest[i] rest[j]=false):lk rest[j] rest[i]=true:=
 L.not (B.m _ (List.getElem_mem hi)) (B.m _ (List.getElem_mem hj)) (λe=>by
  rcases Nat.lt_or_gt_of_ne n with z |z
  ·exact List.pairwise_iff_getElem.mp B.n i j hi hj z e
  ·exact List.pairwise_iff_getElem.mp B.n j i hj hi z e.symm) h
theorem VN {lk:Keyed->Keyed->Bool}(tr:∀{x y z},lk x y=true->lk y z=true->lk x z=true){n:Nat}(hn:n+1<rest.length)(R:Rw lk (rest.take (n+1)))(h:lk rest[n] rest[n+1]=true):Rw lk (rest.take (n+1+1)):=by
 rw[List.take_succ_eq_append_getElem hn]
 refine List.pairwise_append.mpr ⟨R,List.pairwise_singleton ..,λx hx y hy=>?_⟩
 rw[List.mem_singleton.mp hy]
 obtain⟨i,hi,rfl⟩:=List.mem_take_iff_getElem.mp hx
 rcases Nat.lt_or_ge i n with z |z
 ·have:=List.pairwise_iff_getElem.mp R i n (by rw[List.length_take];omega) (by rw[List.length_take];omega) z
  rw[List.getElem_take,List.getElem_take] at this
  exact tr this h
 ·have:i=n:=by omega
  subst this
  exact h
theorem up2 (L:AskE prog w A E s κ lk a0)(B:Rst κ a0 st0 pre rest st){a m:Nat}(hm:m<=rest.length)(h1:1<=a)(ham:a<=m)(R:Rw lk (rest.take a)){f:Nat->AscSt->SM (ForInStep AscSt)}
  (hf:∀x c,f x c=(ltAt' (pre.length+c.2) (pre.length+c.2-1) >>= λr=>match r with
   |some b=>if b=true then pure (.done (none,c.2)) else pure (.yield (none,c.2+1))
   |_=>pure (.done (some none,c.2)))){Q:AscSt->SortSt->Prop}
  (q:∀n,a<=n->n<=m->Rw lk (rest.take n)->(∀hn:n<m,lk (rest[n]'(by omega)) (rest[n-1]'(by omega))=true)->Q (none,n) st):wpS (model prog w) A E s (forIn [a:m] ((none,a):AscSt) f) Q st:=by
 refine wpS_forRange (I:=λx c u=>u=st/\c=(none,x)/\1<=x/\Rw lk (rest.take x)) ?_ ?_ ⟨rfl,rfl,h1,R⟩
 ·intro x c u hx hxm hI
  obtain⟨rfl,rfl,h1,R⟩:=hI
  obtain⟨n,rfl⟩:∃n,x=n+1:=⟨x-1,by omega⟩
  rw[hf]
  refine wpS_bind (B.ask L (i:=n+1) (j:=n) (by omega) (by omega) ?_)
  cases e:lk rest[n+1] rest[n] with
  |true=>exact wpS_pure (q _ hx (by omega) R λ_=>e)
  |false=>exact wpS_pure ⟨rfl,rfl,by omega,VN (lk:=lk) (rest:=rest) (n:=n) (λh1 h2=>L.tr h1 h2) (by omega) R (B.not L (i:=n+1) (j:=n) (by omega) (by omega) (by omega) e)⟩
 ·intro c u hI
  obtain⟨rfl,rfl,h1,R⟩:=hI
  have e:max a m=m:=by omega
  rw[e] at R⊢
  exact q m ham (Nat.le_refl _) R λz=>absurd z (Nat.lt_irrefl _)
theorem Pu (L:AskE prog w A E s κ lk a0)(B:Rst κ a0 st0 pre rest st){a m:Nat}(hm:m<=rest.length)(h1:1<=a)(ham:a<=m)(R:Rw (λx y=>lk y x) (rest.take a)){f:Nat->DescSt->SM (ForInStep DescSt)}
  (hf:∀x c,f x c=(ltAt' (pre.length+c.2.1) (pre.length+c.2.1-1) >>= λr=>match r with
   |some b=>if b=true then(if c.2.2 > 0 then reverseSlice' (pre.length+c.2.1-(c.2.2+1)) (pre.length+c.2.1) >>= λ_=>pure (.yield (none,c.2.1+1,0)) else pure (.yield (none,c.2.1+1,0)))
    else ltAt' (pre.length+c.2.1-1) (pre.length+c.2.1) >>= λr=>match r with
     |some b=>if b=true then pure (.done (none,c.2.1,c.2.2)) else pure (.yield (none,c.2.1+1,c.2.2+1))
     |_=>pure (.done (some none,c.2.1,c.2.2))
   |_=>pure (.done (some none,c.2.1,c.2.2)))){Q:DescSt->SortSt->Prop}
  (q:∀n,a<=n->n<=m->Rw (λx y=>lk y x) (rest.take n)->Q (none,n,0) st):wpS (model prog w) A E s (forIn [a:m] ((none,a,0):DescSt) f) Q st:=by
 refine wpS_forRange (I:=λx c u=>u=st/\c=(none,x,0)/\1<=x/\Rw (λx y=>lk y x) (rest.take x)) ?_ ?_ ⟨rfl,rfl,h1,R⟩
 ·intro x c u hx hxm hI
  obtain⟨rfl,rfl,h1,R⟩:=hI
  obtain⟨n,rfl⟩:∃n,x=n+1:=⟨x-1,by omega⟩
  rw[hf]
  refine wpS_bind (B.ask L (i:=n+1) (j:=n) (by omega) (by omega) ?_)
  cases e:lk rest[n+1] rest[n] with
  |true=>exact wpS_pure ⟨rfl,rfl,by omega,VN (lk:=λx y=>lk y x) (rest:=rest) (n:=n) (λh1 h2=>L.tr h2 h1) (by omega) R e⟩
  |false=>
   refine wpS_bind (B.ask L (i:=n) (j:=n+1) (by omega) (by omega) ?_)
   rw[B.not L (i:=n+1) (j:=n) (by omega) (by omega) (by omega) e]
   exact wpS_pure (q (n+1) hx (by omega) R)
 ·intro c u hI
  obtain⟨rfl,rfl,h1,R⟩:=hI
  have e:max a m=m:=by omega
  rw[e] at R⊢
  exact q m ham (Nat.le_refl _) R
theorem GQ {X:Array Keyed}{n:Nat}(hX:X.toList=pre++rest)(hn:n<=rest.length):(mirror X pre.length (pre.length+n) ((pre.length+n-pre.length)/2)).toList=pre++((rest.take n).reverse++rest.drop n):=by
 have hs:X.size=pre.length+rest.length:=by rw[←Array.length_toList,hX,List.length_append]
 apply List.ext_getElem?
 intro k
 rw[Array.getElem?_toList,getElem?_mirror_all (by omega)]
 by_cases h:pre.length<=k/\k<pre.length+n
 ·rw[if_pos h, ←Array.getElem?_toList,hX,List.getElem?_append_right (by omega),List.getElem?_append_right (by omega),List.getElem?_append_left (by simp;omega),List.getElem?_reverse (by simp;omega),List.getElem?_take,if_pos (by simp;omega)]
  congr 1
  simp
  omega
 ·rw[if_neg h, ←Array.getElem?_toList,hX]
  rcases Nat.lt_or_ge k pre.length with z |z
  ·rw[List.getElem?_append_left z,List.getElem?_append_left z]
  ·rw[List.getElem?_append_right z,List.getElem?_append_right z,List.getElem?_append_right (by simp;omega),List.getElem?_drop]
   congr 1
   simp
   omega
theorem Og {lk:Keyed->Keyed->Bool}:Rw lk (rest.take 1):=by
 cases rest with
 |nil=>exact List.Pairwise.nil
 |cons x l=>exact List.pairwise_singleton ..
theorem RQ (L:AskE prog w A E s κ lk a0)(B:Rst κ a0 st0 pre rest st)(h1:1<=rest.length){Q:Option Nat->SortSt->Prop}
  (q:∀n rest' t,Rst κ a0 st0 pre rest' t->rest'.Perm rest->1<=n->n<=rest'.length->Rw lk (rest'.take n)->Q (some n) t):wpS (model prog w) A E s (countRun' pre.length rest.length) Q st:=by
 rw[countRun'_eq]
 show wpS _ _ _ _ (forIn [1:rest.length] ((none,1):AscSt) _ >>= _) _ _
 refine wpS_bind (up2 L B (Nat.le_refl _) (Nat.le_refl 1) h1 Og (λ_ _=>rfl) λn hn hnm R z=>?_)
 show wpS _ _ _ _ (if(n==rest.length)=true then _ else _) _ _
 by_cases e:n=rest.length
 ·rw[if_pos (by simpa using e)]
  exact wpS_pure (q n rest st B (List.Perm.refl _) hn hnm R)
 ·rw[if_neg (by simpa using e)]
  have z:=z (by omega)
  by_cases g:n > 1
  ·show wpS _ _ _ _ (if n > 1 then _ else _) _ _
   rw[if_pos g]
   obtain⟨m,rfl⟩:∃m,n=m+1:=⟨n-1,by omega⟩
   show wpS _ _ _ _ (ltAt' (pre.length+0) (pre.length+m) >>= _) _ _
   refine wpS_bind (B.ask L (i:=0) (j:=m) (by omega) (by omega) ?_)
   have:=List.pairwise_iff_getElem.mp R 0 m (by rw[List.length_take];omega) (by rw[List.length_take];omega) (by omega)
   rw[List.getElem_take,List.getElem_take] at this
   rw[this]
   exact wpS_pure (q _ rest st B (List.Perm.refl _) hn hnm R)
  ·have e1:n=1:=by omega
   subst e1
   show wpS _ _ _ _ (liftM (rule _) >>= _) _ _
   refine wpS_bind (wpS_lift (wpAny_rule ⟨rfl,?_⟩))
   show wpS _ _ _ _ (forIn [2:rest.length] ((none,2,0):DescSt) _ >>= _) _ _
   refine wpS_bind (Pu L B (Nat.le_refl _) (by omega) (by omega) (VN (lk:=λx y=>lk y x) (rest:=rest) (n:=0) (λh1 h2=>L.tr h2 h1) (by omega) Og z) (λ_ _=>rfl) λn hn2 hnm2 F=>?_)
   show wpS _ _ _ _ (reverseSlice' pre.length (pre.length+n) >>= _) _ _
   rw[reverseSlice'_eq]
   refine wpS_bind (wpS_modify ?_)
   have P:((rest.take n).reverse++rest.drop n).Perm rest:=((List.reverse_perm _).append_right _).trans (by rw[List.take_append_drop])
   have B2:Rst κ a0 st0 pre ((rest.take n).reverse++rest.drop n) (setArr st (mirror (arrOf st) pre.length (pre.length+n) ((pre.length+n-pre.length)/2))):=⟨B.k,B.f,B.p,GQ B.a hnm2,λx hx=>B.m x (P.mem_iff.mp hx),P.nodup_iff.mpr B.n⟩
   have R2:Rw lk (((rest.take n).reverse++rest.drop n).take n):=by
    rw[List.take_append_of_le_length (by simp;omega),List.take_of_length_le (by simp;omega)]
    exact List.pairwise_reverse.mpr F
   have pl:=P.length_eq
   show wpS _ _ _ _ (forIn [n:rest.length] ((none,n):AscSt) _ >>= _) _ _
   exact wpS_bind (up2 L B2 (by omega) (by omega) hnm2 R2 (λ_ _=>rfl) λk hk hkm R3 _=>wpS_pure (q k _ _ B2 P (by omega) (by omega) R3))
end
section
variable {prog:Program}{w:World}{A:Around}{E:Value->Shared->Prop}{s:Shared}{κ:SortKind}{lk:Keyed->Keyed->Bool}{a0:List Keyed}{st0 st t:SortSt}{pre rest:List Keyed}
noncomputable def Ld (r:List Keyed)(k l:Nat):List Keyed:=r.take l++((r.drop k).take 1++((r.take k).drop l++r.drop (k+1)))
theorem Ex {k l:Nat}(hl:l<=k):(Ld rest k l).Perm rest:=by
 unfold Ld
 have e:rest=rest.take l++((rest.take k).drop l++((rest.drop k).take 1++rest.drop (k+1))):=by
  have e1:(rest.drop k).take 1++rest.drop (k+1)=rest.drop k:=by rw[←List.drop_drop,List.take_append_drop]
  have e2:(rest.take k).take l=rest.take l:=by rw[List.take_take,Nat.min_eq_left hl]
  rw[e1, ←List.append_assoc, ←e2,List.take_append_drop,List.take_append_drop]
 conv=>rhs;rw[e]
 rw[←List.append_assoc ((rest.drop k).take 1), ←List.append_assoc ((rest.take k).drop l)]
 exact(List.perm_append_comm.append_right _).append_left _
theorem Fr {X:Array Keyed}{k l:Nat}(hX:X.toList=pre++rest)(hk:k<rest.length)(hl:l<=k):(bubble X (pre.length+k) (pre.length+k-(pre.length+l))).toList=pre++Ld rest k l:=by
 have hs:X.size=pre.length+rest.length:=by rw[←Array.length_toList,hX,List.length_append]
 have gx:∀i,X[pre.length+i]?=rest[i]?:=λi=>by rw[←Array.getElem?_toList,hX,List.getElem?_append_right (by omega),Nat.add_sub_cancel_left]
 apply List.ext_getElem?
 intro p
 rw[Array.getElem?_toList,getElem?_bubble (by omega) _ (by omega),show pre.length+k-(pre.length+k-(pre.length+l))=pre.length+l by omega]
 rcases Nat.lt_or_ge p pre.length with z |z
 ·rw[if_neg (by omega),if_neg (by omega), ←Array.getElem?_toList,hX,List.getElem?_append_left z,List.getElem?_append_left z]
 ·obtain⟨m,rfl⟩:∃m,p=pre.length+m:=⟨p-pre.length,by omega⟩
  rw[List.getElem?_append_right (by omega),Nat.add_sub_cancel_left]
  unfold Ld
  rcases Nat.lt_trichotomy m l with c |c |c
  ·rw[if_neg (by omega),if_neg (by omega),gx,List.getElem?_append_left (by rw[List.length_take];omega),List.getElem?_take,if_pos c]
  ·subst c
   rw[if_pos rfl,gx,List.getElem?_append_right (by rw[List.length_take];omega),List.length_take,Nat.min_eq_left (by omega),Nat.sub_self,List.getElem?_append_left (by rw[List.length_take,List.length_drop];omega),List.getElem?_take,if_pos (by omega),List.getElem?_drop,Nat.add_zero]
  ·rw[if_neg (by omega),List.getElem?_append_right (by rw[List.length_take];omega),List.length_take,Nat.min_eq_left (by omega),List.getElem?_append_right (by rw[List.length_take,List.length_drop];omega),List.length_take,List.length_drop,Nat.min_eq_left (by omega)]
   by_cases d:m<=k
   ·rw[if_pos (by omega),show pre.length+m-1=pre.length+(m-1) by omega,gx,List.getElem?_append_left (by rw[List.length_drop,List.length_take];omega),List.getElem?_drop,List.getElem?_take,if_pos (by omega)]
    congr 1;omega
   ·rw[if_neg (by omega),gx,List.getElem?_append_right (by rw[List.length_drop,List.length_take];omega),List.length_drop,List.length_take,List.getElem?_drop]
    congr 1;omega
theorem IF {k l:Nat}(hk:k<rest.length)(hl:l<=k)(R:Rw lk (rest.take k))(lo:∀x∈rest.take l,lk x rest[k]=true)(hi:∀x∈(rest.take k).drop l,lk rest[k] x=true):Rw lk ((Ld rest k l).take (k+1)):=by
 have e:(Ld rest k l).take (k+1)=rest.take l++([rest[k]]++(rest.take k).drop l):=by
  unfold Ld
  rw[Zu hk, ←List.append_assoc [rest[k]], ←List.append_assoc (rest.take l),List.take_append_of_le_length (by simp;omega),List.take_of_length_le (by simp;omega)]
 have e2:(rest.take k).take l=rest.take l:=by rw[List.take_take,Nat.min_eq_left hl]
 have sp:=List.pairwise_append.mp (show Rw lk ((rest.take k).take l++(rest.take k).drop l) by rw[List.take_append_drop];exact R)
 rw[e2] at sp
 rw[e]
 refine List.pairwise_append.mpr ⟨sp.1,List.pairwise_cons.mpr ⟨hi,sp.2.1⟩,λx hx y hy=>?_⟩
 rcases List.mem_cons.mp hy with rfl |hy
 ·exact lo x hx
 ·exact sp.2.2 x hx y hy
theorem RX (L:AskE prog w A E s κ lk a0)(B:Rst κ a0 st0 pre rest st){n ok:Nat}{Q:Bool->SortSt->Prop}(hn:n<=rest.length)(h1:1<=ok)(hok:ok<=n)(R:Rw lk (rest.take ok))
  (q:∀rest' t,Rst κ a0 st0 pre rest' t->rest'.Perm rest->Rw lk (rest'.take n)->Q true t):wpS (model prog w) A E s (binarySort' pre.length n ok) Q st:=by
 rw[binarySort'_eq]
 refine wpS_bind (wpS_mono (wpS_forRange (I:=λk c t=>c=(none,())/\k<=n/\∃r,Rst κ a0 st0 pre r t/\r.Perm rest/\Rw lk (r.take k)) (Q:=λc t=>c=(none,())/\∃r,Rst κ a0 st0 pre r t/\r.Perm rest/\Rw lk (r.take n)) ?_ ?_ ?_) ?_)
 ·intro k c t hk hkn hI
  obtain⟨rfl,_,r,Bt,P,Rt⟩:=hI
  have hkl:k<r.length:=by rw[P.length_eq];omega
  refine wpS_bind (wpS_mono (wpS_forRange (I:=λx c u=>u=t/\∃l v,c=(none,l,v)/\l<=v/\v<=k/\v+x<=k+l/\(∀x∈r.take l,lk x r[k]=true)/\(∀x∈(r.take k).drop v,lk r[k] x=true))
   (Q:=λc u=>u=t/\∃l,c=(none,l,l)/\l<=k/\(∀x∈r.take l,lk x r[k]=true)/\(∀x∈(r.take k).drop l,lk r[k] x=true)) ?_ ?_ ?_) ?_)
  ·intro x c u _ hx hI
   obtain⟨rfl,l,v,rfl,hlr,hrk,hm,lo,hi⟩:=hI
   by_cases hge:l≥v
   ·have e:v=l:=by omega
    subst e
    show wpS _ _ _ _ (if v≥v then _ else _) _ _
    rw[if_pos (Nat.le_refl _)]
    exact wpS_pure ⟨rfl,v,rfl,hrk,lo,hi⟩
   ·show wpS _ _ _ _ (if l≥v then _ else _) _ _
    rw[if_neg hge]
    show wpS _ _ _ _ (ltAt' (pre.length+k) (pre.length+(l+v)/2) >>= _) _ _
    have m1:(l+v)/2<r.length:=by omega
    refine wpS_bind (Bt.ask L (i:=k) (j:=(l+v)/2) hkl m1 ?_)
    have rk:∀{i j:Nat} (hi:i<r.length) (hj:j<r.length),i<j->j<k->lk r[i] r[j]=true:=λhi hj h1 h2=>by
     have:=List.pairwise_iff_getElem.mp Rt _ _ (by rw[List.length_take];omega) (by rw[List.length_take];omega) h1
     rw[List.getElem_take,List.getElem_take] at this
     exact this
    cases e:lk r[k] r[(l+v)/2] with
    |true=>
     refine wpS_pure ⟨rfl,l,(l+v)/2,rfl,by omega,by omega,by omega,lo,λx hx=>?_⟩
     obtain⟨i,hi,rfl⟩:=List.mem_drop_iff_getElem.mp hx
     rw[List.length_take] at hi
     rw[List.getElem_take]
     rcases Nat.eq_zero_or_pos i with y |y
     ·subst y;exact e
     ·exact L.tr e (rk _ _ (by omega) (by omega))
    |false=>
     have e':=Bt.not L (i:=k) (j:=(l+v)/2) hkl m1 (by omega) e
     refine wpS_pure ⟨rfl,(l+v)/2+1,v,rfl,by omega,by omega,by omega,λx hx=>?_,hi⟩
     obtain⟨i,hi,rfl⟩:=List.mem_take_iff_getElem.mp hx
     rcases Nat.eq_or_lt_of_le (show i<=(l+v)/2 by omega) with y |y
     ·subst y;exact e'
     ·exact L.tr (rk _ _ y (by omega)) e'
  ·intro c u hI
   obtain⟨rfl,l,v,rfl,hlr,hrk,hm,lo,hi⟩:=hI
   have e:v=l:=by omega
   subst e
   exact⟨rfl,v,rfl,hrk,lo,hi⟩
  ·refine⟨rfl,0,k,rfl,by omega,by omega,by omega,λx hx=>by simp at hx,λx hx=>?_⟩
   rw[List.drop_eq_nil_of_le (by rw[List.length_take];omega)] at hx
   cases hx
  ·intro c u hI
   obtain⟨rfl,l,rfl,hlk,lo,hi⟩:=hI
   show wpS _ _ _ _ (moveDown' (pre.length+k) (pre.length+l) >>= _) _ _
   rw[moveDown'_eq]
   have P2:=Ex (rest:=r) hlk
   refine wpS_bind (wpS_modify (wpS_pure ⟨rfl,hkn,Ld r k l,⟨Bt.k,Bt.f,Bt.p,Fr Bt.a hkl hlk,λx hx=>Bt.m x (P2.mem_iff.mp hx),P2.nodup_iff.mpr Bt.n⟩,P2.trans P,IF hkl hlk Rt lo hi⟩))
 ·intro c t hI
  obtain⟨hc,hm,r,Bt,P,Rt⟩:=hI
  have e:max (max ok 1) n=n:=by omega
  rw[e] at Rt
  exact⟨hc,r,Bt,P,Rt⟩
 ·have e:max ok 1=ok:=by omega
  rw[e]
  exact⟨rfl,hok,rest,B,List.Perm.refl _,R⟩
 ·intro c t hI
  obtain⟨rfl,r,Bt,P,Rt⟩:=hI
  exact wpS_pure (q r t Bt P Rt)
end
section
variable {prog:Program}{w:World}{A:Around}{E:Value->Shared->Prop}{s:Shared}{κ:SortKind}{lk:Keyed->Keyed->Bool}{a0:List Keyed}{st t:SortSt}{rest:List Keyed}{runs:List (List Keyed)}
noncomputable def PR:Nat->List (List Keyed)->List (Nat×Nat)
 |_,[]=>[]
 |o,r::rs=>(o,r.length)::PR (o+r.length) rs
theorem F5:∀{rs ss:List (List Keyed)}{o:Nat},PR o (rs++ss)=PR o rs++PR (o+rs.flatten.length) ss
 | [],ss,o=>rfl
 |r::rs,ss,o=>by
  show(o,r.length)::PR (o+r.length) (rs++ss)=(o,r.length)::(PR (o+r.length) rs++_)
  rw[F5,List.flatten_cons,List.length_append,Nat.add_assoc]
theorem BL:∀{rs:List (List Keyed)}{o:Nat},(PR o rs).length=rs.length
 | [],_=>rfl
 |r::rs,o=>by show(PR (o+r.length) rs).length+1=_;rw[BL];rfl
noncomputable abbrev pj (x:Nat×Nat×Nat):Nat×Nat:=(x.1,x.2.1)
structure RI (κ:SortKind)(lk:Keyed->Keyed->Bool)(a0:List Keyed)(runs:List (List Keyed))(rest:List Keyed)(st:SortSt):Prop where
 k:kindOf st=κ
 f:failedOf st=none
 a:(arrOf st).toList=runs.flatten++rest
 p:(pendingOf st).toList.map pj=PR 0 runs
 pm:(runs.flatten++rest).Perm a0
 ri:∀r∈runs,Rw lk r/\0<r.length
theorem RI.len (h:RI κ lk a0 runs rest st):runs.flatten.length+rest.length=a0.length:=by rw[←h.pm.length_eq,List.length_append]
theorem RI.psz (h:RI κ lk a0 runs rest st):(pendingOf st).size=runs.length:=by rw[←BL (o:=0), ←h.p,List.length_map,Array.length_toList]
theorem Dl (L:AskE prog w A E s κ lk a0)(nd:a0.Nodup)(h:RI κ lk a0 runs rest st){i:Nat}(hi:i+1<runs.length){Q:Bool->SortSt->Prop}(q:∀runs' t,RI κ lk a0 runs' rest t->runs'.length+1=runs.length->Q true t):wpS (model prog w) A E s (mergeAt' i) Q st:=by
 obtain⟨R1,a,b,R2,rfl,rfl⟩:∃R1 a b R2,runs=R1++a::b::R2/\R1.length=i:=⟨runs.take i,runs[i],runs[i+1],runs.drop (i+2),by rw[←List.drop_eq_getElem_cons, ←List.drop_eq_getElem_cons,List.take_append_drop],by rw[List.length_take];omega⟩
 obtain⟨hk,hf,ha,hp,pm,ri⟩:=h
 rw[F5,Nat.zero_add] at hp
 obtain⟨P1,P',e,e1,e'⟩:=List.map_eq_append_iff.mp hp
 obtain⟨x,P'',e2,ex,e''⟩:=List.map_eq_cons_iff.mp e'
 obtain⟨y,P2,e3,ey,e4⟩:=List.map_eq_cons_iff.mp e''
 subst e3 e2
 have l1:P1.length=R1.length:=by rw[←BL (o:=0), ←e1,List.length_map]
 obtain⟨x1,x2,pw⟩:=x
 obtain⟨y1,y2,pw2⟩:=y
 cases ex
 cases ey
 replace e:(pendingOf st).toList=P1++(R1.flatten.length,a.length,pw)::(R1.flatten.length+a.length,b.length,pw2)::P2:=e
 replace e4:P2.map pj=PR (R1.flatten.length+a.length+b.length) R2:=e4
 have fl:(R1++a::b::R2).flatten++rest=R1.flatten++a++b++(R2.flatten++rest):=by simp
 have nd':(R1.flatten++a++b++(R2.flatten++rest)).Nodup:=by rw[←fl];exact pm.nodup_iff.mpr nd
 have mem:∀x,x∈R1.flatten++a++b++(R2.flatten++rest)->x∈a0:=λx hx=>pm.mem_iff.mp (by rw[fl];exact hx)
 have ra:=ri a (by simp)
 have rb:=ri b (by simp)
 have gp:∀n:Nat,(pendingOf st)[n]?=(P1++(R1.flatten.length,a.length,pw)::(R1.flatten.length+a.length,b.length,pw2)::P2)[n]?:=λn=>by rw[←e];exact Array.getElem?_toList.symm
 refine Cu L (pre:=R1.flatten) (as:=a) (bs:=b) (post:=R2.flatten++rest) (pw:=pw) (pw2:=pw2) (by rw[ha,fl]) hk hf (by rw[gp, ←l1];simp) (by rw[gp, ←l1,List.getElem?_append_right (by omega)];simp) ra.1 rb.1 (λx hx=>mem x (by simp[hx])) (λx hx=>mem x (by simp[hx])) (λx hx hy=>?_) ra.2 rb.2 λt m tk tf tp ta F=>?_
 ·have:=(List.nodup_append.mp (List.nodup_append.mp nd').1).2.2 x (List.mem_append_right _ hx) x hy
  exact this rfl
 ·have ml:m.length=a.length+b.length:=by rw[F.pm.length_eq,List.length_append]
  refine q (R1++m::R2) t ⟨tk,tf,by rw[ta];simp,?_,?_,λr hr=>?_⟩ (by simp;omega)
  ·have tl:(pendingOf t).toList=P1++(R1.flatten.length,a.length+b.length,pw)::P2:=by
    rw[tp,Array.eraseIdxIfInBounds]
    have sz:R1.length+1<((pendingOf st).setIfInBounds R1.length (R1.flatten.length,a.length+b.length,pw)).size:=by
     rw[Array.size_setIfInBounds, ←Array.length_toList,e];simp;omega
    rw[dif_pos sz,Array.toList_eraseIdx,Array.toList_setIfInBounds,e, ←l1]
    simp[List.eraseIdx_append_of_length_le]
   rw[tl,List.map_append,e1,List.map_cons,e4,F5]
   show _=PR 0 R1++(0+R1.flatten.length,m.length)::PR (0+R1.flatten.length+m.length) R2
   rw[ml,Nat.zero_add,Nat.add_assoc]
  ·refine List.Perm.trans ?_ pm
   rw[fl,show(R1++m::R2).flatten++rest=R1.flatten++m++(R2.flatten++rest) by simp,List.append_assoc R1.flatten a b]
   exact(F.pm.append_left _).append_right _
  ·rcases List.mem_append.mp hr with z |z
   ·exact ri r (List.mem_append_left _ z)
   ·rcases List.mem_cons.mp z with rfl |z
    ·exact⟨F.ri,by omega⟩
    ·exact ri r (by simp[z])
theorem RI.push (h:RI κ lk a0 runs rest st){n:Nat}(h1:1<=n)(hn:n<=rest.length)(R:Rw lk (rest.take n)):RI κ lk a0 (runs++[rest.take n]) (rest.drop n) (setPending st ((pendingOf st).push (runs.flatten.length,n,0))):=by
 have fl:(runs++[rest.take n]).flatten++rest.drop n=runs.flatten++rest:=by simp
 refine⟨h.k,h.f,by rw[fl];exact h.a,?_,by rw[fl];exact h.pm,λr hr=>?_⟩
 ·show((pendingOf st).push _).toList.map pj=_
  rw[Array.toList_push,List.map_append,h.p,F5]
  show _=PR 0 runs++[(0+runs.flatten.length,(rest.take n).length)]
  rw[List.length_take,Nat.min_eq_left hn,Nat.zero_add]
  rfl
 ·rcases List.mem_append.mp hr with z |z
  ·exact h.ri r z
  ·rw[List.mem_singleton.mp z]
   exact⟨R,by rw[List.length_take];omega⟩
end
section
variable {prog:Program}{w:World}{A:Around}{E:Value->Shared->Prop}{s:Shared}{κ:SortKind}{lk:Keyed->Keyed->Bool}{a0:List Keyed}{st t:SortSt}{rest:List Keyed}{runs:List (List Keyed)}
noncomputable def PH (lo n:Nat):SM (ForInStep (Option Unit×Nat)):=(modify λs=>setPending s ((pendingOf s).push (lo,n,0))) >>= λ_=>pure (.yield (none,lo+n))
noncomputable def mgN (z pw:Nat):SM (Option Unit×Unit):=forIn [:z] ((none,()):Option Unit×Unit) λ_ _=>(get:SM SortSt) >>= λv=>match(if(pendingOf v).size > 1 then(pendingOf v)[(pendingOf v).size-2]? else none) with
 |some (_,_,older)=>if older<=pw then pure (.done (none,())) else mergeAt' ((pendingOf v).size-2) >>= λb=>if(!b)=true then pure (.done (some (),())) else pure (.yield (none,()))
 |_=>pure (.done (none,()))
noncomputable def Fl (z lo n:Nat):SM (ForInStep (Option Unit×Nat)):=(get:SM SortSt) >>= λu=>match(pendingOf u).back? with
 |some (s1,n1,_)=>mgN z (power' z (2*s1+n1) (2*s1+n1+n1+n) z) >>= λc=>match c.1 with
  |some r=>pure (.done (some r,lo))
  |none=>(modify λs=>setPending s ((pendingOf s).modify ((pendingOf s).size-1) λx=>(x.1,x.2.1,power' z (2*s1+n1) (2*s1+n1+n1+n) z))) >>= λ_=>PH lo n
 |_=>PH lo n
theorem OV {l:List (Nat×Nat×Nat)}{i pw:Nat}:(l.modify i λx=>(x.1,x.2.1,pw)).map pj=l.map pj:=by
 apply List.ext_getElem?
 intro k
 rw[List.getElem?_map,List.getElem?_map,List.getElem?_modify]
 cases l[k]? with
 |none=>rfl
 |some x=>
  by_cases h:i=k
  ·simp[h]
  ·simp[h]
theorem O6 (L:AskE prog w A E s κ lk a0)(nd:a0.Nodup)(I:RI κ lk a0 runs rest st){z pw:Nat}{Q:Option Unit×Unit->SortSt->Prop}(q:∀runs' t,RI κ lk a0 runs' rest t->Q (none,()) t):wpS (model prog w) A E s (mgN z pw) Q st:=by
 unfold mgN
 refine wpS_forRange (I:=λ_ c t=>c=(none,())/\∃runs,RI κ lk a0 runs rest t) ?_ ?_ ⟨rfl,runs,I⟩
 ·intro x c t _ _ hI
  obtain⟨rfl,runs,I⟩:=hI
  refine wpS_bind (wpS_get ?_)
  cases e:(if(pendingOf t).size > 1 then(pendingOf t)[(pendingOf t).size-2]? else none) with
  |none=>exact wpS_pure (q runs t I)
  |some v=>
   obtain⟨v1,v2,v3⟩:=v
   show wpS _ _ _ _ (if v3<=pw then _ else _) _ _
   split
   ·exact wpS_pure (q runs t I)
   ·have h1:(pendingOf t).size > 1:=by
     by_cases h:(pendingOf t).size > 1
     ·exact h
     ·rw[if_neg h] at e;cases e
    have h2:=I.psz
    refine wpS_bind (Dl L nd I (by omega) λruns' u I' _=>?_)
    exact wpS_pure ⟨rfl,runs',I'⟩
 ·intro c t hI
  obtain⟨rfl,runs,I⟩:=hI
  exact q runs t I
theorem Ej (I:RI κ lk a0 runs rest st){n lo:Nat}(h1:1<=n)(hn:n<=rest.length)(R:Rw lk (rest.take n))(hl:lo+rest.length=a0.length){Q:ForInStep (Option Unit×Nat)->SortSt->Prop}(q:∀runs' t,RI κ lk a0 runs' (rest.drop n) t->runs'.flatten.length=lo+n->Q (.yield (none,lo+n)) t):wpS (model prog w) A E s (PH lo n) Q st:=by
 have len:=I.len
 have e:lo=runs.flatten.length:=by omega
 subst e
 refine wpS_bind (wpS_modify (wpS_pure (q _ _ (I.push h1 hn R) ?_)))
 simp
 omega
theorem HI (L:AskE prog w A E s κ lk a0)(nd:a0.Nodup)(I:RI κ lk a0 runs rest st){z n lo:Nat}(h1:1<=n)(hn:n<=rest.length)(R:Rw lk (rest.take n))(hl:lo+rest.length=a0.length){Q:ForInStep (Option Unit×Nat)->SortSt->Prop}(q:∀runs' t,RI κ lk a0 runs' (rest.drop n) t->runs'.flatten.length=lo+n->Q (.yield (none,lo+n)) t):wpS (model prog w) A E s (Fl z lo n) Q st:=by
 unfold Fl
 refine wpS_bind (wpS_get ?_)
 cases(pendingOf st).back? with
 |none=>exact Ej I h1 hn R hl q
 |some v=>
  obtain⟨s1,n1,v3⟩:=v
  refine wpS_bind (O6 L nd I λruns' t I'=>?_)
  have I2:∀{pw:Nat},RI κ lk a0 runs' rest (setPending t ((pendingOf t).modify ((pendingOf t).size-1) λx=>(x.1,x.2.1,pw))):=⟨I'.k,I'.f,I'.a,by
   show((pendingOf t).modify _ _).toList.map pj=_
   rw[Array.toList_modify,OV]
   exact I'.p,I'.pm,I'.ri⟩
  exact wpS_bind (wpS_modify (Ej I2 h1 hn R hl q))
theorem DF:∀{rs:List (List Keyed)},(∀r∈rs,0<r.length)->rs.length<=rs.flatten.length
 | [],_=>Nat.le_refl _
 |r::rs,h=>by
  have:=DF (rs:=rs) λr hr=>h r (.tail _ hr)
  have:=h r List.mem_cons_self
  rw[List.flatten_cons,List.length_append,List.length_cons]
  omega
theorem LO (L:AskE prog w A E s κ lk a0)(nd:a0.Nodup)(hk:kindOf st=κ)(hf:failedOf st=none)(hp:pendingOf st= #[])(ha:(arrOf st).toList=a0){Q:Unit->SortSt->Prop}
  (q:∀t,(arrOf t).toList.Perm a0->failedOf t=none->Rw lk (arrOf t).toList->Q () t):wpS (model prog w) A E s sortRuns' Q st:=by
 rw[sortRuns'_eq]
 refine wpS_bind (wpS_get ?_)
 have hs:(arrOf st).size=a0.length:=by rw[←ha,Array.length_toList]
 show wpS _ _ _ _ (forIn [0:(arrOf st).size] ((none,0):Option Unit×Nat) _ >>= _) _ _
 rw[hs]
 generalize minRun' a0.length a0.length 0=mr
 have I0:RI κ lk a0 [] a0 st:=⟨hk,hf,ha,by rw[hp];rfl,List.Perm.refl _,λr hr=>by cases hr⟩
 refine wpS_bind (wpS_mono (wpS_forRange (I:=λx c t=>∃ runs rest,RI κ lk a0 runs rest t/\c=(none,runs.flatten.length)/\x<=runs.flatten.length) (Q:=λc t=>∃ runs,RI κ lk a0 runs [] t/\c.1=none) ?_ ?_ ⟨[],a0,I0,rfl,Nat.le_refl _⟩) ?_)
 ·intro x c t _ hx hI
  obtain⟨runs,rest,I,rfl,hxl⟩:=hI
  have len:=I.len
  by_cases hge:runs.flatten.length≥a0.length
  ·show wpS _ _ _ _ (if runs.flatten.length≥a0.length then _ else _) _ _
   rw[if_pos hge]
   have:rest=[]:=List.length_eq_zero_iff.mp (by omega)
   subst this
   exact wpS_pure ⟨runs,I,rfl⟩
  ·show wpS _ _ _ _ (if runs.flatten.length≥a0.length then _ else _) _ _
   rw[if_neg hge]
   have B:Rst κ a0 t runs.flatten rest t:=⟨I.k,I.f,rfl,I.a,λx hx=>I.pm.mem_iff.mp (List.mem_append_right _ hx),(List.nodup_append.mp (I.pm.nodup_iff.mpr nd)).2.1⟩
   show wpS _ _ _ _ (countRun' runs.flatten.length (a0.length-runs.flatten.length) >>= _) _ _
   rw[show a0.length-runs.flatten.length=rest.length by omega]
   refine wpS_bind (RQ L B (by omega) λn r u Bu P n1 n2 R=>?_)
   have RIr:∀{r u},Rst κ a0 t runs.flatten r u->r.Perm rest->RI κ lk a0 runs r u:=λBu P=>⟨Bu.k,Bu.f,Bu.a,by rw[Bu.p];exact I.p,(P.append_left _).trans I.pm,I.ri⟩
   have nxt:∀{n r u}{R':ForInStep (Option Unit×Nat)->SortSt->Prop},RI κ lk a0 runs r u->1<=n->n<=r.length->Rw lk (r.take n)->(∀runs' rest' t,RI κ lk a0 runs' rest' t->x+1<=runs'.flatten.length->R' (.yield (none,runs'.flatten.length)) t)->wpS (model prog w) A E s (Fl a0.length runs.flatten.length n) R' u:=fun {n r u R'} I h1 hn R q=>HI L nd I h1 hn R I.len λruns' t I' e=>by
    have:=q runs' _ t I' (by omega)
    rw[e] at this
    exact this
   show wpS _ _ _ _ (if n<mr then _ else _) _ _
   by_cases hlt:n<mr
   ·rw[if_pos hlt]
    refine wpS_bind (wpS_lift (wpAny_rule ⟨rfl,?_⟩))
    show wpS _ _ _ _ (binarySort' runs.flatten.length (min rest.length mr) n >>= _) _ _
    have pl:=P.length_eq
    refine wpS_bind (RX L Bu (by omega) n1 (by omega) R λr' v Bv P' R'=>?_)
    have pl':=P'.length_eq
    have fn:=nxt (R':=λr st'=>match r with
     | .done c'=>∃ runs,RI κ lk a0 runs [] st'/\c'.fst=none
     | .yield c'=>∃ runs rest,RI κ lk a0 runs rest st'/\c'=(none,runs.flatten.length)/\x+1<=runs.flatten.length) (RIr Bv (P'.trans P)) (by omega) (by omega) R' λa b c d e=>⟨a,b,d,rfl,e⟩
    have e:∀{N:SM (ForInStep (Option Unit×Nat))},Fl a0.length runs.flatten.length (min rest.length mr)=N->wpS (model prog w) A E s N _ v:=λh=>h▸fn
    refine wpS_mono (e ?_) λr t' h=>by cases r<;> exact h
    symm
    unfold Fl
    refine congrArg ((get:SM SortSt) >>= ·) (funext λv=>?_)
    cases(pendingOf v).back? with
    |none=>rfl
    |some y=>
     obtain⟨s1,n1,v3⟩:=y
     unfold mgN
     refine congr (congrArg bind (congrArg (forIn _ _) (funext λ_=>funext λ_=>congrArg ((get:SM SortSt) >>= ·) (funext λy=>?_)))) (funext λc=>?_)
     ·dsimp only
      cases(if(pendingOf y).size > 1 then(pendingOf y)[(pendingOf y).size-2]? else none) with
      |none=>rfl
      |some y=>rfl
     ·obtain⟨r,_⟩:=c
      cases r<;> rfl
   ·rw[if_neg hlt]
    have fn:=nxt (R':=λr st'=>match r with
     | .done c'=>∃ runs,RI κ lk a0 runs [] st'/\c'.fst=none
     | .yield c'=>∃ runs rest,RI κ lk a0 runs rest st'/\c'=(none,runs.flatten.length)/\x+1<=runs.flatten.length) (RIr Bu P) n1 n2 R λa b c d e=>⟨a,b,d,rfl,e⟩
    have e:∀{N:SM (ForInStep (Option Unit×Nat))},Fl a0.length runs.flatten.length n=N->wpS (model prog w) A E s N _ u:=λh=>h▸fn
    refine wpS_mono (e ?_) λr t' h=>by cases r<;> exact h
    symm
    unfold Fl
    refine congrArg ((get:SM SortSt) >>= ·) (funext λv=>?_)
    cases(pendingOf v).back? with
    |none=>rfl
    |some y=>
     obtain⟨s1,n1,v3⟩:=y
     unfold mgN
     refine congr (congrArg bind (congrArg (forIn _ _) (funext λ_=>funext λ_=>congrArg ((get:SM SortSt) >>= ·) (funext λy=>?_)))) (funext λc=>?_)
     ·dsimp only
      cases(if(pendingOf y).size > 1 then(pendingOf y)[(pendingOf y).size-2]? else none) with
      |none=>rfl
      |some y=>rfl
     ·obtain⟨r,_⟩:=c
      cases r<;> rfl
 ·intro c t hI
  obtain⟨runs,rest,I,rfl,hxl⟩:=hI
  have len:=I.len
  have:rest=[]:=List.length_eq_zero_iff.mp (by omega)
  subst this
  exact⟨runs,I,rfl⟩
 ·intro c t hI
  obtain⟨c1,c2⟩:=c
  obtain⟨runs,I,e⟩:=hI
  cases e
  have l0:runs.length<=a0.length:=Nat.le_trans (DF λr hr=>(I.ri r hr).2) (by have:=I.len;omega)
  refine wpS_bind (wpS_mono (wpS_forRange (I:=λx c t=>c=(none,())/\∃runs,RI κ lk a0 runs [] t/\(runs.length<=1∨runs.length+x<=a0.length)) (Q:=λc t=>c=(none,())/\∃runs,RI κ lk a0 runs [] t/\runs.length<=1) ?_ ?_ ⟨rfl,runs,I, .inr l0⟩) ?_)
  ·intro x c t _ hx hI
   obtain⟨rfl,runs,I,hr⟩:=hI
   have ps:=I.psz
   refine wpS_bind (wpS_get ?_)
   by_cases h1:(pendingOf t).size<=1
   ·show wpS _ _ _ _ (if(pendingOf t).size<=1 then _ else _) _ _
    rw[if_pos h1]
    exact wpS_pure ⟨rfl,runs,I,by omega⟩
   ·show wpS _ _ _ _ (if(pendingOf t).size<=1 then _ else _) _ _
    rw[if_neg h1]
    refine wpS_bind (Dl L nd I ?_ λruns' u I' hl=>?_)
    ·split<;> split<;> omega
    ·exact wpS_pure ⟨rfl,runs',I',by omega⟩
  ·intro c t hI
   obtain⟨rfl,runs,I,hr⟩:=hI
   exact⟨rfl,runs,I,by omega⟩
  ·intro c t hI
   obtain⟨rfl,runs,I,hr⟩:=hI
   refine wpS_pure (q t (by rw[I.a];exact I.pm) I.f ?_)
   rw[I.a]
   cases runs with
   |nil=>exact List.Pairwise.nil
   |cons r rs=>
    cases rs with
    |nil=>
     have:=(I.ri r List.mem_cons_self).1
     simpa using this
    |cons r2 rs=>simp at hr
end
section
variable {prog:Program}{w:World}{A:Around}{E:Value->Shared->Prop}{s:Shared}
theorem IQ {κ:SortKind}{lk:Keyed->Keyed->Bool}{a:Addr}{vs:List Value}{n:Nat}{Q:Fin->Shared->Prop}(ho:s.heap.get? a=some (seqObj "list" vs.toArray n))(h64:vs.length<=100000)(nd:(pairsOf vs).toList.Nodup)
  (hk:2<=vs.length->∀{Q:SortKind->Shared->Prop},Q κ {s with heap:=mid s.heap a vs}->wpAny (model prog w) A (keyKind' vs.toArray) Q E {s with heap:=mid s.heap a vs})(L:AskE prog w A E {s with heap:=mid s.heap a vs} κ lk (pairsOf vs).toList)
  (q:∀out:Array Keyed,out.Perm (pairsOf vs)->Rw lk out.toList->Q (.done (.ret .none)) {s with heap:=sortedHeap s.heap a vs (out.map (·.2))}):
  wpAny (model prog w) A (Builtin.«list.sort» ⟨[.ref a],[]⟩) Q E s:=by
 rw[list_sort_plain]
 have hlt:=Heap.lt_size ho
 obtain⟨e1,ho1⟩:∃e,(s.heap.update a (Obj.mapSeq λ_=>#[])).get? a=some (seqObj "list" #[] e):=⟨_,get?_update_seq ho λ_=>#[]⟩
 have ho2:(mid s.heap a vs).get? a=some (seqObj "list" #[] e1):=by
  unfold mid
  rw[Heap.get?_push_ne _ _ _ (by rw[size_push',Heap.size_update];exact Nat.ne_of_lt (Nat.lt_succ_of_lt hlt)),Heap.get?_push_ne _ _ _ (by rw[Heap.size_update];exact Nat.ne_of_lt hlt)]
  exact ho1
 refine wpAny_bind (listItems_at ho rfl (wpAny_bind (listUpdate_at ho rfl (wpAny_bind (seqEpoch_at ho1 rfl (wpAny_bind (wpAny_newTuple (wpAny_bind (wpAny_newList (wpAny_holding ?_))))))))))
 show wpAny (model prog w) A _ Q E {s with heap:=mid s.heap a vs}
 have tail:∀(st:SortSt),(arrOf st).Perm (pairsOf vs)->failedOf st=none->Rw lk (arrOf st).toList->wpAny (model prog w) A (do
   let touched:=(←seqEpoch a) !=e1
   Builtin.List.listUpdate (.ref a) λ_=>(arrOf st).map (·.2)
   if let some e:=failedOf st then rule "list.sort.comparison-raised";throw e
   if touched then rule "list.sort.modified";raiseError "ValueError" "list modified during sort"
   ret .none) Q E {s with heap:=mid s.heap a vs}:=λst hp hf hr=>by
  refine wpAny_bind (seqEpoch_at ho2 rfl (wpAny_bind (listUpdate_at ho2 rfl ?_ (hsz2:=?_))))
  ·rw[hf]
   simp only[bne_self_eq_false,Bool.false_eq_true,if_false]
   exact wpAny_pure (q (arrOf st) hp hr)
  ·have:=hp.size_eq
   rw[pairsOf_size] at this
   rw[Array.size_map,this,sizeLine_eq];omega
 have hsz:vs.toArray.size=vs.length:=List.size_toArray
 by_cases h2:vs.toArray.size<2
 ·rw[if_pos h2,if_pos h2]
  refine wpAny_bind (wpAny_pure ?_)
  show wpAny _ _ ((pure ():StateT SortSt Sem Unit).run (SortSt.mk' general' (vs.toArray.zip vs.toArray) #[] 7 none) >>= _) _ _ _
  rw[StateT.run_pure]
  refine wpAny_bind (wpAny_pure (tail (SortSt.mk' general' (vs.toArray.zip vs.toArray) #[] 7 none) (Array.Perm.refl _) rfl ?_))
  show Rw lk (pairsOf vs).toList
  have hl:(pairsOf vs).toList.length<2:=by rw[Array.length_toList,pairsOf_size];omega
  match h:(pairsOf vs).toList,hl with
  | [],_=>exact List.Pairwise.nil
  | [_],_=>exact List.pairwise_singleton ..
 ·rw[if_neg h2,if_neg h2]
  refine wpAny_bind (hk (by rw[←hsz];omega) ?_)
  refine wpAny_bind (wpAny_mono (LO L nd (st:=SortSt.mk' κ (vs.toArray.zip vs.toArray) #[] 7 none) (Q:=λ_ st=>(arrOf st).Perm (pairsOf vs)/\failedOf st=none/\Rw lk (arrOf st).toList) rfl rfl rfl rfl λt a1 a2 a3=>⟨Array.perm_iff_toList_perm.mpr a1,a2,a3⟩) ?_ λ_ _ e=>e)
  intro p s' hh
  obtain⟨⟨⟩,st⟩:=p
  obtain⟨rfl,hp,hf,hr⟩:=hh
  exact tail st hp hf hr
end
section
variable {X:Cx}{β:Type}[DecidableEq β]{r:Enc β}{lt:β->β->Bool}{d:Nat}
noncomputable def Li (K:PySem.W.Frag)(r:Enc β)(lt:β->β->Bool):List V->Hp->VK->Prop:=λxs H Q=>∃ l ys as,xs=[.ref l]/\SqL K H l ys/\Paired (rL r K H) ys as/\as.Nodup/\as.length<=100000/\
 ∀p zs,H p=none->(zs.zip (UJ (ltG lt) as)).Perm (ys.zip as)->zs.length=as.length->Q (.ref p) (upd H p (.lst zs))
theorem Gz (E:EqOk r d)(L:LtOk r lt d)(O:OrdT lt)(K:PySem.W.Frag)(hK:X.K=K)(hu:X.A.units+(d+3)<cLine):Z2 X (.builtin "sorted") (Li K r lt):=by
 subst hK
 intro pins s σ H xs us Q I rr h
 obtain⟨l,ys,as,rfl,hq,hp,hnd,h64,q⟩:=h
 obtain⟨u,rfl,ru⟩:=UU rr
 cases ru
 obtain⟨its,rv,pl,hz⟩:=I.list hq
 obtain⟨T,e1,e2,e3,hT⟩:=Op (F:=λv y a=>X4 y v/\rL r X.K H y a) rv hp λv y a h1 h2=>⟨h1,h2⟩
 have hlen:its.length=as.length:=by rw[←e1, ←e3,List.length_map,List.length_map]
 have huq:∀t u,t∈T->u∈T->t.1=u.1->t.2.2=u.2.2:=λt u ht hu' e=>by
  obtain⟨r1,l1⟩:=hT t ht
  obtain⟨r2,l2⟩:=hT u hu'
  obtain⟨b1,z1,w1,m1⟩:=id l1
  obtain⟨b2,z2,w2,m2⟩:=id l2
  rw[w1] at r1 l1
  rw[w2] at r2 l2
  have r1':t.1= .ref b1:=r1
  have r2':u.1= .ref b2:=r2
  rw[r1',r2'] at e
  cases e
  exact(Hi E).uniq I l1 l2
 refine Calls.call_function_entry kind_sorted plain_sorted entry_sorted (args_sorted1 _) ?_
 unfold Builtin.«sorted»
 refine wpAny_bind (m:=checkCount "sorted" 1 1 _) (wpAny_pure (wpAny_bind (collect_list pl.isList (wpAny_bind (wpAny_newList ?_)) (by rw[hlen,sizeLine_eq];omega))))
 let g0:=((s.heap.push (seqObj "list" #[] 0)).update s.heap.objs.size (Obj.mapSeq (· ++its.toArray))).push (seqObj "list" its.toArray 0)
 have hsz:((s.heap.push (seqObj "list" #[] 0)).update s.heap.objs.size (Obj.mapSeq (· ++its.toArray))).objs.size=s.heap.objs.size+1:=by rw[Heap.size_update,size_push']
 have hoL:g0.get? (s.heap.objs.size+1)=some (seqObj "list" its.toArray 0):=by
  show(Heap.push _ _).get? _=_
  rw[←hsz];exact Heap.get?_push_size _ rfl
 have hold:∀b o,s.heap.get? b=some o->g0.get? b=some o:=λb o hb=>by
  have hlt:=Heap.lt_size hb
  show(Heap.push _ _).get? _=_
  rw[Heap.get?_push_ne _ _ _ (by rw[hsz];exact Nat.ne_of_lt (Nat.lt_succ_of_lt hlt)),Heap.get?_update_ne _ _ _ _ (Nat.ne_of_lt hlt),Heap.get?_push_ne _ _ _ (Nat.ne_of_lt hlt)]
  exact hb
 show wpAny _ _ _ _ _ {s with heap:=g0}
 rw[hsz]
 have hne:∀{b o},s.heap.get? b=some o->b≠s.heap.objs.size+1:=λhb=>Nat.ne_of_lt (Nat.lt_succ_of_lt (Heap.lt_size hb))
 have I2:Inv X pins σ H {s with heap:=mid g0 (s.heap.objs.size+1) its,toks:=s.toks}:=I.kept λb o hb=>L0 (hne hb) (hold b o hb)
 have hitm:∀v,v∈its->∃t,t∈T/\t.1=v:=λv hv=>by rw[←e1] at hv;exact List.mem_map.mp hv
 have htyp:∀v∈its,({s with heap:=mid g0 (s.heap.objs.size+1) its}:Shared).TypeIs v "list":=λv hv=>by
  obtain⟨t,ht,rfl⟩:=hitm v hv
  obtain⟨r1,a,zs,w1,m1,_⟩:=hT t ht
  rw[w1] at r1
  have r1':t.1= .ref a:=r1
  obtain⟨its',_,⟨o,n,g1,c1,_,_⟩,_⟩:=I2.list m1
  rw[r1']
  exact⟨o,g1,c1⟩
 have OL:=V1 O
 have key:∀x∈(pairsOf its).toList,∃t,t∈T/\t.1=x.1/\kfo T x.1=t.2.2:=λx hx=>by
  rw[pairsOf_toList] at hx
  obtain⟨t,ht,e⟩:=hitm _ (mem_zip_self hx).2
  exact⟨t,ht,e,by rw[←e];exact El huq ht⟩
 have h3:(its.zip its).map (λp=>kfo T p.1)=as:=by
  have:(its.zip its).map (λp=>kfo T p.1)=((its.zip its).map Prod.fst).map (kfo T):=by rw[List.map_map];rfl
  rw[this,List.map_fst_zip (Nat.le_refl _), ←e1, ←e3,List.map_map]
  exact List.map_congr_left λt ht=>El huq ht
 have ndm:((pairsOf its).toList.map λp=>kfo T p.1).Nodup:=by rw[pairsOf_toList,h3];exact hnd
 have nd:(pairsOf its).toList.Nodup:=List.Pairwise.of_map _ (λa b z e=>z (congrArg (λp:Keyed=>kfo T p.1) e)) ndm
 have inj:∀x∈(pairsOf its).toList,∀y∈(pairsOf its).toList,x≠y->kfo T x.1≠kfo T y.1:=λx hx y hy hne e=>by
  obtain⟨i,hi,rfl⟩:=List.getElem_of_mem hx
  obtain⟨j,hj,rfl⟩:=List.getElem_of_mem hy
  have hP:=List.pairwise_iff_getElem.mp ndm
  rcases Nat.lt_trichotomy i j with z |z |z
  ·exact hP i j (by simpa using hi) (by simpa using hj) z (by simpa using e)
  ·subst z;exact hne rfl
  ·exact hP j i (by simpa using hj) (by simpa using hi) z (by simpa using e.symm)
 have LK:∀(A:Around) (Er:Value->Shared->Prop),A.units+(d+1)<cLine->AskE X.prog X.w A Er {s with heap:=mid g0 (s.heap.objs.size+1) its} oneType' (λx y=>ltG lt (kfo T x.1) (kfo T y.1)) (pairsOf its).toList:=λA Er hA=>{
  irr:=λx=>OL.irr _
  tr:=OL.tr
  tot:=λhx hy hne=>OL.tot (inj _ hx _ hy hne)
  ask:=fun {st x y Q} hk hx hy qq=>by
   obtain⟨t,ht,et,kt⟩:=key x hx
   obtain⟨t',ht',et',kt'⟩:=key y hy
   rw[kt,kt'] at qq
   rw[lt'_eq]
   refine wpS_bind (wpS_get ?_)
   rw[hk,keyLt'_oneType]
   refine wpS_bind (wpS_lift (wpAny_attempt ?_))
   rw[oneLt'_eq, ←et, ←et']
   simp only[if_true]
   obtain⟨r1,l1⟩:=hT t ht
   obtain⟨r2,l2⟩:=hT t' ht'
   obtain⟨b1,b2,o1,o2,v1,v2,g1,c1,g2,c2,hcall⟩:=MV E L I2 (prog:=X.prog) (w:=X.w) (A:=A) (Er:=λe s'=>s'=({s with heap:=mid g0 (s.heap.objs.size+1) its}:Shared)/\wpS (model X.prog X.w) A Er {s with heap:=mid g0 (s.heap.objs.size+1) its} _ Q st) r1 r2 l1 l2 hA (Q:=λv s'=>v= .bool (ltG lt t.2.2 t'.2.2)/\s'=_) ⟨rfl,rfl⟩
   rw[v1,v2]
   refine wpAny_bind (wpAny_cRoomFor (by omega) (wpAny_bind (wpAny_callSpecialIfBound?_slot ⟨_,g1,c1⟩ F.slot_list_lt (thn hcall λv s' ⟨ev,es⟩=>?_))))
   subst ev es
   exact wpAny_truthy_bool ⟨rfl,wpS_pure qq⟩}
 refine wpAny_bind (wpAny_holding (wpAny_call_entry slot_list_sort ⟨_,hoL,rfl⟩ entry_list_sort (IQ hoL (by omega) nd (λh2 _ hq=>CD htyp (λe=>by rw[e] at h2;exact absurd h2 (by decide)) hq) (LK _ _ (by rw[Qd,Qd];omega)) λout hp hr=>⟨_,rfl,wpAny_pure ⟨_,rfl,?_⟩⟩) (args_list_sort _)))
 have hpl:out.toList.Perm (its.zip its):=by rw[←pairsOf_toList];exact Array.perm_iff_toList_perm.mp hp
 have hself:∀p∈out.toList,p.1=p.2:=λp hp'=>(mem_zip_self (hpl.mem_iff.mp hp')).1
 have hfst:out.toList.map (·.1)=(out.map (·.2)).toList:=by
  rw[Array.toList_map];exact List.map_congr_left λp hp'=>hself p hp'
 have hperm:((out.map (·.2)).toList).Perm its:=by
  have:=hpl.map Prod.fst
  rw[List.map_fst_zip (Nat.le_refl _)] at this
  rw[←hfst];exact this
 obtain⟨T',hT',eT'⟩:=Ge hperm (l:=T) (f:=(·.1)) e1.symm
 have hk2:T'.map (·.2.2)=out.toList.map λp=>kfo T p.1:=by
  have h1:T'.map (·.2.2)=(T'.map (·.1)).map (kfo T):=by
   rw[List.map_map];exact List.map_congr_left λt ht=>(El huq (hT'.mem_iff.mp ht)).symm
  rw[h1,eT', ←hfst,List.map_map];rfl
 have hol:out.size=its.length:=by have:=hp.size_eq;rwa [pairsOf_size] at this
 have hsort:T'.map (·.2.2)=UJ (ltG lt) as:=by
  refine Df OL hnd (by rw[←e3];exact hT'.map _) ?_
  rw[hk2]
  exact List.pairwise_map.mpr hr
 have vv:∀{U:List (Value×V×List β)},(∀t∈U,X4 t.2.1 t.1)->Ya (U.map (·.2.1)) (U.map (·.1)):=fun {U}=>by
  induction U with
  |nil=>intro _;exact .nil
  |cons t U ih=>intro h;exact .cons (h t List.mem_cons_self) (ih λu hu'=>h u (List.mem_cons_of_mem _ hu'))
 obtain⟨e,he⟩:=sortedAll_at s.heap its (out.map (·.2))
 have hfr:H (s.heap.objs.size+1)=none:=I.hok.fresh (Nat.le_succ _)
 have hvv:Ya (T'.map (·.2.1)) (out.map (·.2)).toList:=by rw[←eT'];exact vv λt ht=>(hT t (hT'.mem_iff.mp ht)).1
 have hzl:(T'.map (·.2.1)).length=as.length:=by rw[List.length_map,hT'.length_eq, ←e3,List.length_map]
 refine⟨.ref (s.heap.objs.size+1),_,I.laid (t':=s.toks) (λb o e=>sortedAll_old e) (Nat.le_succ _) (show YG X.prog X.w _ _ _ (.lst (T'.map (·.2.1))) from⟨?_,(Array.map (λp:Keyed=>p.2) out).toList,e,hvv,he⟩),rfl,q _ _ hfr ?_ hzl⟩
 ·rw[hzl,sizeLine_eq];omega
 ·rw[←hsort, ←e2]
  have:(T'.map (·.2.1)).zip (T'.map (·.2.2))=T'.map λt=>(t.2.1,t.2.2):=by
   rw[List.zip_map']
  rw[this]
  exact hT'.map _
end
section
variable {K:PySem.W.Frag}{Er:Exc->Hp->Prop}{S:SC}{OO OO':List (List Xq)}{σ:St}{α β γ δ:Type}
theorem Iv [DecidableEq β]{r:Enc β}{lt:β->β->Bool}{o:OE (List β)}[z:MonoO o][zf:FrzC o (rV r)]{te:TE}{m:Rs (List (List β))}(he:Ev K Er S OO OO' σ te (oL o) m):
  Ev K Er S OO OO' σ (tCB (Li K r lt) (Xo te YN)) (oL o) (m.bind λas=>chk (as.length<=100000/\as.Nodup) (.ok (UJ (ltG lt) as))):=λH Q w s P=>by
 refine he H _ w s ?_
 cases m with
 |bad=>exact P
 |err x=>exact P
 |ok as=>
  intro v C H1 s1 w1 m1 ⟨p,xs,Cs,e,q,c⟩
  subst c
  obtain⟨⟨h64,hnd⟩,P⟩:=PZ.chk (show PZ Er (FO K OO OO' (oL o) Q) H (chk (as.length<=100000/\as.Nodup) (.ok (UJ (ltG lt) as))) from P)
  have hH:H1 p=some (.lst xs):=w1.cell (p, .lst xs) List.mem_cons_self
  refine⟨p,xs,as,by rw[e],SqL.of hH,?_,hnd,h64,λp2 zs hp2 hpm hlen=>?_⟩
  ·refine q.pair λa b c hc ho=>PM (zf.frz ho Xz λx hx=>w1.cell x (List.mem_cons_of_mem _ (List.mem_flatten.mpr ⟨c,hc,hx⟩)))
  ·have hsl:(UJ (ltG lt) as).length=as.length:=(Qj _ as).length_eq
   obtain⟨Cs',q',hCs⟩:=q.perm hpm (by rw[hsl];exact hlen)
   have w2:W (Cs'.flatten::OO') H1:=w1.sub (OO':=Cs.flatten::OO') (by simp) |>.of (by simp only[List.flatten_cons];exact hCs.flatten.append_right _)
   have w3:=w2.new hp2 (o:=.lst zs) rfl
   have w4:W (((p2, .lst zs)::Cs'.flatten)::OO') (upd H1 p2 (.lst zs)):=w3.of (by simp)
   have mm:Xv (hid H1 (((p,HO.lst xs)::Cs.flatten)::OO')) (hid (upd H1 p2 (.lst zs)) (((p2,HO.lst zs)::Cs'.flatten)::OO')):=λb ob hb=>by
    obtain⟨b1,b2⟩:=X1 hb
    have hne:b≠p2:=XR b1 hp2
    refine Zg (by rw[XL hne];exact b1) λhz=>b2 ?_
    rw[XX,List.map_cons] at hz⊢
    rcases List.mem_cons.mp hz with y |y
    ·exact absurd y hne
    ·refine List.mem_cons_of_mem _ ?_
     rcases List.mem_append.mp y with y |y
     ·exact List.mem_append_left _ ((hCs.flatten.map _).mem_iff.mp y)
     ·exact List.mem_append_right _ y
   exact P (.ref p2) _ _ (s1.trans (XE hp2 _)) w4 (m1.trans mm) ⟨p2,zs,Cs',rfl,q'.imp λ_ _ _ h=>z.mono mm h,rfl⟩
end
section
variable {K:PySem.W.Frag}{Er:Exc->Hp->Prop}{S:SC}{OO:List (List Xq)}{σ:St}{α β γ ρ:Type}{ι:Type}{u:TS}
theorem BA {o:OE ρ}{kf:Nat}{Cf:List Xq}{wi:TI}{g:TG}{tb:TS}{r:Enc α}{κ:Type}{m:Rs (List α)}{body:γ->α->Rs (Ctl ρ γ)}{f:γ->Rs ρ}(J:Jn γ ι)(T:∀OO,Tgt K OO g r κ)(x0:ι)(g0:γ)(he:Walk K Er S OO σ wi r m)(h1:OO=J.oo x0)(h2:σ=J.ss x0)(h3:∀h,S.p h->(J.sc g0 x0).p h)
  (hb:∀g x a v,Sv Er ((T (J.oo x)).sc a v (J.sc g x)) (J.oo x) ((T (J.oo x)).set v (J.ss x)) tb (NS K o kf Cf J) (body g a))
  (hr:∀g x,Sv Er (J.sc g x) (J.oo x) (J.ss x) u (GE K o kf Cf) (f g)):Sv Er S OO σ (ZK (NT wi g tb) u) (GE K o kf Cf) (m.bind λas=>(Uc as g0 body).bind (Qa f)):=λH D w s P=>by
 refine he.ok w s ?_
 cases em:m with
 |bad=>rw[em] at P;exact P
 |err x=>rw[em] at P;exact λH' s'=>P H' (Xz.trans s')
 |ok as=>
  rw[em] at P
  have P:PZ Er (GE K o kf Cf D) (hid H OO) ((Uc as g0 body).bind (Qa f)):=P
  intro It H' s' hgo hstop
  refine⟨λi mm σ' H2=>mm=as.length-i/\i<=as.length/\∃x gg,σ'=J.ss x/\W (J.oo x) H2/\Xv (hid H' OO) (hid H2 (J.oo x))/\(J.sc gg x).p (hid H2 (J.oo x))/\PZ Er (GE K o kf Cf D) (hid H2 (J.oo x)) ((Uc (as.drop i) gg body).bind (Qa f)),⟨as.length,rfl,Nat.zero_le _,x0,g0,h2,?_,?_,?_,?_⟩,?_⟩
  ·rw[←h1];exact w.keep s'
  ·rw[←h1];exact Xv.refl _
  ·rw[←h1];exact h3 _ (S.mono _ _ (Xi s') s)
  ·rw[←h1,List.drop_zero];exact PZ.tr (FdOk.tr D) (Xi s') P
  ·rintro i mm σ' H2 ⟨rfl,hi,x,gg,rfl,w2,m2,sc2,P2⟩
   by_cases hlt:i<as.length
   ·right
    have ha:as[i]?=some as[i]:=by simp[hlt]
    obtain⟨h4,h5⟩:=hgo i _ ha (J.oo x) H2 w2 m2
    refine⟨h4,λσ3 H3=>∃ x gg,σ3=J.ss x/\W (J.oo x) H3/\Xv (hid H' OO) (hid H3 (J.oo x))/\(J.sc gg x).p (hid H3 (J.oo x))/\PZ Er (GE K o kf Cf D) (hid H3 (J.oo x)) ((Uc (as.drop (i+1)) gg body).bind (Qa f)),λσ3 H3 q=>⟨as.length-(i+1),Nat.sub_lt_sub_left hlt (Nat.lt_succ_self i),rfl,hlt,q⟩,λy H3 hy=>?_⟩
    obtain⟨s3,r3⟩:=h5 y H3 hy
    have w3:=w2.keep s3
    have m3:=Xi (OO:=J.oo x) s3
    refine(T (J.oo x)).ok r3 ((J.sc gg x).mono _ _ m3 sc2) λv hv=>hb gg x as[i] v H3 _ w3 hv ?_
    rw[List.drop_eq_getElem_cons hlt] at P2
    have P3:PZ Er (GE K o kf Cf D) (hid H2 (J.oo x)) ((body gg as[i]).bind λc=>(match c with
     | .ret r=>Rs.ok (Ctl.ret r)
     | .nx g'=>Uc (as.drop (i+1)) g' body).bind (Qa f)):=by rw[←Yi];exact P2
    cases eb:body gg as[i] with
    |bad=>rw[eb] at P3;exact P3
    |err x=>rw[eb] at P3;exact λH4 s4=>P3 H4 (m3.trans s4)
    |ok c=>
     rw[eb] at P3
     cases c with
     |ret r=>exact FdOk.tr (Fd:=GE K o kf Cf) D r _ _ m3 P3
     |nx g'=>exact λx' H4 w4 m4 sc4=>⟨x',g',rfl,w4,m2.trans (m3.trans m4),sc4,PZ.tr (FdOk.tr D) (m3.trans m4) P3⟩
   ·left
    have e:i=as.length:=Nat.le_antisymm hi (Nat.not_lt.mp hlt)
    subst e
    refine⟨hstop (J.oo x) H2 w2 m2,hr gg x H2 D w2 sc2 ?_⟩
    rw[List.drop_length] at P2
    exact P2
end
section
variable {K:PySem.W.Frag}{Er:Exc->Hp->Prop}{S:SC}{OO:List (List Xq)}{σ:St}{α:Type}
theorem Br {te:TE}{r:Enc α}{m:Rs (List α)}(he:EvS K Er S OO σ te (rV r) m):EvS K Er S OO σ te (JQ (rV r)) (m.bind λa=>.ok (some a)):=λH Q w s P=>by
 refine he H Q w s ?_
 cases m with
 |bad=>exact P
 |err x=>exact P
 |ok a=>
  intro v H' s' ⟨p,xs,e,h⟩
  exact P v H' s' ⟨by rw[e];exact(λz=>nomatch z),p,xs,e,h⟩
end
section
variable {X:Cx}
theorem Cr {prog:Program}{w:World}{κ:Type}[DecidableEq κ](knd:HeapKind prog w κ)(d:Addr)(hd:(d==sysModules)=false):
  MeetsIn prog w (Builtin.«dict.__len__» ⟨[.ref d],[]⟩) (λ_ R s=>∃ xs:List (κ×Addr×Value),s.heap.DictOfH knd d xs/\R (.ok (.ret (.int xs.length s.toks))) {s with toks:=s.toks+1}):=
 .of_wp λA R s z=>by
  obtain⟨xs,⟨o,es,ep,g1,_,g2,g3,_⟩,q⟩:=z
  show wpAny _ _ (dictSize d >>= _) _ _ s
  rw[dictSize]
  refine wpAny_bind (wpAny_bind (wpAny_dictEntries g1 g2 (wpAny_pure (wpAny_bind (wpAny_pendingCount_other hd (wpAny_ret_mkInt ?_))))))
  rw[size_of_entries g3,Nat.add_zero]
  exact q
theorem CC:Z2 X (.builtin "len") (λxs H Q=>∃ a kvs,xs=[V.ref a]/\H a=some (.dT kvs)/\Q (.int kvs.length) H):=by
 intro pins s σ H xs us Q I r h
 obtain⟨a,kvs,rfl,ha,q⟩:=h
 obtain⟨u,rfl,ru⟩:=UU r
 cases ru
 obtain⟨z,hd,ys,rel,dd⟩:=Ph I.hok ha
 have hl:ys.length=kvs.length:=by first |exact rel.length.symm |exact(Paired.len rel).symm
 rw[sizeLine_eq] at z
 refine Calls.call_function_entry kind_len plain_len entry_len (args_len1 _) ?_
 rw[Builtin.«len»]
 refine wpAny_bind (m:=oneArg "len" _) (wpAny_pure (wpAny_bind (wpAny_callSpecial?_slot dd.typeIs F.slot_dict_len (call_meetsIn F.slot_dict_len dd.typeIs F.entry_dict_len (F.args_dict_len_1 _) (Cr _ a hd) ⟨ys,dd,?_⟩))))
 rw[hl]
 refine wpAny_bind (wpAny_holding (wpAny_pure (wpAny_bind (wpAny_letGo ?_))))
 show wpAny _ _ (if(kvs.length:Int)<0 then _ else if(kvs.length:Int)≥2^63 then _ else _) _ _ _
 rw[if_neg (by omega),if_neg (by omega)]
 exact wpAny_bind (wpAny_mkInt (wpAny_pure ⟨_,rfl, .int kvs.length,H,(I.tok _),⟨_,rfl⟩,q⟩))
end
section
variable {K:PySem.W.Frag}{Er:Exc->Hp->Prop}{S:SC}{OO:List (List Xq)}{σ:St}{α:Type}
theorem ED {ta:TE}{r:Enc α}{m:Rs (List (List Int×α))}(ha:EvB K Er S OO σ ta (rDT r) m):EvB K Er S OO σ (tCB (λxs H Q=>∃ a kvs,xs=[V.ref a]/\H a=some (.dT kvs)/\Q (.int kvs.length) H) (Xo ta YN)) Xc (m.bind λd=>.ok (d.length:Int)):=λH Q w s P=>
 ha.run w s FB.tr P λa x H1 s1 w1 q1 r9 P1=>by obtain⟨p,kvs,e,q,pr⟩:=r9;exact⟨p,kvs,by rw[e],q,P1 _ H1 (Xv.refl _) (by rw[Paired.len pr];rfl)⟩
end
section
variable {α β γ δ ρ:Type}{K:PySem.W.Frag}{Er:Exc->Hp->Prop}{S T:SC}{OO:List (List Xq)}{σ l:St}{i j k n:Nat}{v w:V}{x:Option V}{r:Enc α}{q:Enc β}{t:Enc γ}{o:OE α}{a:α}{C D:List Xq}{te ta tb tc:TE}
class Nn (i j:Nat):Prop where h:i≠j
instance:Nn 0 (j+1):=⟨by omega⟩
instance:Nn (i+1) 0:=⟨by omega⟩
instance [x:Nn i j]:Nn (i+1) (j+1):=⟨by have:=x.h;omega⟩
class Lk {β:Type}(l:List β)(k:Nat):Prop where h:k<l.length
instance {b:β}{l:List β}:Lk (b::l) 0:=⟨by simp⟩
instance {b:β}{l:List β}[x:Lk l k]:Lk (b::l) (k+1):=⟨by simpa using x.h⟩
instance {b:β}{l:List β}[x:Lk l k]:Lk (l.set j b) k:=⟨by simpa using x.h⟩
instance {b:β}:Lk (List.replicate (n+1) b) 0:=⟨by simp⟩
instance {b:β}[x:Lk (List.replicate n b) k]:Lk (List.replicate (n+1) b) (k+1):=⟨by simpa using x.h⟩
class Sl (σ:St)(i:Nat)(v:outParam V):Prop where h:σ[i]?=some (some v)
instance:Sl (some v::l) 0 v:=⟨rfl⟩
instance [y:Sl l i v]:Sl (x::l) (i+1) v:=⟨y.h⟩
instance [y:Lk σ i]:Sl (σ.set i (some v)) i v:=⟨by simp[y.h]⟩
instance [y:Sl σ i v][z:Nn j i]:Sl (σ.set j x) i v:=⟨by rw[List.getElem?_set_ne z.h];exact y.h⟩
class Cp (caps:List (Nat×Str))(j:Nat)(i:outParam Nat):Prop where h:∃s,caps[j]?=some (i,s)
instance {s:Str}{c:List (Nat×Str)}:Cp ((i,s)::c) 0 i:=⟨s,rfl⟩
instance {p:Nat×Str}{c:List (Nat×Str)}[y:Cp c j i]:Cp (p::c) (j+1) i:=⟨y.h⟩
instance {s:Str}{z:List Str}{c:List (Nat×Str)}:Lk (Y4 (List.length (s::z)) c σ) 0:=⟨by unfold Y4;simp;omega⟩
instance {s s':Str}{z:List Str}{c:List (Nat×Str)}:Lk (Y4 (List.length (s::s'::z)) c σ) 1:=⟨by unfold Y4;simp;omega⟩
instance {s:Str}{c:List (Nat×Str)}[y:Cp c j i][z:Sl σ i v]:Sl (Y4 (List.length [s]) c σ) (j+1) v:=⟨by
 obtain⟨s,h⟩:=y.h
 unfold Y4
 rw[List.getElem?_append_right (by simp),List.getElem?_map]
 simp[h,z.h]⟩
instance {s s':Str}{c:List (Nat×Str)}[y:Cp c j i][z:Sl σ i v]:Sl (Y4 (List.length [s,s']) c σ) (j+2) v:=⟨by
 obtain⟨s,h⟩:=y.h
 unfold Y4
 rw[List.getElem?_append_right (by simp),List.getElem?_map]
 simp[h,z.h]⟩
class Ow (OO:List (List Xq))(k:outParam Nat)(C:List Xq):Prop where h:OO[k]?=some C
instance:Ow (C::OO) 0 C:=⟨rfl⟩
instance [y:Ow OO k C]:Ow (D::OO) (k+1) C:=⟨y.h⟩
instance [y:Lk OO k]:Ow (OO.set k C) k C:=⟨by simp[y.h]⟩
instance [y:Ow OO k C][z:Nn j k]:Ow (OO.set j D) k C:=⟨by rw[List.getElem?_set_ne z.h];exact y.h⟩
class Fc (S:SC)(K:PySem.W.Frag)(v:V){α:outParam Type}(r:outParam (Enc α))(a:outParam α):Prop where h:∀x,S.p x->r K x v a
instance [MonoE r]:Fc (S.and (SC.one K r v a)) K v r a:=⟨λ_ s=>s.2⟩
instance (priority:=900)[y:Fc S K v r a]:Fc (S.and T) K v r a:=⟨λx s=>y.h x s.1⟩
class Fo (S:SC)(K:PySem.W.Frag)(v:V){α:outParam Type}(o:outParam (OE α))(a:outParam α)(C:outParam (List Xq)):Prop where h:∀x,S.p x->o K x v a C
instance [MonoO o]:Fo (S.and (SC.oneO K o v a C)) K v o a C:=⟨λ_ s=>s.2⟩
instance (priority:=900)[y:Fo S K v o a C]:Fo (S.and T) K v o a C:=⟨λx s=>y.h x s.1⟩
class Su (S T:SC):Prop where h:∀x,S.p x->T.p x
instance:Su S S:=⟨λ_ s=>s⟩
instance (priority:=900):Su S SC.nil:=⟨λ_ _=>SC.t⟩
instance (priority:=800)[MonoE r][y:Su S T][z:Fc S K v r a]:Su S (T.and (SC.one K r v a)):=⟨λx s=>⟨y.h x s,z.h x s⟩⟩
instance (priority:=800)[MonoO o][y:Su S T][z:Fo S K v o a C]:Su S (T.and (SC.oneO K o v a C)):=⟨λx s=>⟨y.h x s,z.h x s⟩⟩
instance (priority:=700){T':SC}[y:Su S T']:Su (S.and T) T':=⟨λx s=>y.h x s.1⟩
variable (K Er S OO σ te) in
class CB {α:outParam Type}(r:outParam (Enc α))(m:outParam (Rs α)):Prop where h:EvB K Er S OO σ te r m
variable (K Er S OO σ te) in
class CW {α:Type}(r:Enc α)(m:outParam (Rs α)):Prop where h:EvB K Er S OO σ te r m
variable (K Er S OO σ te) in
class CS {α:outParam Type}(r:outParam (Enc α))(m:outParam (Rs α)):Prop where h:EvS K Er S OO σ te r m
variable (K Er S OO σ te) in
class CV {α:Type}(r:Enc α)(m:outParam (Rs α)):Prop where h:EvS K Er S OO σ te r m
variable (K Er S OO σ te) in
class CN {α:outParam Type}(o:outParam (OE α))(m:outParam (Rs α)):Prop where h:Ev K Er S OO OO σ te o m
variable (K Er S OO σ te) in
class CM {α:outParam Type}(o:outParam (OE α))(m:outParam (Rs α)):Prop where h:Ev K Er S OO OO σ te o m
variable (K Er S OO σ te) in
class CO {α:Type}(o:OE α)(m:outParam (Rs α)):Prop where h:Ev K Er S OO OO σ te o m
variable (K Er S OO σ te) in
class CL {α:outParam Type}(r:outParam (Enc α))(m:outParam (Rs (List α))):Prop where h:EvL K Er S OO σ te r m
class CT (K:PySem.W.Frag)(Er:Exc->Hp->Prop)(S:SC)(OO:List (List Xq))(σ:St)(tt:TT)(m:outParam (Rs Bool)):Prop where h:EvT Er S OO σ tt m
class CP (K:PySem.W.Frag)(Er:Exc->Hp->Prop)(S:SC)(OO:List (List Xq))(σ:St)(tt:TO)(m:outParam (Rs (Option Int))):Prop where h:EvP Er S OO σ tt m
variable (K Er S OO σ) in
class CA {α:Type}(t:TA)(r:Enc α)(m:outParam (Rs (List α))):Prop where h:EvA K Er S OO σ t r m
variable (K Er S OO σ) in
class Cw (wi:TI){α:outParam Type}(r:outParam (Enc α))(m:outParam (Rs (List α))):Prop where h:Walk K Er S OO σ wi r m
variable {m m':Rs α}{ml:Rs (List α)}{mi mj:Rs Int}{mb mc:Rs Bool}{ms:Rs Str}{tt tu:TT}
theorem qB [c:CB K Er S OO σ te r m]:EvB K Er S OO σ te r m:=c.h
theorem qs [c:CV K Er S OO σ te r m]:EvS K Er S OO σ te r m:=c.h
theorem qS [c:CS K Er S OO σ te r m]:EvS K Er S OO σ te r m:=c.h
theorem qn [c:CO K Er S OO σ te o m]:Ev K Er S OO OO σ te o m:=c.h
theorem qN [c:CN K Er S OO σ te o m]:Ev K Er S OO OO σ te o m:=c.h
theorem qM [c:CM K Er S OO σ te o m]:Ev K Er S OO OO σ te o m:=c.h
theorem ql [c:CL K Er S OO σ te r ml]:EvL K Er S OO σ te r ml:=c.h
variable (K) in
theorem qt [c:CT K Er S OO σ tt mb]:EvT Er S OO σ tt mb:=c.h
variable (K) in
theorem qp {tt:TO}{m:Rs (Option Int)}[c:CP K Er S OO σ tt m]:EvP Er S OO σ tt m:=c.h
theorem qw {wi:TI}[c:Cw K Er S OO σ wi r ml]:Walk K Er S OO σ wi r ml:=c.h
-- as wanted
instance [c:CB K Er S OO σ te r m]:CW K Er S OO σ te r m:=⟨c.h⟩
instance (priority:=900){m:Rs (Option α)}[c:CB K Er S OO σ te (JQ r) m]:CW K Er S OO σ te r (m.bind HA):=⟨B7 c.h⟩
instance [FlatE r][c:CW K Er S OO σ te r m]:CV K Er S OO σ te r m:=⟨EvB.sh c.h⟩
instance (priority:=900)[c:CS K Er S OO σ te r m]:CV K Er S OO σ te r m:=⟨c.h⟩
instance [c:CN K Er S OO σ te o m]:CO K Er S OO σ te o m:=⟨c.h⟩
instance (priority:=900)[c:CV K Er S OO σ te r m]:CO K Er S OO σ te (oF r) m:=⟨EvS.ev c.h⟩
instance [c:CN K Er S OO σ te o m]:CM K Er S OO σ te o m:=⟨c.h⟩
instance (priority:=900)[c:CS K Er S OO σ te r m]:CM K Er S OO σ te (oF r) m:=⟨EvS.ev c.h⟩
instance {o:OE α}:CO K Er S OO σ (CK YN) (oL o) (.ok []):=⟨Zk⟩
-- one of the other
instance (priority:=500)[FrzC o r][c:CN K Er S OO σ te o m]:CB K Er S OO σ te r m:=⟨Ev.toB c.h⟩
instance (priority:=600)[FlatE r][c:CB K Er S OO σ te r m]:CS K Er S OO σ te r m:=⟨EvB.sh c.h⟩
instance (priority:=500)[FrzC o r][c:CN K Er S OO σ te o m]:CS K Er S OO σ te r m:=⟨Ev.sh c.h⟩
instance (priority:=700)[c:CS K Er S OO σ te (rV r) ml]:CL K Er S OO σ te r ml:=⟨EvS.ls c.h⟩
instance (priority:=800)[MonoE r][c:CN K Er S OO σ te (oL (oF r)) ml]:CL K Er S OO σ te r ml:=⟨Ev.ls c.h⟩
-- names
instance [y:Sl σ i v][z:Fc S K v r a][MonoE r]:CB K Er S OO σ (Jz i) r (.ok a):=⟨Xn i y.h z.h⟩
instance (priority:=900)[y:Sl σ i v][z:Fo S K v o a C][u:Ow OO k C][FrzC o r]:CB K Er S OO σ (Jz i) r (.ok a):=⟨V5 i k y.h u.h z.h⟩
instance [y:Sl σ i v][z:Fc S K v r a]:CS K Er S OO σ (Jz i) r (.ok a):=⟨Yb i y.h z.h⟩
-- constants
instance {n:Int}:CB K Er S OO σ (tC (.int n)) Xc (.ok n):=⟨QM n⟩
instance {b:Bool}:CB K Er S OO σ (tC (.bl b)) XC (.ok b):=⟨Q2 b⟩
-- numbers
section
variable [x':CW K Er S OO σ ta Xc mi][y':CW K Er S OO σ tb Xc mj]
instance:CB K Er S OO σ (tOp (rI0 λi j=>V.int (i+j)) ta tb) Xc (mi.bind λa=>mj.bind λb=>.ok (a+b)):=⟨E8 x'.h y'.h⟩
instance:CB K Er S OO σ (tOp (rI0 λi j=>V.int (i-j)) ta tb) Xc (mi.bind λa=>mj.bind λb=>.ok (a-b)):=⟨MX x'.h y'.h⟩
instance:CB K Er S OO σ (tOp (rI NU λi j=>V.int (i*j)) ta tb) Xc (mi.bind λa=>mj.bind λb=>M8 a b):=⟨GF x'.h y'.h⟩
instance:CB K Er S OO σ (tOp (rI (λx j=>(0:Int)<j) λi j=>V.int (i % j)) ta tb) Xc (mi.bind λa=>mj.bind λb=>Mg a b):=⟨No x'.h y'.h⟩
instance:CB K Er S OO σ (tOp (rI (λx j=>(0:Int)<j/\j.natAbs.log2<9000) λi j=>V.int (i/j)) ta tb) Xc (mi.bind λa=>mj.bind λb=>Pm a b):=⟨L4 x'.h y'.h⟩
instance:CB K Er S OO σ (tOp (rI Rk λi j=>V.int (i^j.toNat)) ta tb) Xc (mi.bind λa=>mj.bind λb=>P8 a b):=⟨NB x'.h y'.h⟩
instance:CB K Er S OO σ (tOp (rI0 λi j=>V.bl (decide (i<j))) ta tb) XC (mi.bind λa=>mj.bind λb=>.ok (decide (a<b))):=⟨Lh x'.h y'.h⟩
instance:CB K Er S OO σ (tOp (rI0 λi j=>V.bl (decide (i<=j))) ta tb) XC (mi.bind λa=>mj.bind λb=>.ok (decide (a<=b))):=⟨Pe x'.h y'.h⟩
instance:CB K Er S OO σ (tOp (rI0 λi j=>V.bl (decide (j<i))) ta tb) XC (mi.bind λa=>mj.bind λb=>.ok (decide (b<a))):=⟨N4 x'.h y'.h⟩
instance:CB K Er S OO σ (tOp (rI0 λi j=>V.bl (decide (j<=i))) ta tb) XC (mi.bind λa=>mj.bind λb=>.ok (decide (b<=a))):=⟨OH x'.h y'.h⟩
instance:CB K Er S OO σ (tCB (λxs H Q=>∃ (i:Int),∃(j:Int),xs=[V.int i,V.int j]/\Q (V.int (if j > i then j else i)) H) (Xo ta (Xo tb YN))) Xc (mi.bind λa=>mj.bind λb=>.ok (max a b)):=⟨M6 x'.h y'.h⟩
instance:CB K Er S OO σ (tCB (λxs H Q=>∃ (i:Int),∃(j:Int),xs=[V.int i,V.int j]/\Q (V.int (if j<i then j else i)) H) (Xo ta (Xo tb YN))) Xc (mi.bind λa=>mj.bind λb=>.ok (min a b)):=⟨BV x'.h y'.h⟩
instance:Cw K Er S OO σ (MF (Xo ta YN)) Xc (mi.bind λn=>Pl (0:Int) n):=⟨G0 x'.h⟩
instance:CB K Er S OO σ (tUn (rU λi=>V.int (-i)) ta) Xc (mi.bind λa=>.ok (-a)):=⟨Nb x'.h⟩
instance:CB K Er S OO σ (tCB (λxs H Q=>∃ (i:Int),xs=[V.int i]/\Q (V.int (if i<(0:Int) then-i else i)) H) (Xo ta YN)) Xc (mi.bind λa=>.ok (a.natAbs:Int)):=⟨M9 x'.h⟩
instance:CP K Er S OO σ (NE ta) (mi.bind λi=>.ok (some i)):=⟨HX x'.h⟩
instance:CP K Er S OO σ Fh (.ok none):=⟨IJ⟩
end
section
variable [DecidableEq α][Scal r][MonoE r][y':CB K Er S OO σ tb r m'][x':CW K Er S OO σ ta r m]
instance:CB K Er S OO σ (tOp rEq ta tb) XC (m.bind λa=>m'.bind λb=>.ok (decide (a=b))):=⟨VB x'.h y'.h⟩
instance:CB K Er S OO σ (tOp rNe ta tb) XC (m.bind λa=>m'.bind λb=>.ok !decide (a=b)):=⟨FN x'.h y'.h⟩
end
section
variable [DecidableEq α][Scal r][MonoE r][x':CB K Er S OO σ ta r m][y':CW K Er S OO σ tb r m']
instance (priority:=900):CB K Er S OO σ (tOp rEq ta tb) XC (m.bind λa=>m'.bind λb=>.ok (decide (a=b))):=⟨VB x'.h y'.h⟩
instance (priority:=900):CB K Er S OO σ (tOp rNe ta tb) XC (m.bind λa=>m'.bind λb=>.ok !decide (a=b)):=⟨FN x'.h y'.h⟩
end
section
variable {m m':Rs Mx}[x':CB K Er S OO σ ta rMx m][y':CB K Er S OO σ tb rMx m']
end
section
variable [DecidableEq α][MonoE r][x':CB K Er S OO σ ta r m][y':CW K Er S OO σ tb r m']
instance:CB K Er S OO σ (tOp (P7 K r) ta tb) XC (m.bind λa=>m'.bind λb=>.ok (decide (a=b))):=⟨Bc x'.h y'.h⟩
instance:CB K Er S OO σ (tOp (PJ K r) ta tb) XC (m.bind λa=>m'.bind λb=>.ok !decide (a=b)):=⟨UR x'.h y'.h⟩
end
-- truths
section
variable [x':CW K Er S OO σ ta XC mb][y':CW K Er S OO σ tb XC mc][u':CT K Er S OO σ tt mb][w':CT K Er S OO σ tu mc]
instance:CT K Er S OO σ (tB ta) mb:=⟨UZ x'.h⟩
instance:CT K Er S OO σ (Mt ta) mb:=⟨Ym x'.h⟩
instance:CT K Er S OO σ (Px tt) (mb.bind λb=>.ok !b):=⟨Jj u'.h⟩
instance:CT K Er S OO σ (Rb tt tu) (NO mb mc):=⟨Ma u'.h w'.h⟩
instance:CT K Er S OO σ (tOr tt tu) (orR mb mc):=⟨KY u'.h w'.h⟩
instance:CB K Er S OO σ (Mj ta) XC (mb.bind λb=>.ok !b):=⟨DO x'.h⟩
instance:CB K Er S OO σ (Mz ta tb) XC (NO mb mc):=⟨Dq x'.h y'.h⟩
end
section
variable [u':CT K Er S OO σ tt mb][x':CB K Er S OO σ ta r m][y':CW K Er S OO σ tb r m']
end
-- items
section
variable [MonoE r][j':CW K Er S OO σ tb Xc mi]
section
variable [x':CB K Er S OO σ ta (rV r) ml]
instance:CB K Er S OO σ (tOp (HB K) ta tb) r (ml.bind λas=>mi.bind λi=>atR as i):=⟨Um x'.h j'.h⟩
end
section
variable [x':CB K Er S OO σ ta (rPL r) ml]
end
section
variable [x':CL K Er S OO σ ta r ml]
instance:CS K Er S OO σ (tOp (HB K) ta tb) r (ml.bind λas=>mi.bind λi=>atR as i):=⟨O4 x'.h j'.h⟩
instance:CN K Er S OO σ (tOp P0 ta tb) (oL (oF r)) (ml.bind λas=>mi.bind λn=>Bm as n):=⟨Oi x'.h j'.h⟩
end
end
section
variable [x':CB K Er S OO σ ta (rV r) ml]
instance:CB K Er S OO σ (tCB (Dk K) (Xo ta YN)) Xc (ml.bind λas=>.ok (as.length:Int)):=⟨Qy x'.h⟩
end
section
variable [x':CB K Er S OO σ ta (rPL r) ml]
end
section
variable {m:Rs (Int×Int)}[x':CB K Er S OO σ ta (rP2 Xc Xc) m]
end
section
variable {m:Rs (α×β)}[x':CB K Er S OO σ ta (rP2 r q) m]
instance:CB K Er S OO σ (tOp (Et K) ta (tC (V.int (0:Int)))) r (m.bind λp=>.ok p.fst):=⟨MU x'.h⟩
instance:CB K Er S OO σ (tOp (Et K) ta (tC (V.int (1:Int)))) q (m.bind λp=>.ok p.snd):=⟨Mq x'.h⟩
end
section
variable {m:Rs (α×β)}[y':CS K Er S OO σ ta (rP2 r q) m]
instance:CS K Er S OO σ (tOp (Et K) ta (tC (V.int (0:Int)))) r (m.bind λp=>.ok p.fst):=⟨MA y'.h⟩
instance:CS K Er S OO σ (tOp (Et K) ta (tC (V.int (1:Int)))) q (m.bind λp=>.ok p.snd):=⟨MM y'.h⟩
end
-- lists, tuples
section
variable [MonoE r]{t:TA}{ml':Rs (List α)}[x':CL K Er S OO σ ta r ml][y':CL K Er S OO σ tb r ml']{tl th:TO}{pl ph:Rs (Option Int)}[u':CP K Er S OO σ tl pl][w':CP K Er S OO σ th ph]
instance:CN K Er S OO σ (tOp PN ta tb) (oL (oF r)) (ml.bind λas=>ml'.bind λbs=>NL as bs):=⟨Ln x'.h y'.h⟩
instance:CN K Er S OO σ (tSl (Pf K) ta tl th) (oL (oF r)) (ml.bind λas=>pl.bind λlo=>ph.bind λhi=>.ok (CY as lo hi)):=⟨Iu x'.h u'.h w'.h⟩
instance:CN K Er S OO σ (tCB (Fg K) (Xo ta YN)) (oL (oF r)) (ml.bind λas=>.ok as):=⟨E6 x'.h⟩
end
section
variable [MonoE r]{tl th:TO}{pl ph:Rs (Option Int)}[z':CB K Er S OO σ ta (rPL r) ml][u':CP K Er S OO σ tl pl][w':CP K Er S OO σ th ph]
instance:CB K Er S OO σ (tSl (Pq K) ta tl th) (rPL r) (ml.bind λas=>pl.bind λlo=>ph.bind λhi=>chk (¬(HT.sIx as.length 0 lo=0/\HT.sIx as.length as.length hi=as.length)) (.ok (CY as lo hi))):=⟨Uv z'.h u'.h w'.h⟩
end
instance [MonoE r]:CA K Er S OO σ YN r (.ok []):=⟨Mr⟩
instance [MonoE r]{t:TA}[x':CV K Er S OO σ ta r m][y':CA K Er S OO σ t r ml]:CA K Er S OO σ (Xo ta t) r (m.bind λa=>ml.bind λas=>.ok (a::as)):=⟨F8 x'.h y'.h⟩
instance (priority:=1100)[MonoE r]{t:TA}[x':CA K Er S OO σ t r ml]:CO K Er S OO σ (CK t) (oL (oF r)) (ml.bind λas=>chk (as.length<=sizeLine) (.ok as)):=⟨E7 x'.h⟩
instance (priority:=1100)[MonoE r]{t:TA}[x':CA K Er S OO σ t r ml]:CW K Er S OO σ (CK t) (rV r) (ml.bind λas=>chk (as.length<=sizeLine) (.ok as)):=⟨Ev.toB (E7 x'.h)⟩
section
variable {t:TA}[MonoE r][x':CS K Er S OO σ ta r m][y':CA K Er S OO σ t r ml]
instance:CN K Er S OO σ (CK (Xo ta t)) (oL (oF r)) ((m.bind λa=>ml.bind λas=>.ok (a::as)).bind λas=>chk (as.length<=sizeLine) (.ok as)):=⟨E7 (F8 x'.h y'.h)⟩
end
section
variable {m1:Rs β}[MonoE r][MonoE q][x':CS K Er S OO σ ta r m][y':CS K Er S OO σ tb q m1]
instance:CS K Er S OO σ (NR (Xo ta (Xo tb YN))) (rP2 r q) (m.bind λa=>m1.bind λb=>.ok (a,b)):=⟨J2 x'.h y'.h⟩
end
instance [MonoE r][x':CS K Er S OO σ ta (rV r) ml]:Cw K Er S OO σ (Ir K ta) r ml:=⟨YI x'.h⟩
-- calls
section
variable {α1 α2 α3 α4:Type}{r1:Enc α1}{r2:Enc α2}{r3:Enc α3}{r4:Enc α4}{m1:Rs α1}{m2:Rs α2}{m3:Rs α3}{m4:Rs α4}{td:TE}{o:OE ρ}[FlatO o][MonoE r1][MonoE r2][MonoE r3]{f1:α1->Rs ρ}{f2:α1->α2->Rs ρ}{f3:α1->α2->α3->Rs ρ}{f4:α1->α2->α3->α4->Rs ρ}[x1:CW K Er S OO σ ta r1 m1][x2:CW K Er S OO σ tb r2 m2][x3:CW K Er S OO σ tc r3 m3][x4:CW K Er S OO σ td r4 m4]
instance:CN K Er S OO σ (JO (sp1 r1 o f1 K) [] E0 (Xo ta YN)) o (m1.bind λa=>noE (f1 a)):=⟨Ql (o:=o) (f:=f1) x1.h⟩
instance:CN K Er S OO σ (JO (sp2 r1 r2 o f2 K) [] E0 (Xo ta (Xo tb YN))) o (m1.bind λa=>m2.bind λb=>noE (f2 a b)):=⟨Zw (o:=o) (f:=f2) x1.h x2.h⟩
instance:CN K Er S OO σ (JO (sp3 r1 r2 r3 o f3 K) [] E0 (Xo ta (Xo tb (Xo tc YN)))) o (m1.bind λa=>m2.bind λb=>m3.bind λc=>noE (f3 a b c)):=⟨ZL (o:=o) (f:=f3) x1.h x2.h x3.h⟩
instance:CN K Er S OO σ (JO (sp4 r1 r2 r3 r4 o f4 K) [] E0 (Xo ta (Xo tb (Xo tc (Xo td YN))))) o (m1.bind λa=>m2.bind λb=>m3.bind λc=>m4.bind λd=>noE (f4 a b c d)):=⟨IK (o:=o) (f:=f4) x1.h x2.h x3.h x4.h⟩
end
end
section
variable {α β γ δ ρ ι κ κ2:Type}{K:PySem.W.Frag}{Er:Exc->Hp->Prop}{S:SC}{OO:List (List Xq)}{σ:St}{u t tb:TS}{Fd:Ends->β->Hp->Prop}[fd:FdOk Fd]{o:OE ρ}{wi:TI}{g:TG}{r:Enc α}
noncomputable abbrev jn (OO:List (List Xq))(σ:St)(S:SC)(oo:List (List Xq)->ι->List (List Xq))(ss:St->ι->St)(nf:SC->γ->ι->SC):Jn γ ι:=⟨oo OO,ss σ,nf S⟩
variable (oo:List (List Xq)->ι->List (List Xq))(ss:St->ι->St)(nf:SC->γ->ι->SC)
theorem QW {m:Rs γ}{f:γ->Rs β}(hb:Sv Er S OO σ t (FNd (jn OO σ S oo ss nf)) m)(hr:∀g x,Sv Er (nf S g x) (oo OO x) (ss σ x) u Fd (f g)):Sv Er S OO σ (ZK t u) Fd (m.bind f):=Ng hb hr
theorem Dd {c:TT}{mc:γ->Rs Bool}{body:γ->Rs γ}{f:γ->Rs β}(n:Nat)(x0:ι)(g0:γ)(h1:OO=oo OO x0)(h2:σ=ss σ x0)(h3:∀h,S.p h->(nf S g0 x0).p h)(hc:∀g x,EvT Er (nf S g x) (oo OO x) (ss σ x) c (mc g))(hb:∀g x,Sv Er (nf S g x) (oo OO x) (ss σ x) tb (FNd (jn OO σ S oo ss nf)) (body g))(hr:∀g x,Sv Er (nf S g x) (oo OO x) (ss σ x) u Fd (f g)):Sv Er S OO σ (ZK (Bf c tb) u) Fd ((VY n g0 mc body).bind f):=Iq (jn OO σ S oo ss nf) n x0 g0 h1 h2 h3 hc hb hr
variable (K)
theorem Z5 {m:Rs (List α)}{body:γ->α->Rs γ}{f:γ->Rs β}(T:∀OO,Tgt K OO g r κ)(x0:ι)(g0:γ)(he:Walk K Er S OO σ wi r m)(h1:OO=oo OO x0)(h2:σ=ss σ x0)(h3:∀h,S.p h->(nf S g0 x0).p h)(hb:∀g x a v,Sv Er ((T (oo OO x)).sc a v (nf S g x)) (oo OO x) ((T (oo OO x)).set v (ss σ x)) tb (FNd (jn OO σ S oo ss nf)) (body g a))(hr:∀g x,Sv Er (nf S g x) (oo OO x) (ss σ x) u Fd (f g)):Sv Er S OO σ (ZK (NT wi g tb) u) Fd (m.bind λas=>(forN as g0 body).bind f):=OD (jn OO σ S oo ss nf) T x0 g0 he h1 h2 h3 hb hr
theorem ID {m:Rs (List α)}{body:γ->α->Rs (Ctl ρ γ)}{f:γ->Rs ρ}(T:∀OO,Tgt K OO g r κ)(x0:ι)(g0:γ)(he:Walk K Er S OO σ wi r m)(h1:OO=oo OO x0)(h2:σ=ss σ x0)(h3:∀h,S.p h->(nf S g0 x0).p h)(hb:∀g x a v,Sv Er ((T (oo OO x)).sc a v (nf S g x)) (oo OO x) ((T (oo OO x)).set v (ss σ x)) tb (FCd K o (jn OO σ S oo ss nf)) (body g a))(hr:∀g x,Sv Er (nf S g x) (oo OO x) (ss σ x) u (FTd K o) (f g)):Sv Er S OO σ (ZK (NT wi g tb) u) (FTd K o) (m.bind λas=>(Uc as g0 body).bind (Qa f)):=UW (jn OO σ S oo ss nf) T x0 g0 he h1 h2 h3 hb hr
end
section
variable {α β γ δ ρ:Type}(K:PySem.W.Frag){Er:Exc->Hp->Prop}{S:SC}{OO OO':List (List Xq)}{σ:St}{u:TS}{Fd:Ends->β->Hp->Prop}[fd:FdOk Fd]{o:OE α}{r:Enc α}{te ta:TE}{i k:Nat}{m:Rs α}{f:α->Rs β}{v:V}{as:List α}{C:List Xq}
theorem YH [MonoE r](he:EvS K Er S OO σ te r m)(hr:∀a v,Sv Er (S.add K r v a) OO (σ.set i (some v)) u Fd (f a)):Sv Er S OO σ (ZK (DT te (YC i)) u) Fd (m.bind f):=ZY i he hr
theorem Yp [MonoO o](k:Nat)[y:Lk OO k](he:Ev K Er S OO OO σ te o m)(hr:∀a v C,Sv Er (S.addO K o v a C) (OO.set k C) (σ.set i (some v)) u Fd (f a)):Sv Er S OO σ (ZK (DT te (YC i)) u) Fd (m.bind f):=UD i k he y.h hr
variable {K} in
theorem Y3 {a:α}[y:Sl σ i v][z:Fo S K v o a C][q:Ow OO k C]:Ev K Er S OO (OO.set k []) σ (Jz i) o (.ok a):=Nj i k y.h q.h z.h
theorem Ub {f:List α->Rs β}[MonoO o][y:Sl σ i v][z:Fo S K v (oL o) as C](he:Ev K Er S OO OO' σ ta o m)[q:Ow OO k C][q':Ow OO' k C](hr:∀zs C',Sv Er (S.addO K (oL o) v zs C') (OO'.set k C') σ u Fd (f zs)):Sv Er S OO σ (ZK (Gd (tBM K "list" VP (Jz i) (Xo ta YN))) u) Fd (m.bind λa=>chk (as.length<sizeLine) (f (as++[a]))):=NZ i k y.h q.h q'.h z.h he λa C'=>hr _ C'
theorem RZ {m:Rs (List α)}{f:List α->Rs β}[MonoO o][y:Sl σ i v][z:Fo S K v (oL o) as C](he:Ev K Er S OO OO' σ ta (oL o) m)[q:Ow OO k C][q':Ow OO' k C](hr:∀zs C',Sv Er (S.addO K (oL o) v zs C') (OO'.set k C') σ u Fd (f zs)):Sv Er S OO σ (ZK (Gd (tBM K "list" GL (Jz i) (Xo ta YN))) u) Fd (m.bind λbs=>chk (as.length+bs.length<=sizeLine) (f (as++bs))):=N2 i k y.h q.h q'.h z.h he λa C'=>hr _ C'
theorem RW {ti:TE}{mi:Rs Int}{x:Nat}[MonoE r]{f:α->List α->Rs β}[y:Sl σ i v][z:Fo S K v (oL (oF r)) as C][q:Ow OO k C](hi:EvB K Er S OO σ ti Xc mi)(hr:∀a bs y C',Sv Er ((S.add K r y a).addO K (oL (oF r)) v bs C') (OO.set k C') (σ.set x (some y)) u Fd (f a bs)):Sv Er S OO σ (ZK (DT (tBM K "list" GC (Jz i) (Xo ti YN)) (YC x)) u) Fd (mi.bind λj=>(HC as j).bind λp=>f p.1 p.2):=O8 x i k y.h q.h z.h hi λa bs y C'=>hr a bs y C'
theorem LC {ti:TE}{mi:Rs Int}{f:List α->Rs β}[MonoO o][y:Sl σ i v][z:Fo S K v (oL o) as C][q:Ow OO k C](he:Ev K Er S OO OO σ ta o m)(hi:∀D,EvB K Er S (D::OO) σ ti Xc mi)(hr:∀bs C',Sv Er (S.addO K (oL o) v bs C') (OO.set k C') σ u Fd (f bs)):Sv Er S OO σ (ZK (DT ta (Pi (Jz i) ti IP)) u) Fd (m.bind λa=>mi.bind λj=>(Ua as j a).bind f):=IG i k y.h q.h z.h he hi hr
theorem RD {g:Int->Int->Int}{m:Rs Int}{f:Int->Rs β}{a:Int}[y:Sl σ i v][z:Fc S K v Xc a](he:EvB K Er S OO σ te Xc m)(hr:∀b v,Sv Er (S.add K Xc v b) OO (σ.set i (some v)) u Fd (f b)):Sv Er S OO σ (ZK (Pn i te (ipI g)) u) Fd (m.bind λb=>f (g a b)):=OQ i y.h z.h he hr
theorem PD {tv ty:TE}[MonoE r]{mk:Rs Int}{f:List (Int×α)->Rs β}{d:List (Int×α)}[y:Sl σ i v][z:Fo S K v (oD r) d C][q:Ow OO k C](hv:EvS K Er S OO σ tv r m)(hy:EvB K Er S OO σ ty Xc mk)(hr:∀d' C',Sv Er (S.addO K (oD r) v d' C') (OO.set k C') σ u Fd (f d')):Sv Er S OO σ (ZK (HD (Jz i) ty tv) u) Fd (m.bind λa=>mk.bind λn=>chk (d.length<sizeLine) (f (Cy d n a))):=Nx i k y.h q.h z.h hv hy hr
variable {γ' ι:Type}{J:Jn γ ι}
theorem Yn {J:Jn γ ι}(x:ι)(g:γ)(h1:OO=J.oo x)(h2:σ=J.ss x)[h3:Su S (J.sc g x)]:Sv Er S OO σ Gn (FNd J) (.ok g):=K7 x g h1 h2 h3.h
end
theorem QQ {N:List Str}{vs:List V}{j:Nat}(h:N.length=j+vs.length):Vd N vs=vs.map some++List.replicate j none:=by
 unfold Vd
 rw[show N.length-vs.length=j by omega]
section
variable {ρ:Type}{P:Program}{w:World}{K:PySem.W.Frag}{mg:Str->Option Value}{base:Heap}{x:Str}{st:Stmt}{N ps:List Str}{k:Nat}{o:OE ρ}[MonoO o]
noncomputable abbrev Rm (k:Nat)(x:Str)(st:Stmt)(s:Shared)(f:Addr)(cdv:Value)(A:Around):Prop:=Room k (A.deeper (envOfC x (Xg st) s.heap.objs.size f cdv))
noncomputable abbrev Au (x:Str)(st:Stmt)(s:Shared)(f:Addr)(cdv:Value)(A:Around):Nat:=(A.deeper (envOfC x (Xg st) s.heap.objs.size f cdv)).units
theorem go1 {α0:Type}{r0:Enc α0}[MonoE r0]{m:α0->Rs ρ}(D:Def K mg x st ps)(S:FnScope N ps (Xg st))(j n:Nat)(hN:N.length=j+1)(hp:ps.length=1)
  (hb:∀{f:Addr}{cdv:Value}{A:Around}{outer:List Env}{s:Shared}{H:Hp}{E:XK},Rm k x st s f cdv A->Au x st s f cdv A+8<cLine->Au x st s f cdv A+1<cLine->∃t,PSs (Ba CX0 P w K mg base N x (Xg st) f cdv A outer s H E).nox (XV st) t/\∀v0 a0,Sv (λ_ _=>False) (SC.add SC.nil K r0 v0 a0) (List.replicate n []) (some v0::List.replicate j none) t (FTd K o) (m a0)):Fn P w K mg base (k+1) x ps (sp1 r0 o m K):=by
 refine UE D S (λvs H Q E h=>?_) (λf cdv A outer s H vs Q E hr h=>?_)
 ·obtain⟨v0,a0,b,rfl,_⟩:=h;exact hp.symm
 obtain⟨v0,a0,b,rfl,h0,hm,q⟩:=h
 obtain⟨t,hx,hy⟩:=hb hr (hu8 hr) (Ud hr)
 refine⟨t,hx,?_⟩
 rw[QQ hN]
 exact Gg (S:=(SC.add SC.nil K r0 v0 a0)) (σ:=some v0::List.replicate j none) n (hy v0 a0) (SC.i SC.t h0) hm q rfl
theorem go2 {α0 α1:Type}{r0:Enc α0}[MonoE r0]{r1:Enc α1}[MonoE r1]{m:α0->α1->Rs ρ}(D:Def K mg x st ps)(S:FnScope N ps (Xg st))(j n:Nat)(hN:N.length=j+2)(hp:ps.length=2)
  (hb:∀{f:Addr}{cdv:Value}{A:Around}{outer:List Env}{s:Shared}{H:Hp}{E:XK},Rm k x st s f cdv A->Au x st s f cdv A+8<cLine->Au x st s f cdv A+1<cLine->∃t,PSs (Ba CX0 P w K mg base N x (Xg st) f cdv A outer s H E).nox (XV st) t/\∀v0 v1 a0 a1,Sv (λ_ _=>False) (SC.add (SC.add SC.nil K r0 v0 a0) K r1 v1 a1) (List.replicate n []) (some v0::some v1::List.replicate j none) t (FTd K o) (m a0 a1)):Fn P w K mg base (k+1) x ps (sp2 r0 r1 o m K):=by
 refine UE D S (λvs H Q E h=>?_) (λf cdv A outer s H vs Q E hr h=>?_)
 ·obtain⟨v0,v1,a0,a1,b,rfl,_⟩:=h;exact hp.symm
 obtain⟨v0,v1,a0,a1,b,rfl,h0,h1,hm,q⟩:=h
 obtain⟨t,hx,hy⟩:=hb hr (hu8 hr) (Ud hr)
 refine⟨t,hx,?_⟩
 rw[QQ hN]
 exact Gg (S:=(SC.add (SC.add SC.nil K r0 v0 a0) K r1 v1 a1)) (σ:=some v0::some v1::List.replicate j none) n (hy v0 v1 a0 a1) (SC.i (SC.i SC.t h0) h1) hm q rfl
theorem go3 {α0 α1 α2:Type}{r0:Enc α0}[MonoE r0]{r1:Enc α1}[MonoE r1]{r2:Enc α2}[MonoE r2]{m:α0->α1->α2->Rs ρ}(D:Def K mg x st ps)(S:FnScope N ps (Xg st))(j n:Nat)(hN:N.length=j+3)(hp:ps.length=3)
  (hb:∀{f:Addr}{cdv:Value}{A:Around}{outer:List Env}{s:Shared}{H:Hp}{E:XK},Rm k x st s f cdv A->Au x st s f cdv A+8<cLine->Au x st s f cdv A+1<cLine->∃t,PSs (Ba CX0 P w K mg base N x (Xg st) f cdv A outer s H E).nox (XV st) t/\∀v0 v1 v2 a0 a1 a2,Sv (λ_ _=>False) (SC.add (SC.add (SC.add SC.nil K r0 v0 a0) K r1 v1 a1) K r2 v2 a2) (List.replicate n []) (some v0::some v1::some v2::List.replicate j none) t (FTd K o) (m a0 a1 a2)):Fn P w K mg base (k+1) x ps (sp3 r0 r1 r2 o m K):=by
 refine UE D S (λvs H Q E h=>?_) (λf cdv A outer s H vs Q E hr h=>?_)
 ·obtain⟨v0,v1,v2,a0,a1,a2,b,rfl,_⟩:=h;exact hp.symm
 obtain⟨v0,v1,v2,a0,a1,a2,b,rfl,h0,h1,h2,hm,q⟩:=h
 obtain⟨t,hx,hy⟩:=hb hr (hu8 hr) (Ud hr)
 refine⟨t,hx,?_⟩
 rw[QQ hN]
 exact Gg (S:=(SC.add (SC.add (SC.add SC.nil K r0 v0 a0) K r1 v1 a1) K r2 v2 a2)) (σ:=some v0::some v1::some v2::List.replicate j none) n (hy v0 v1 v2 a0 a1 a2) (SC.i (SC.i (SC.i SC.t h0) h1) h2) hm q rfl
theorem go4 {α0 α1 α2 α3:Type}{r0:Enc α0}[MonoE r0]{r1:Enc α1}[MonoE r1]{r2:Enc α2}[MonoE r2]{r3:Enc α3}[MonoE r3]{m:α0->α1->α2->α3->Rs ρ}(D:Def K mg x st ps)(S:FnScope N ps (Xg st))(j n:Nat)(hN:N.length=j+4)(hp:ps.length=4)
  (hb:∀{f:Addr}{cdv:Value}{A:Around}{outer:List Env}{s:Shared}{H:Hp}{E:XK},Rm k x st s f cdv A->Au x st s f cdv A+8<cLine->Au x st s f cdv A+1<cLine->∃t,PSs (Ba CX0 P w K mg base N x (Xg st) f cdv A outer s H E).nox (XV st) t/\∀v0 v1 v2 v3 a0 a1 a2 a3,Sv (λ_ _=>False) (SC.add (SC.add (SC.add (SC.add SC.nil K r0 v0 a0) K r1 v1 a1) K r2 v2 a2) K r3 v3 a3) (List.replicate n []) (some v0::some v1::some v2::some v3::List.replicate j none) t (FTd K o) (m a0 a1 a2 a3)):Fn P w K mg base (k+1) x ps (sp4 r0 r1 r2 r3 o m K):=by
 refine UE D S (λvs H Q E h=>?_) (λf cdv A outer s H vs Q E hr h=>?_)
 ·obtain⟨v0,v1,v2,v3,a0,a1,a2,a3,b,rfl,_⟩:=h;exact hp.symm
 obtain⟨v0,v1,v2,v3,a0,a1,a2,a3,b,rfl,h0,h1,h2,h3,hm,q⟩:=h
 obtain⟨t,hx,hy⟩:=hb hr (hu8 hr) (Ud hr)
 refine⟨t,hx,?_⟩
 rw[QQ hN]
 exact Gg (S:=(SC.add (SC.add (SC.add (SC.add SC.nil K r0 v0 a0) K r1 v1 a1) K r2 v2 a2) K r3 v3 a3)) (σ:=some v0::some v1::some v2::some v3::List.replicate j none) n (hy v0 v1 v2 v3 a0 a1 a2 a3) (SC.i (SC.i (SC.i (SC.i SC.t h0) h1) h2) h3) hm q rfl
theorem go5 {α0 α1 α2 α3 α4:Type}{r0:Enc α0}[MonoE r0]{r1:Enc α1}[MonoE r1]{r2:Enc α2}[MonoE r2]{r3:Enc α3}[MonoE r3]{r4:Enc α4}[MonoE r4]{m:α0->α1->α2->α3->α4->Rs ρ}(D:Def K mg x st ps)(S:FnScope N ps (Xg st))(j n:Nat)(hN:N.length=j+5)(hp:ps.length=5)
  (hb:∀{f:Addr}{cdv:Value}{A:Around}{outer:List Env}{s:Shared}{H:Hp}{E:XK},Rm k x st s f cdv A->Au x st s f cdv A+8<cLine->Au x st s f cdv A+1<cLine->∃t,PSs (Ba CX0 P w K mg base N x (Xg st) f cdv A outer s H E).nox (XV st) t/\∀v0 v1 v2 v3 v4 a0 a1 a2 a3 a4,Sv (λ_ _=>False) (SC.add (SC.add (SC.add (SC.add (SC.add SC.nil K r0 v0 a0) K r1 v1 a1) K r2 v2 a2) K r3 v3 a3) K r4 v4 a4) (List.replicate n []) (some v0::some v1::some v2::some v3::some v4::List.replicate j none) t (FTd K o) (m a0 a1 a2 a3 a4)):Fn P w K mg base (k+1) x ps (sp5 r0 r1 r2 r3 r4 o m K):=by
 refine UE D S (λvs H Q E h=>?_) (λf cdv A outer s H vs Q E hr h=>?_)
 ·obtain⟨v0,v1,v2,v3,v4,a0,a1,a2,a3,a4,b,rfl,_⟩:=h;exact hp.symm
 obtain⟨v0,v1,v2,v3,v4,a0,a1,a2,a3,a4,b,rfl,h0,h1,h2,h3,h4,hm,q⟩:=h
 obtain⟨t,hx,hy⟩:=hb hr (hu8 hr) (Ud hr)
 refine⟨t,hx,?_⟩
 rw[QQ hN]
 exact Gg (S:=(SC.add (SC.add (SC.add (SC.add (SC.add SC.nil K r0 v0 a0) K r1 v1 a1) K r2 v2 a2) K r3 v3 a3) K r4 v4 a4)) (σ:=some v0::some v1::some v2::some v3::some v4::List.replicate j none) n (hy v0 v1 v2 v3 v4 a0 a1 a2 a3 a4) (SC.i (SC.i (SC.i (SC.i (SC.i SC.t h0) h1) h2) h3) h4) hm q rfl
end
noncomputable abbrev Pk (p:Program->World->PySem.W.Frag->(Str->Option Value)->Heap->Prop):Prop:=∀ {P w K mg base},p P w K mg base
section
variable {X:Cx}{a b:Expr}{pos:Pos}{ta tb:TE}(K:PySem.W.Frag)(ha:PE X a ta)(hb:PE X b tb)(h:X.K=K:=by rfl)(hs:Bn b:=by exact λ_ _=>rfl)
include ha hb h hs
theorem Js:PE X (.Subscript a b pos) (tOp (Et K) ta tb):=GW (MT K h) ha hb hs
theorem XF:PE X (.Subscript a b pos) (tOp (HB K) ta tb):=GW (Qp K h) ha hb hs
end
end L2
set_option synthInstance.maxSize 2000
set_option synthInstance.maxHeartbeats 400000
namespace My
open PySem L2
noncomputable def top (i:Nat):Stmt:=PySem.Challenge.pw_plait_k57_whole_joined_tables.main.body.getD i (.Pass ⟨0,0,0,0⟩)
noncomputable abbrev Ha:Stmt:=top 5
noncomputable abbrev Es:Stmt:=top 7
noncomputable abbrev ZN:Stmt:=top 8
noncomputable abbrev YY:Stmt:=top 9
noncomputable abbrev Zy:Stmt:=top 10
noncomputable abbrev G4:Stmt:=top 11
noncomputable abbrev EL:Stmt:=top 14
noncomputable abbrev Qk:Stmt:=top 15
noncomputable abbrev Zp:Stmt:=top 16
noncomputable abbrev YX:Stmt:=top 17
noncomputable abbrev Zm:Stmt:=top 18
noncomputable abbrev BX:Stmt:=top 19
noncomputable abbrev Bz:Stmt:=top 21
noncomputable abbrev NH:Stmt:=top 22
noncomputable abbrev MN:Stmt:=top 23
noncomputable abbrev GJ:Stmt:=top 24
noncomputable abbrev IB:Stmt:=top 25
noncomputable abbrev VZ:Stmt:=top 26
noncomputable abbrev U7:Stmt:=top 27
noncomputable abbrev FI:Stmt:=top 28
noncomputable abbrev Jx:Stmt:=top 29
noncomputable abbrev QH:Stmt:=top 30
noncomputable abbrev V2:Stmt:=top 31
noncomputable abbrev U4:Stmt:=top 32
noncomputable abbrev Dg:Stmt:=top 33
noncomputable abbrev Vm:Stmt:=top 34
noncomputable abbrev J0:Stmt:=top 35
noncomputable abbrev Qg:Stmt:=top 36
noncomputable abbrev Kc:Stmt:=top 37
noncomputable abbrev Kq:Stmt:=top 38
noncomputable abbrev Vj:Stmt:=top 39
noncomputable abbrev Kw:Stmt:=top 40
noncomputable abbrev GP:Stmt:=top 41
noncomputable abbrev Ip:Stmt:=top 42
noncomputable abbrev G1:Stmt:=top 43
noncomputable abbrev GO:Stmt:=top 44
noncomputable abbrev ZR:Stmt:=top 45
noncomputable abbrev Zs:Stmt:=top 46
noncomputable abbrev FQ:Stmt:=top 47
noncomputable abbrev Ke:Stmt:=top 48
noncomputable abbrev Je:Stmt:=top 49
noncomputable abbrev UI:Stmt:=top 50
theorem K8 {X:Cx}:PE X (.List [.List [.Constant (.int 0) 0 ⟨192,17,192,18⟩, .Constant (.int 3) 0 ⟨192,20,192,21⟩, .Constant (.int 1) 0 ⟨192,23,192,24⟩, .Constant (.int 2) 0 ⟨192,26,192,27⟩] ⟨192,16,192,28⟩, .List [.Constant (.int 2) 0 ⟨192,31,192,32⟩, .Constant (.int 1) 0 ⟨192,34,192,35⟩, .Constant (.int 3) 0 ⟨192,37,192,38⟩, .Constant (.int 0) 0 ⟨192,40,192,41⟩] ⟨192,30,192,42⟩, .List [.Constant (.int 3) 0 ⟨192,45,192,46⟩, .Constant (.int 0) 0 ⟨192,48,192,49⟩, .Constant (.int 2) 0 ⟨192,51,192,52⟩, .Constant (.int 1) 0 ⟨192,54,192,55⟩] ⟨192,44,192,56⟩, .List [.Constant (.int 1) 0 ⟨192,59,192,60⟩, .Constant (.int 2) 0 ⟨192,62,192,63⟩, .Constant (.int 0) 0 ⟨192,65,192,66⟩, .Constant (.int 3) 0 ⟨192,68,192,69⟩] ⟨192,58,192,70⟩] ⟨192,15,192,71⟩) (CK (Xo (CK (Xo (tC (.int 0)) (Xo (tC (.int 3)) (Xo (tC (.int 1)) (Xo (tC (.int 2)) YN))))) (Xo (CK (Xo (tC (.int 2)) (Xo (tC (.int 1)) (Xo (tC (.int 3)) (Xo (tC (.int 0)) YN))))) (Xo (CK (Xo (tC (.int 3)) (Xo (tC (.int 0)) (Xo (tC (.int 2)) (Xo (tC (.int 1)) YN))))) (Xo (CK (Xo (tC (.int 1)) (Xo (tC (.int 2)) (Xo (tC (.int 0)) (Xo (tC (.int 3)) YN))))) YN))))):=by
 refine XH ?_
 refine Ku ?_ ?_
 ·exact XH (Xb Xf (Xb Xf (Xb Xf (Xb Xf Xd))))
 refine Ku ?_ ?_
 ·exact XH (Xb Xf (Xb Xf (Xb Xf (Xb Xf Xd))))
 refine Ku ?_ ?_
 ·exact XH (Xb Xf (Xb Xf (Xb Xf (Xb Xf Xd))))
 refine Ku ?_ ?_
 ·exact XH (Xb Xf (Xb Xf (Xb Xf (Xb Xf Xd))))
 exact Xd
structure Blt (mg:Str->Option Value):Prop where
 b_abs:mg "abs" =none
 b_all:mg "all" =none
 b_bool:mg "bool" =none
 b_enumerate:mg "enumerate" =none
 b_int:mg "int" =none
 b_isinstance:mg "isinstance" =none
 b_len:mg "len" =none
 b_list:mg "list" =none
 b_max:mg "max" =none
 b_min:mg "min" =none
 b_range:mg "range" =none
 b_sorted:mg "sorted" =none
 b_sum:mg "sum" =none
 b_tuple:mg "tuple" =none
 c_MOST_LISTS:∃u,mg "MOST_LISTS" =some u/\X4 (.int 65536) u
theorem GM:FnScope ["drawing","passage","at","walk"] ["drawing","passage"] (Xg Ha):=⟨rfl,rfl,rfl,by decide+kernel,rfl,by decide+kernel,by decide+kernel⟩
noncomputable abbrev EB (m:((List (List Int))×(List (Int×Int)))->Int->Rs (Int×Int))(P:Program)(w:World)(K:PySem.W.Frag)(mg:Str->Option Value)(base:Heap):Prop:=Fn P w K mg base 1 "spot" ["drawing","passage"] (sp2 (rP2 (rV (rV Xc)) (rV (rP2 Xc Xc))) Xc (oF (rP2 Xc Xc)) m K)
noncomputable def EJ:{m // Pk λP w K mg base=>Def K mg "spot" Ha ["drawing","passage"]->Blt mg->EB m P w K mg base}:=⟨_, @λP w K mg base D Z=>go2 D GM 2 0 rfl rfl λhr hu hu1=>⟨_,(Xa (XG PassesOwn.never rfl (Mc rfl Z.b_enumerate (Js K (pv 0) Xf)) (Q6 rfl (XI (Xk (i:=2) GM.nd rfl (Or.inl rfl)) (XI (Xk (i:=3) GM.nd rfl (Or.inl rfl)) ZV)))
   (Xa (Ye (Xp KK (pv 1) (pv 3) rfl)
    (Xa (Xs (Qt (Xb (pv 2) (Xb (Lq (K:=K) rfl PySem.F.plainAttrs_list PySem.F.slot_list_index PySem.F.type_list_index (KU K rfl) (pv 3) (Xb (pv 1) Xd)) Xd))))
    Xe)
    Xe)
   Xe))
  (Xa Di
  Xe)),λv_0 v_1 a_0 a_1=>(ID K (λO (x3:Option V×Option V)=>[]) (λs x3=>[some v_0,some v_1,x3.1,x3.2]) (λS (g4:Unit) x3=>S) (λ_=>tg2 2 3) ((none),(none)) () (BM qS) rfl rfl (λ_ s=>s) (λg5 x6 a7 v8=>(Qx (Ym (K:=K) (Lx qB qB)) (Xu (EvS.ev (J2 qS (EvB.sh (KM qB qB))))) (VH (Yn ((some v8.1),(some v8.2)) () rfl rfl)))) λg18 x19=>O2)⟩⟩
noncomputable def Do:=EJ.1
theorem Z9:FnScope ["walk","unders"] ["walk"] (Xg YY):=⟨rfl,rfl,rfl,by decide+kernel,rfl,by decide+kernel,by decide+kernel⟩
noncomputable abbrev Yz (m:(List Int)->Rs Int)(P:Program)(w:World)(K:PySem.W.Frag)(mg:Str->Option Value)(base:Heap):Prop:=Fn P w K mg base 1 "arcs_of_walk" ["walk"] (sp1 (rV Xc) (oF Xc) m K)
noncomputable def ZA:{m // Pk λP w K mg base=>Def K mg "arcs_of_walk" YY ["walk"]->Blt mg->Yz m P w K mg base}:=⟨_, @λP w K mg base D Z=>go1 D Z9 1 0 rfl rfl λhr hu hu1=>⟨_,(Xa (UQ 1 (Xg YY) ["walk","unders"] ["passage"] [] rfl Z9.nd rfl rfl (Xy (K:=K) rfl (pv 0)) (YM (by decide)) (λcl C s H ex E=>⟨Xk (i:=0) (show List.Nodup (["passage"]:List Str) by decide+kernel) rfl (Or.inl rfl),(Kv (Xp Qz (pv 0) Xf (Xx _))),(pv 0)⟩))
  (Xa (Xs (Xm (Vc rfl) rfl Z.b_max PyProof.Rows.boot_max (Xb (Xm (Xh K rfl) rfl Z.b_len PySem.boot_len (Xb (pv 1) Xd)) (Xb Xf Xd))))
  Xe)),λv_0 a_0=>(YH K (r:=(rV Xc)) (Ev.sh (J8 (λ_=>tg1 0) qw (λC3 a4 v5=>(qt K)) (λC3 a4 v5=>qM))) λa1 v2=>(Xu qM))⟩⟩
noncomputable def Yh:=ZA.1
theorem X5:FnScope ["walk","first","number","unders","ways","passage"] ["walk","first"] (Xg Zy):=⟨rfl,rfl,rfl,by decide+kernel,rfl,by decide+kernel,by decide+kernel⟩
noncomputable abbrev Zx (m:(List Int)->Int->Rs (List Int))(P:Program)(w:World)(K:PySem.W.Frag)(mg:Str->Option Value)(base:Heap):Prop:=Fn P w K mg base 2 "arcs_of_ways" ["walk","first"] (sp2 (rV Xc) Xc (oL (oF Xc)) m K)
noncomputable def ZB:{m // Pk λP w K mg base=>Def K mg "arcs_of_ways" Zy ["walk","first"]->Yz Yh P w K mg base->Blt mg->Zx m P w K mg base}:=⟨_, @λP w K mg base D g_arcs_of_walk Z=>go2 D X5 4 1 rfl rfl λhr hu hu1=>⟨_,(Xa (Xj (i:=2) X5.nd rfl (Or.inl rfl) (XN g_arcs_of_walk hr (by decide) (Xb (pv 0) Xd)))
  (Xa (Xj (i:=3) X5.nd rfl (Or.inl rfl) Xf)
  (Xa (Xj (i:=4) X5.nd rfl (Or.inl rfl) (XH (Xb (pv 1) Xd)))
  (Xa (XG PassesOwn.never rfl (Xy (K:=K) rfl (JY (Ko K rfl) (pv 0) UX (U0 (KJ JI Xf)))) (Xk (i:=5) X5.nd rfl (Or.inl rfl))
   (Xa (Ye (Xp Qz (pv 5) Xf (Xx _))
    (Xa (B8 (i:=3) X5.nd rfl (Or.inl rfl) Xf Lw)
    Xe)
    Xe)
   (Xa (XQ (YO PySem.F.plainAttrs_list PySem.F.slot_list_append PySem.F.type_list_append XA (pv 4) (Xb (Xl XJ (pv 1) (Xl X3 (pv 3) (pv 2))) Xd)))
   Xe)))
  (Xa (Xs (pv 4))
  Xe))))),λv_0 v_1 a_0 a_1=>(YH K qS λa1 v2=>(YH K qS λa5 v6=>(Yp K 0 qN λa7 v8 C9=>(Z5 K (λO (x18:Option V×V×V×List Xq)=>[x18.2.2.2]) (λs x18=>[some v_0,some v_1,some v2,some x18.2.1,some x18.2.2.1,x18.1]) (λS (g19:Int×(List Int)) x18=>(SC.addO (SC.add S K Xc x18.2.1 g19.1) K (oL (oF Xc)) x18.2.2.1 g19.2 x18.2.2.2)) (λ_=>tg1 5) ((none),v6,v8,C9) (a5,a7) qw rfl rfl (λ_ s=>(SC.i (SC.i s s.l.r) s.r)) (λg20 x21 a22 v23=>(QW (λO (x27:V)=>[x21.2.2.2]) (λs x27=>[some v_0,some v_1,some v2,some x27,some x21.2.2.1,some v23]) (λS (g28:Int) x27=>(SC.add S K Xc x27 g28)) (Zq (qt K) (RD K qB λa31 v30=>(Yn (v30) (a31) rfl rfl)) (Yn (x21.2.1) (g20.1) rfl rfl)) λg33 x32=>(Ub K qM λa40 C39=>(Yn ((some v23),x32,x21.2.2.1,C39) (g33,a40) rfl rfl)))) λg41 x42=>(Xu Y3)))))⟩⟩
noncomputable def Y0:=ZB.1
theorem VJ:FnScope ["drawing","told","first","walk"] ["drawing"] (Xg Es):=⟨rfl,rfl,rfl,by decide+kernel,rfl,by decide+kernel,by decide+kernel⟩
noncomputable abbrev BI (m:((List (List Int))×(List (Int×Int)))->Rs (List (List Int)))(P:Program)(w:World)(K:PySem.W.Frag)(mg:Str->Option Value)(base:Heap):Prop:=Fn P w K mg base 3 "arcs" ["drawing"] (sp1 (rP2 (rV (rV Xc)) (rV (rP2 Xc Xc))) (oL (oL (oF Xc))) m K)
noncomputable def Hb:{m // Pk λP w K mg base=>Def K mg "arcs" Es ["drawing"]->Yz Yh P w K mg base->Zx Y0 P w K mg base->Blt mg->BI m P w K mg base}:=⟨_, @λP w K mg base D g_arcs_of_walk g_arcs_of_ways Z=>go1 D VJ 3 1 rfl rfl λhr hu hu1=>⟨_,(Xa (Xj (i:=1) VJ.nd rfl (Or.inl rfl) (XH Xd))
  (Xa (Xj (i:=2) VJ.nd rfl (Or.inl rfl) Xf)
  (Xa (XG PassesOwn.never rfl (Xy (K:=K) rfl (Js K (pv 0) Xf)) (Xk (i:=3) VJ.nd rfl (Or.inl rfl))
   (Xa (XQ (YO PySem.F.plainAttrs_list PySem.F.slot_list_append PySem.F.type_list_append XA (pv 1) (Xb (XN g_arcs_of_ways hr (by decide) (Xb (pv 3) (Xb (pv 2) Xd))) Xd)))
   (Xa (B8 (i:=2) VJ.nd rfl (Or.inl rfl) (XN g_arcs_of_walk hr (by decide) (Xb (pv 3) Xd)) Lw)
   Xe)))
  (Xa (Xs (pv 1))
  Xe)))),λv_0 a_0=>(Yp K (o:=(oL (oL (oF Xc)))) 0 (Zk (o:=(oL (oF Xc)))) λa1 v2 C3=>(YH K qS λa4 v5=>(Z5 K (λO (x7:Option V×V×V×List Xq)=>[x7.2.2.2]) (λs x7=>[some v_0,some x7.2.2.1,some x7.2.1,x7.1]) (λS (g8:Int×(List (List Int))) x7=>(SC.addO (SC.add S K Xc x7.2.1 g8.1) K (oL (oL (oF Xc))) x7.2.2.1 g8.2 x7.2.2.2)) (λ_=>tg1 3) ((none),v5,v2,C3) (a4,a1) qw rfl rfl (λ_ s=>(SC.i (SC.i s s.r) s.l.r)) (λg9 x10 a11 v12=>(Ub K qN λa18 C17=>(RD K qB λa23 v22=>(Yn ((some v12),v22,x10.2.2.1,C17) (a23,a18) rfl rfl)))) λg24 x25=>(Xu Y3))))⟩⟩
noncomputable def FU:=Hb.1
theorem KQ:FnScope ["drawing"] ["drawing"] (Xg ZN):=⟨rfl,rfl,rfl,by decide+kernel,rfl,by decide+kernel,by decide+kernel⟩
noncomputable abbrev Qw (m:((List (List Int))×(List (Int×Int)))->Rs Int)(P:Program)(w:World)(K:PySem.W.Frag)(mg:Str->Option Value)(base:Heap):Prop:=Fn P w K mg base 2 "arc_count" ["drawing"] (sp1 (rP2 (rV (rV Xc)) (rV (rP2 Xc Xc))) (oF Xc) m K)
noncomputable def QF:{m // Pk λP w K mg base=>Def K mg "arc_count" ZN ["drawing"]->Yz Yh P w K mg base->Blt mg->Qw m P w K mg base}:=⟨_, @λP w K mg base D g_arcs_of_walk Z=>go1 D KQ 0 0 rfl rfl λhr hu hu1=>⟨_,(Xa (Xs (Xm (EM rfl) rfl Z.b_sum PyProof.Rows.boot_sum (Xb (YK (sc:=(Xg ZN)) (N0:=["drawing"]) (tns:=["walk"]) (caps:=[]) rfl (Xy (K:=K) rfl (Js K (pv 0) Xf)) (YM (by decide)) (λcl C s H ex E=>⟨Xk (i:=0) (show List.Nodup (["walk"]:List Str) by decide+kernel) rfl (Or.inl rfl),Y8,(XN g_arcs_of_walk hr (by decide) (Xb (pv 0) Xd))⟩)) Xd)))
  Xe),λv_0 a_0=>(Xu (EvS.ev (EvB.sh (Nq (Ev.toB (Ze (λ_=>tg1 0) qw (λC3 a4 v5=>qN)))))))⟩⟩
noncomputable def ZQ:=QF.1
theorem YT:FnScope ["drawing","numbers","told","crossing","sign","above","below","over","ways","inward","outward"] ["drawing"] (Xg G4):=⟨rfl,rfl,rfl,by decide+kernel,rfl,by decide+kernel,by decide+kernel⟩
noncomputable abbrev GZ (m:((List (List Int))×(List (Int×Int)))->Rs (List (Int×Int×Int×Int×Int)))(P:Program)(w:World)(K:PySem.W.Frag)(mg:Str->Option Value)(base:Heap):Prop:=Fn P w K mg base 4 "meets" ["drawing"] (sp1 (rP2 (rV (rV Xc)) (rV (rP2 Xc Xc))) (oL (oF (rP5 Xc Xc Xc Xc Xc))) m K)
noncomputable def G3:{m // Pk λP w K mg base=>Def K mg "meets" G4 ["drawing"]->BI FU P w K mg base->EB Do P w K mg base->Blt mg->GZ m P w K mg base}:=⟨_, @λP w K mg base D g_arcs g_spot Z=>go1 D YT 10 1 rfl rfl λhr hu hu1=>⟨_,(Xa (Xj (i:=1) YT.nd rfl (Or.inl rfl) (XN g_arcs hr (by decide) (Xb (pv 0) Xd)))
  (Xa (Xj (i:=2) YT.nd rfl (Or.inl rfl) (XH Xd))
  (Xa (XG PassesOwn.never rfl (Xy (K:=K) rfl (Js K (pv 0) Xf)) (Q6 rfl (XI (Xk (i:=3) YT.nd rfl (Or.inl rfl)) (XI (Xk (i:=4) YT.nd rfl (Or.inl rfl)) ZV)))
   (Xa (Xj (i:=5) YT.nd rfl (Or.inl rfl) (XN g_spot hr (by decide) (Xb (pv 0) (Xb (pv 3) Xd))))
   (Xa (Xj (i:=6) YT.nd rfl (Or.inl rfl) (XN g_spot hr (by decide) (Xb (pv 0) (Xb (KJ JI (pv 3)) Xd))))
   (Xa (Xj (i:=7) YT.nd rfl (Or.inl rfl) (XF K (XF K (pv 1) (Js K (pv 5) Xf)) (Js K (pv 5) Xf)))
   (Xa (Xj (i:=8) YT.nd rfl (Or.inl rfl) (XF K (pv 1) (Js K (pv 6) Xf)))
   (Xa (Xj (i:=9) YT.nd rfl (Or.inl rfl) (XF K (pv 8) (Js K (pv 6) Xf)))
   (Xa (Xj (i:=10) YT.nd rfl (Or.inl rfl) (XF K (pv 8) (Xl X3 (Xl XJ (Js K (pv 6) Xf) Xf) (Xm (Xh K rfl) rfl Z.b_len PySem.boot_len (Xb (pv 8) Xd)))))
   (Xa (XQ (YO PySem.F.plainAttrs_list PySem.F.slot_list_append PySem.F.type_list_append XA (pv 2) (Xb (Qt (Xb (pv 3) (Xb (pv 4) (Xb (pv 7) (Xb (pv 9) (Xb (pv 10) Xd)))))) Xd)))
   Xe))))))))
  (Xa (Xs (pv 2))
  Xe)))),λv_0 a_0=>(YH K qS λa1 v2=>(Yp K (o:=(oL (oF (rP5 Xc Xc Xc Xc Xc)))) 0 (Zk (o:=(oF (rP5 Xc Xc Xc Xc Xc)))) λa5 v6 C7=>(Z5 K (λO (x9:Option V×Option V×Option V×Option V×Option V×Option V×Option V×Option V×V×List Xq)=>[x9.2.2.2.2.2.2.2.2.2]) (λs x9=>[some v_0,some v2,some x9.2.2.2.2.2.2.2.2.1,x9.1,x9.2.1,x9.2.2.1,x9.2.2.2.1,x9.2.2.2.2.1,x9.2.2.2.2.2.1,x9.2.2.2.2.2.2.1,x9.2.2.2.2.2.2.2.1]) (λS (g10:(List (Int×Int×Int×Int×Int))) x9=>(SC.addO S K (oL (oF (rP5 Xc Xc Xc Xc Xc))) x9.2.2.2.2.2.2.2.2.1 g10 x9.2.2.2.2.2.2.2.2.2)) (λ_=>tg2 3 4) ((none),(none),(none),(none),(none),(none),(none),(none),v6,C7) (a5) qw rfl rfl (λ_ s=>(SC.i s s.r)) (λg11 x12 a13 v14=>(YH K qS λa15 v16=>(YH K qS λa20 v21=>(YH K qS λa26 v27=>(YH K qS λa34 v35=>(YH K qS λa39 v40=>(YH K qS λa44 v45=>(Ub K (EvS.ev (Dx qS qS qS qS qS)) λa61 C60=>(Yn ((some v14.1),(some v14.2),(some v16),(some v21),(some v27),(some v35),(some v40),(some v45),x12.2.2.2.2.2.2.2.2.1,C60) (a61) rfl rfl))))))))) λg62 x63=>(Xu Y3))))⟩⟩
noncomputable def Z7:=G3.1
theorem QL:FnScope ["drawing","told","crossing","sign","over","inward","outward"] ["drawing"] (Xg EL):=⟨rfl,rfl,rfl,by decide+kernel,rfl,by decide+kernel,by decide+kernel⟩
noncomputable abbrev EY (m:((List (List Int))×(List (Int×Int)))->Rs (List (Int×Int×Int)))(P:Program)(w:World)(K:PySem.W.Frag)(mg:Str->Option Value)(base:Heap):Prop:=Fn P w K mg base 5 "ties" ["drawing"] (sp1 (rP2 (rV (rV Xc)) (rV (rP2 Xc Xc))) (oL (oF (rP3 Xc Xc Xc))) m K)
noncomputable def Ho:{m // Pk λP w K mg base=>Def K mg "ties" EL ["drawing"]->GZ Z7 P w K mg base->Blt mg->EY m P w K mg base}:=⟨_, @λP w K mg base D g_meets Z=>go1 D QL 6 1 rfl rfl λhr hu hu1=>⟨_,(Xa (Xj (i:=1) QL.nd rfl (Or.inl rfl) (XH Xd))
  (Xa (XG PassesOwn.never rfl (Xy (K:=K) rfl (XN g_meets hr (by decide) (Xb (pv 0) Xd))) (Q6 rfl (XI (Xk (i:=2) QL.nd rfl (Or.inl rfl)) (XI (Xk (i:=3) QL.nd rfl (Or.inl rfl)) (XI (Xk (i:=4) QL.nd rfl (Or.inl rfl)) (XI (Xk (i:=5) QL.nd rfl (Or.inl rfl)) (XI (Xk (i:=6) QL.nd rfl (Or.inl rfl)) ZV))))))
   (Xa (XQ (YO PySem.F.plainAttrs_list PySem.F.slot_list_append PySem.F.type_list_append XA (pv 1) (Xb (HV (Xp ZS (pv 3) Xf (Xx _)) (Qt (Xb (pv 5) (Xb (pv 4) (Xb (pv 6) Xd)))) (Qt (Xb (pv 6) (Xb (pv 4) (Xb (pv 5) Xd))))) Xd)))
   Xe))
  (Xa (Xs (pv 1))
  Xe))),λv_0 a_0=>(Yp K (o:=(oL (oF (rP3 Xc Xc Xc)))) 0 (Zk (o:=(oF (rP3 Xc Xc Xc)))) λa1 v2 C3=>(Z5 K (λO (x6:Option V×Option V×Option V×Option V×Option V×V×List Xq)=>[x6.2.2.2.2.2.2]) (λs x6=>[some v_0,some x6.2.2.2.2.2.1,x6.1,x6.2.1,x6.2.2.1,x6.2.2.2.1,x6.2.2.2.2.1]) (λS (g7:(List (Int×Int×Int))) x6=>(SC.addO S K (oL (oF (rP3 Xc Xc Xc))) x6.2.2.2.2.2.1 g7 x6.2.2.2.2.2.2)) (λ_=>tg5 2 3 4 5 6) ((none),(none),(none),(none),(none),v2,C3) (a1) qw rfl rfl (λ_ s=>(SC.i s s.r)) (λg8 x9 a10 v11=>(Ub K (PQ (qt K) (EvS.ev (Dv qS qS qS)) (EvS.ev (Dv qS qS qS))) λa23 C22=>(Yn ((some v11.1),(some v11.2.1),(some v11.2.2.1),(some v11.2.2.2.1),(some v11.2.2.2.2),x9.2.2.2.2.2.1,C22) (a23) rfl rfl))) λg24 x25=>(Xu Y3)))⟩⟩
noncomputable def Dj:=Ho.1
noncomputable def ZH (a_0:(List (List Int)))(a_1:(List Int))(a_2:(List (Int×Int×Int))):Rs Bool:=(Rs.bind (Rs.bind (Rs.ok a_2) λx5=>(Le x5 (λa3=>(Rs.bind (Rs.bind (Rs.bind (Rs.ok a_0) λx8=>(Rs.bind (Rs.bind (Rs.ok a_1) λx6=>(Rs.bind (Rs.ok a3.1) λx7=>(atR x6 x7))) λx9=>(atR x8 x9))) λx12=>(Rs.bind (Rs.bind (Rs.ok a_1) λx10=>(Rs.bind (Rs.ok a3.2.1) λx11=>(atR x10 x11))) λx13=>(atR x12 x13))) λx16=>(Rs.bind (Rs.bind (Rs.ok a_1) λx14=>(Rs.bind (Rs.ok a3.2.2) λx15=>(atR x14 x15))) λx17=>(Rs.ok (decide (x16=x17)))))))) λx18=>(Rs.ok (x18.all id)))
noncomputable abbrev Cv (m:(List (List Int))->(List Int)->(List (Int×Int×Int))->Rs Bool)(P:Program)(w:World)(K:PySem.W.Frag)(mg:Str->Option Value)(base:Heap):Prop:=Fn P w K mg base 1 "all_held" ["table","colours","asked"] (sp3 (rV (rV Xc)) (rV Xc) (rV (rP3 Xc Xc Xc)) (oF XC) m K)
section
variable {P:Program}{w:World}{K:PySem.W.Frag}{mg:Str->Option Value}{base:Heap}
theorem Fe:FnScope ["table","colours","asked"] ["table","colours","asked"] (Xg Qk):=⟨rfl,rfl,rfl,by decide+kernel,rfl,by decide+kernel,by decide+kernel⟩
theorem Fm (D:Def K mg "all_held" Qk ["table","colours","asked"])(Z:Blt mg):Fn P w K mg base 1 "all_held" ["table","colours","asked"] (sp3 (rV (rV Xc)) (rV Xc) (rV (rP3 Xc Xc Xc)) (oF XC) ZH K):=by
 refine UE D Fe (λvs H Q E h=>?_) (λf cdv A outer s H vs Q E hr h=>?_)
 ·obtain⟨v_0,v_1,v_2,a_0,a_1,a_2,b,rfl,_⟩:=h;rfl
 obtain⟨v_0,v_1,v_2,a_0,a_1,a_2,b,rfl,h_0,h_1,h_2,hm,q⟩:=h
 have hu:=hu8 hr
 have hu1:=Ud hr
 refine⟨_,(Xa (Xs (Xm (E9 rfl) rfl Z.b_all PyProof.Rows.boot_all (Xb (YK (sc:=(Xg Qk)) (N0:=["table","colours","asked"]) (tns:=["start","over","end"]) (caps:=[(0,"table"),(1,"colours")]) rfl (Xy (K:=K) rfl (pv 2)) (LU (by decide) (by decide) (by decide)) (λcl C s H ex E=>⟨MC K rfl rfl (XI (Xk (i:=0) (show List.Nodup (["start","over","end","table","colours"]:List Str) by decide+kernel) rfl (Or.inl rfl)) (XI (Xk (i:=1) (show List.Nodup (["start","over","end","table","colours"]:List Str) by decide+kernel) rfl (Or.inl rfl)) (XI (Xk (i:=2) (show List.Nodup (["start","over","end","table","colours"]:List Str) by decide+kernel) rfl (Or.inl rfl)) ZV))),Y8,(Fj ZS (GW (Qp K rfl) (GW (Qp K rfl) (pv 3) (GW (Qp K rfl) (pv 4) (pv 0) (λ_ _=>rfl)) (λ_ _=>rfl)) (GW (Qp K rfl) (pv 4) (pv 1) (λ_ _=>rfl)) (λ_ _=>rfl)) (GW (Qp K rfl) (pv 4) (pv 2) (λ_ _=>rfl)) (Xx _))⟩)) Xd)))
  Xe),?_⟩
 refine Gg (S:=(SC.add (SC.add (SC.add SC.nil K (rV (rV Xc)) v_0 a_0) K (rV Xc) v_1 a_1) K (rV (rP3 Xc Xc Xc)) v_2 a_2)) (σ:=[some v_0,some v_1,some v_2]) 0 ?_ (SC.i (SC.i (SC.i SC.t h_0) h_1) h_2) hm q rfl
 unfold ZH
 exact(Xu (EvS.ev (EvB.sh (Nu (Ev.toB (Ze (λ_=>tg3 0 1 2) (YI (Yb (r:=(rV (rP3 Xc Xc Xc))) 2 rfl (λ_ s=>s.r))) (λC2 a3 v4=>(EvS.ev (EvB.sh (VB (Um (Um (Xn (r:=(rV (rV Xc))) 3 rfl (λ_ s=>s.l.l.l.l.l.r)) (Um (Xn (r:=(rV Xc)) 4 rfl (λ_ s=>s.l.l.l.l.r)) (Xn (r:=Xc) 0 rfl (λ_ s=>s.l.l.r)))) (Um (Xn (r:=(rV Xc)) 4 rfl (λ_ s=>s.l.l.l.l.r)) (Xn (r:=Xc) 1 rfl (λ_ s=>s.l.r)))) (Um (Xn (r:=(rV Xc)) 4 rfl (λ_ s=>s.l.l.l.l.r)) (Xn (r:=Xc) 2 rfl (λ_ s=>s.r)))))))))))))
end
theorem Yl:FnScope ["size","count","lists","arc"] ["size","count"] (Xg YX):=⟨rfl,rfl,rfl,by decide+kernel,rfl,by decide+kernel,by decide+kernel⟩
noncomputable abbrev YV (m:Int->Int->Rs Unit)(P:Program)(w:World)(K:PySem.W.Frag)(mg:Str->Option Value)(base:Heap):Prop:=Fn P w K mg base 1 "refuse_too_much" ["size","count"] (sp2 Xc Xc oU m K)
noncomputable def YU:{m // Pk λP w K mg base=>Def K mg "refuse_too_much" YX ["size","count"]->Blt mg->YV m P w K mg base}:=⟨_, @λP w K mg base D Z=>by
 refine UE D Yl (λvs H Q E h=>?_) (λf cdv A outer s H vs Q E hr h=>?_)
 ·obtain⟨v_0,v_1,a_0,a_1,b,rfl,_⟩:=h;rfl
 obtain⟨v_0,v_1,a_0,a_1,b,rfl,h_0,h_1,hm,q⟩:=h
 have hu:=hu8 hr
 have hu1:=Ud hr
 refine⟨_,(Xa (Xj (i:=2) Yl.nd rfl (Or.inl rfl) Xf)
  (Xa (XG PassesOwn.never rfl (Xw rfl Z.b_range (Xb (pv 1) Xd)) (Xk (i:=3) Yl.nd rfl (Or.inl rfl))
   (Xa (B8 (i:=2) Yl.nd rfl (Or.inl rfl) (pv 0) Oo)
   Xe))
  (Xa (Ye (Xp CU (pv 2) (Pc Z.c_MOST_LISTS rfl) (Xx _))
   (Xa Di
   Xe)
   Xe)
  Xe))),?_⟩
 refine PB (J:=({oo:=λx3=>[],ss:=λx3=>[some v_0,some v_1,x3.1,x3.2],sc:=λg4 x3=>(SC.add (SC.add SC.nil K Xc v_0 a_0) K Xc v_1 a_1)}:Jn (Unit) (Option V×Option V))) (K:=K) (S:=(SC.add (SC.add SC.nil K Xc v_0 a_0) K Xc v_1 a_1)) (σ:=[some v_0,some v_1,none,none]) 0 ?_ (SC.i (SC.i SC.t h_0) h_1) hm q (λ_ _=>rfl)
 exact(YH K qS λa5 v6=>(Z5 K (λO (x8:Option V×V)=>[]) (λs x8=>[some v_0,some v_1,some x8.2,x8.1]) (λS (g9:Int) x8=>(SC.add S K Xc x8.2 g9)) (λ_=>tg1 3) ((none),v6) (a5) qw rfl rfl (λ_ s=>(SC.i s s.r)) (λg10 x11 a12 v13=>(NI (K:=K) 2 rfl (λ_ s=>s.l.r) qB λa16 v15=>(Yn ((some v13),v15) (a16) rfl rfl))) λg17 x18=>(Of (qt K) (Yn ((some x18.2),(x18.1)) () rfl rfl))))⟩
noncomputable def Yu:=YU.1
theorem Yg:FnScope ["lists","table","asked","longer","ahead","colour","tried"] ["lists","table","asked"] (Xg Zm):=⟨rfl,rfl,rfl,by decide+kernel,rfl,by decide+kernel,by decide+kernel⟩
noncomputable abbrev Zn (m:(List (List Int))->(List (List Int))->(List (Int×Int×Int))->Rs (List (List Int)))(P:Program)(w:World)(K:PySem.W.Frag)(mg:Str->Option Value)(base:Heap):Prop:=Fn P w K mg base 2 "longer_by_arc" ["lists","table","asked"] (sp3 (rV (rV Xc)) (rV (rV Xc)) (rV (rP3 Xc Xc Xc)) (oL (oL (oF Xc))) m K)
noncomputable def Zj:{m // Pk λP w K mg base=>Def K mg "longer_by_arc" Zm ["lists","table","asked"]->Cv ZH P w K mg base->Blt mg->Zn m P w K mg base}:=⟨_, @λP w K mg base D g_all_held Z=>go3 D Yg 4 2 rfl rfl λhr hu hu1=>⟨_,(Xa (Xj (i:=3) Yg.nd rfl (Or.inl rfl) (XH Xd))
  (Xa (XG PassesOwn.never rfl (Xy (K:=K) rfl (pv 0)) (Xk (i:=4) Yg.nd rfl (Or.inl rfl))
   (Xa (XG PassesOwn.never rfl (Xw rfl Z.b_range (Xb (Xm (Xh K rfl) rfl Z.b_len PySem.boot_len (Xb (pv 1) Xd)) Xd)) (Xk (i:=5) Yg.nd rfl (Or.inl rfl))
    (Xa (Xj (i:=6) Yg.nd rfl (Or.inl rfl) (Xl Vp (pv 4) (XH (Xb (pv 5) Xd))))
    (Xa (Ye (Qs (XN g_all_held hr (by decide) (Xb (pv 1) (Xb (pv 6) (Xb (pv 2) Xd)))))
     (Xa (XQ (YO PySem.F.plainAttrs_list PySem.F.slot_list_append PySem.F.type_list_append XA (pv 3) (Xb (pv 6) Xd)))
     Xe)
     Xe)
    Xe)))
   Xe))
  (Xa (Xs (pv 3))
  Xe))),λv_0 v_1 v_2 a_0 a_1 a_2=>(Yp K (o:=(oL (oL (oF Xc)))) 0 (Zk (o:=(oL (oF Xc)))) λa1 v2 C3=>(Z5 K (λO (x4:Option V×Option V×Option V×V×List Xq)=>[x4.2.2.2.2,[]]) (λs x4=>[some v_0,some v_1,some v_2,some x4.2.2.2.1,x4.1,x4.2.1,x4.2.2.1]) (λS (g5:(List (List Int))) x4=>(SC.addO S K (oL (oL (oF Xc))) x4.2.2.2.1 g5 x4.2.2.2.2)) (λ_=>tg1 4) ((none),(none),(none),v2,C3) (a1) qw rfl rfl (λ_ s=>(SC.i s s.r)) (λg6 x7 a8 v9=>(Z5 K (λO (x12:Option V×Option V×V×List Xq)=>[x12.2.2.2,[]]) (λs x12=>[some v_0,some v_1,some v_2,some x12.2.2.1,some v9,x12.1,x12.2.1]) (λS (g13:(List (List Int))) x12=>(SC.addO S K (oL (oL (oF Xc))) x12.2.2.1 g13 x12.2.2.2)) (λ_=>tg1 5) ((x7.2.1),(x7.2.2.1),x7.2.2.2.1,x7.2.2.2.2) (g6) qw rfl rfl (λ_ s=>(SC.i s s.l.r)) (λg14 x15 a16 v17=>(Yp K 1 qN λa18 v19 C20=>(QW (λO (x31:V×Option V×List Xq)=>[x31.2.2,[]]) (λs x31=>[some v_0,some v_1,some v_2,some x31.1,some v9,some v17,x31.2.1]) (λS (g32:(List (List Int))) x31=>(SC.addO S K (oL (oL (oF Xc))) x31.1 g32 x31.2.2)) (Zq (qt K) (Ub K Y3 λa35 C34=>(Yn (x15.2.2.1,(some v19),C34) (a35) rfl rfl)) (LR 1 (Yn (x15.2.2.1,(some v19),x15.2.2.2) (g14) rfl rfl))) λg37 x36=>(Yn ((some v17),(x36.2.1),x36.1,x36.2.2) (g37) rfl rfl)))) λg38 x39=>(Yn ((some v9),(x39.1),(x39.2.1),x39.2.2.1,x39.2.2.2) (g38) rfl rfl))) λg41 x42=>(Xu Y3)))⟩⟩
noncomputable def YJ:=Zj.1
theorem Ys:FnScope ["drawing","table","count","asked","told","arc"] ["drawing","table"] (Xg Zp):=⟨rfl,rfl,rfl,by decide+kernel,rfl,by decide+kernel,by decide+kernel⟩
noncomputable abbrev Z1 (m:((List (List Int))×(List (Int×Int)))->(List (List Int))->Rs (List (List Int)))(P:Program)(w:World)(K:PySem.W.Frag)(mg:Str->Option Value)(base:Heap):Prop:=Fn P w K mg base 6 "colourings" ["drawing","table"] (sp2 (rP2 (rV (rV Xc)) (rV (rP2 Xc Xc))) (rV (rV Xc)) (oL (oL (oF Xc))) m K)
noncomputable def Z3:{m // Pk λP w K mg base=>Def K mg "colourings" Zp ["drawing","table"]->Qw ZQ P w K mg base->YV Yu P w K mg base->EY Dj P w K mg base->Zn YJ P w K mg base->Blt mg->Z1 m P w K mg base}:=⟨_, @λP w K mg base D g_arc_count g_refuse_too_much g_ties g_longer_by_arc Z=>go2 D Ys 4 1 rfl rfl λhr hu hu1=>⟨_,(Xa (Xj (i:=2) Ys.nd rfl (Or.inl rfl) (XN g_arc_count hr (by decide) (Xb (pv 0) Xd)))
  (Xa (XQ (XN g_refuse_too_much hr (by decide) (Xb (Xm (Xh K rfl) rfl Z.b_len PySem.boot_len (Xb (pv 1) Xd)) (Xb (pv 2) Xd))))
  (Xa (Xj (i:=3) Ys.nd rfl (Or.inl rfl) (XN g_ties hr (by decide) (Xb (pv 0) Xd)))
  (Xa (Xj (i:=4) Ys.nd rfl (Or.inl rfl) (XH (Xb (XH Xd) Xd Q5)))
  (Xa (XG PassesOwn.never rfl (Xw rfl Z.b_range (Xb (pv 2) Xd)) (Xk (i:=5) Ys.nd rfl (Or.inr rfl))
   (Xa (Xj (i:=4) Ys.nd rfl (Or.inl rfl) (XN g_longer_by_arc hr (by decide) (Xb (pv 4) (Xb (pv 1) (Xb (YK (sc:=(Xg Zp)) (N0:=["drawing","table","count","asked","told","arc"]) (tns:=["tie"]) (caps:=[(5,"arc")]) rfl (Xy (K:=K) rfl (pv 3)) (YM (by decide)) (λcl C s H ex E=>⟨Xk (i:=0) (show List.Nodup (["tie","arc"]:List Str) by decide+kernel) rfl (Or.inl rfl),(Kv (Xp ZS (Xm (Gy K rfl rfl) rfl Z.b_max PyProof.Rows.boot_max (Xb (pv 0) Xd)) (pv 1) (Xx _))),(pv 0)⟩)) Xd)))))
   Xe))
  (Xa (Xs (pv 4))
  Xe)))))),λv_0 v_1 a_0 a_1=>(YH K qS λa1 v2=>(Mi (K:=K) qB (YH K qS λa10 v11=>(Yp K (o:=(oL (oL (oF Xc)))) 0 (G8 (ZJ (Zk (o:=(oF Xc))) λ_=>UV)) λa14 v15 C16=>(Z5 K (λO (x21:Option V×V×List Xq)=>[x21.2.2]) (λs x21=>[some v_0,some v_1,some v2,some v11,some x21.2.1,x21.1]) (λS (g22:(List (List Int))) x21=>(SC.addO S K (oL (oL (oF Xc))) x21.2.1 g22 x21.2.2)) (λ_=>tg1 5) ((none),v15,C16) (a14) qw rfl rfl (λ_ s=>(SC.i s s.r)) (λg23 x24 a25 v26=>(Yp K (o:=(oL (oL (oF Xc)))) 0 (ZL qB qB (Ev.toB (J8 (λ_=>tg1 0) qw (λC31 a32 v33=>(Ym (K:=K) (VB (DN (MO qB)) qB))) (λC31 a32 v33=>qM)))) λa27 v28 C29=>(Yn ((some v26),v28,C29) (a27) rfl rfl))) λg41 x42=>(Xu Y3))))))⟩⟩
noncomputable def YE:=Z3.1
theorem LP:FnScope ["drawing","table"] ["drawing","table"] (Xg BX):=⟨rfl,rfl,rfl,by decide+kernel,rfl,by decide+kernel,by decide+kernel⟩
noncomputable abbrev Ls (m:((List (List Int))×(List (Int×Int)))->(List (List Int))->Rs Int)(P:Program)(w:World)(K:PySem.W.Frag)(mg:Str->Option Value)(base:Heap):Prop:=Fn P w K mg base 7 "many" ["drawing","table"] (sp2 (rP2 (rV (rV Xc)) (rV (rP2 Xc Xc))) (rV (rV Xc)) (oF Xc) m K)
noncomputable def Hg:{m // Pk λP w K mg base=>Def K mg "many" BX ["drawing","table"]->Z1 YE P w K mg base->Blt mg->Ls m P w K mg base}:=⟨_, @λP w K mg base D g_colourings Z=>go2 D LP 0 0 rfl rfl λhr hu hu1=>⟨_,(Xa (Xs (Xm (Xh K rfl) rfl Z.b_len PySem.boot_len (Xb (XN g_colourings hr (by decide) (Xb (pv 0) (Xb (pv 1) Xd))) Xd)))
  Xe),λv_0 v_1 a_0 a_1=>(Xu qM)⟩⟩
noncomputable def Gw:=Hg.1
theorem UT:FnScope ["_law_script","_law_place","_law_seed","_law_cell_here"] ["_law_script","_law_place"] (Xg Bz):=⟨rfl,rfl,rfl,by decide+kernel,rfl,by decide+kernel,by decide+kernel⟩
noncomputable abbrev B9 (m:(List Int)->Int->Rs Int)(P:Program)(w:World)(K:PySem.W.Frag)(mg:Str->Option Value)(base:Heap):Prop:=Fn P w K mg base 1 "_law_cell" ["_law_script","_law_place"] (sp2 (rL Xc) Xc (oF Xc) m K)
noncomputable def BS:{m // Pk λP w K mg base=>Def K mg "_law_cell" Bz ["_law_script","_law_place"]->Blt mg->B9 m P w K mg base}:=⟨_, @λP w K mg base D Z=>go2 D UT 2 0 rfl rfl λhr hu hu1=>⟨_,(Xa (Ye (Xp Qz (pv 1) (Xm (Xh K rfl) rfl Z.b_len PySem.boot_len (Xb (pv 0) Xd)) (Xx _))
   (Xa (Xs (XF K (pv 0) (pv 1)))
   Xe)
   Xe)
  (Xa (Xj (i:=2) UT.nd rfl (Or.inl rfl) Xf)
  (Xa (XG PassesOwn.never rfl (Xy (K:=K) rfl (JY (Ko K rfl) (pv 0) UX (U0 Xf))) (Xk (i:=3) UT.nd rfl (Or.inl rfl))
   (Xa (Xj (i:=2) UT.nd rfl (Or.inl rfl) (Xl X3 (Xl XJ (Xl XJ (Xl X8 (pv 2) Xf) (Xl X3 (pv 3) Xf)) Xf) Xf))
   Xe))
  (Xa (Xs (Xl X3 (Xl XJ (pv 2) (Xl X8 Xf (pv 1))) Xf))
  Xe)))),λv_0 v_1 a_0 a_1=>(Zv (Ym (K:=K) (Lh qB (Im qB))) (Xu (EvS.ev (EvB.sh (MZ qB qB)))) (YH K qS λa7 v8=>(Z5 K (λO (x13:Option V×V)=>[]) (λs x13=>[some v_0,some v_1,some x13.2,x13.1]) (λS (g14:Int) x13=>(SC.add S K Xc x13.2 g14)) (λ_=>tg1 3) ((none),v8) (a7) (YI (Ev.sh (EW qB (qp K) (qp K)))) rfl rfl (λ_ s=>(SC.i s s.r)) (λg15 x16 a17 v18=>(YH K qS λa19 v20=>(Yn ((some v18),v20) (a19) rfl rfl))) λg31 x32=>(Xu qM))))⟩⟩
noncomputable def FW:=BS.1
theorem BO:FnScope ["_law_cell_here","_law_k","_law_one","_law_two"] ["_law_cell_here","_law_k"] (Xg NH):=⟨rfl,rfl,rfl,by decide+kernel,rfl,by decide+kernel,by decide+kernel⟩
noncomputable abbrev Mf (m:Int->Int->Rs Int)(P:Program)(w:World)(K:PySem.W.Frag)(mg:Str->Option Value)(base:Heap):Prop:=Fn P w K mg base 1 "_law_mix" ["_law_cell_here","_law_k"] (sp2 Xc Xc (oF Xc) m K)
noncomputable def MW:{m // Pk λP w K mg base=>Def K mg "_law_mix" NH ["_law_cell_here","_law_k"]->Blt mg->Mf m P w K mg base}:=⟨_, @λP w K mg base D Z=>go2 D BO 2 0 rfl rfl λhr hu hu1=>⟨_,(Xa (Xj (i:=2) BO.nd rfl (Or.inl rfl) (Xl X3 (Xl EO (Xl XJ (Xl XJ (Xl X3 (pv 0) Xf) (Xl X8 Xf (pv 1))) Xf) Xf) Xf))
  (Xa (Xj (i:=3) BO.nd rfl (Or.inl rfl) (Xl X3 (Xl XJ (Xl XJ (Xl X8 (pv 2) Xf) (Xl X8 (Xl X8 Xf (pv 1)) (pv 1))) Xf) Xf))
  (Xa (Xs (Xl Q4 (pv 3) Xf))
  Xe))),λv_0 v_1 a_0 a_1=>(YH K qS λa1 v2=>(YH K qS λa15 v16=>(Xu qM)))⟩⟩
noncomputable def IN:=MW.1
theorem Vh:FnScope ["_law_script","_law_place","_law_sizes","_law_cell_here","_law_left","_law_some","_law_k","_law_other"] ["_law_script","_law_place","_law_sizes"] (Xg MN):=⟨rfl,rfl,rfl,by decide+kernel,rfl,by decide+kernel,by decide+kernel⟩
noncomputable abbrev Iz (m:(List Int)->Int->(List Int)->Rs (List Int))(P:Program)(w:World)(K:PySem.W.Frag)(mg:Str->Option Value)(base:Heap):Prop:=Fn P w K mg base 2 "_law_row" ["_law_script","_law_place","_law_sizes"] (sp3 (rL Xc) Xc (rV Xc) (oL (oF Xc)) m K)
noncomputable def Mw:{m // Pk λP w K mg base=>Def K mg "_law_row" MN ["_law_script","_law_place","_law_sizes"]->B9 FW P w K mg base->Mf IN P w K mg base->Blt mg->Iz m P w K mg base}:=⟨_, @λP w K mg base D g_cell g_mix Z=>go3 D Vh 5 1 rfl rfl λhr hu hu1=>⟨_,(Xa (Xj (i:=3) Vh.nd rfl (Or.inl rfl) (XN g_cell hr (by decide) (Xb (pv 0) (Xb (pv 1) Xd))))
  (Xa (Xj (i:=4) Vh.nd rfl (Or.inl rfl) (pv 3))
  (Xa (Xj (i:=5) Vh.nd rfl (Or.inl rfl) (XH Xd))
  (Xa (XG PassesOwn.never rfl (Xw rfl Z.b_range (Xb (Xm (Xh K rfl) rfl Z.b_len PySem.boot_len (Xb (pv 2) Xd)) Xd)) (Xk (i:=6) Vh.nd rfl (Or.inl rfl))
   (Xa (Ye (Xp Qz (pv 3) (Xl EO Xf Xf) (Xx _))
    (Xa (XQ (YO PySem.F.plainAttrs_list PySem.F.slot_list_append PySem.F.type_list_append XA (pv 5) (Xb (Xl X3 (XN g_mix hr (by decide) (Xb (pv 3) (Xb (pv 6) Xd))) (XF K (pv 2) (pv 6))) Xd)))
    Xe)
    (Xa (Ye (Xp CU (pv 4) Xf (Xx _))
     (Xa (XQ (YO PySem.F.plainAttrs_list PySem.F.slot_list_append PySem.F.type_list_append XA (pv 5) (Xb (Xl X3 (pv 4) (XF K (pv 2) (pv 6))) Xd)))
     (Xa (Xj (i:=4) Vh.nd rfl (Or.inl rfl) (Xl Q4 (pv 4) (XF K (pv 2) (pv 6))))
     Xe))
     (Xa (Xj (i:=7) Vh.nd rfl (Or.inl rfl) (XN g_cell hr (by decide) (Xb (pv 0) (Xb (Xl X3 (Xl XJ (Xl XJ (pv 1) Xf) (pv 6)) Xf) Xd))))
     (Xa (XQ (YO PySem.F.plainAttrs_list PySem.F.slot_list_append PySem.F.type_list_append XA (pv 5) (Xb (Xl X3 (XN g_mix hr (by decide) (Xb (pv 7) (Xb (pv 6) Xd))) (XF K (pv 2) (pv 6))) Xd)))
     Xe)))
    Xe))
   Xe))
  (Xa (Xs (pv 5))
  Xe))))),λv_0 v_1 v_2 a_0 a_1 a_2=>(YH K qS λa1 v2=>(YH K qS λa6 v7=>(Yp K (o:=(oL (oF Xc))) 0 (Zk (o:=(oF Xc))) λa8 v9 C10=>(Z5 K (λO (x13:Option V×V×V×Option V×List Xq)=>[x13.2.2.2.2]) (λs x13=>[some v_0,some v_1,some v_2,some v2,some x13.2.2.1,some x13.2.1,x13.1,x13.2.2.2.1]) (λS (g14:(List Int)×Int) x13=>(SC.add (SC.addO S K (oL (oF Xc)) x13.2.1 g14.1 x13.2.2.2.2) K Xc x13.2.2.1 g14.2)) (λ_=>tg1 6) ((none),v9,v7,(none),C10) (a8,a6) qw rfl rfl (λ_ s=>(SC.i (SC.i s s.r) s.l.r)) (λg15 x16 a17 v18=>(QW (λO (x24:V×V×Option V×List Xq)=>[x24.2.2.2]) (λs x24=>[some v_0,some v_1,some v_2,some v2,some x24.2.1,some x24.1,some v18,x24.2.2.1]) (λS (g25:(List Int)×Int) x24=>(SC.add (SC.addO S K (oL (oF Xc)) x24.1 g25.1 x24.2.2.2) K Xc x24.2.1 g25.2)) (Zq (qt K) (Ub K qM λa35 C34=>(Yn (x16.2.1,x16.2.2.1,(x16.2.2.2.1),C34) (a35,g15.2) rfl rfl)) (QW (λO (x39:V×Option V×V×List Xq)=>[x39.2.2.2]) (λs x39=>[some v_0,some v_1,some v_2,some v2,some x39.1,some x39.2.2.1,some v18,x39.2.1]) (λS (g40:Int×(List Int)) x39=>(SC.addO (SC.add S K Xc x39.1 g40.1) K (oL (oF Xc)) x39.2.2.1 g40.2 x39.2.2.2)) (Zq (qt K) (Ub K qM λa47 C46=>(YH K qS λa48 v49=>(Yn (v49,(x16.2.2.2.1),x16.2.1,C46) (a48,a47) rfl rfl))) (YH K qS λa54 v55=>(Ub K qM λa74 C73=>(Yn (x16.2.2.1,(some v55),x16.2.1,C73) (g15.2,a74) rfl rfl)))) λg76 x75=>(Yn (x75.2.2.1,x75.1,(x75.2.1),x75.2.2.2) (g76.2,g76.1) rfl rfl))) λg78 x77=>(Yn ((some v18),x77.1,x77.2.1,(x77.2.2.1),x77.2.2.2) (g78.1,g78.2) rfl rfl))) λg79 x80=>(Xu Y3)))))⟩⟩
noncomputable def Bb:=Mw.1
theorem JU:FnScope ["_law_names","_law_some","_law_left","_law_found","_law_k"] ["_law_names","_law_some"] (Xg GJ):=⟨rfl,rfl,rfl,by decide+kernel,rfl,by decide+kernel,by decide+kernel⟩
noncomputable abbrev Fi (m:(List Int)->(List Int)->Rs (List Int))(P:Program)(w:World)(K:PySem.W.Frag)(mg:Str->Option Value)(base:Heap):Prop:=Fn P w K mg base 1 "_law_mixed" ["_law_names","_law_some"] (sp2 (rV Xc) (rV Xc) (oL (oF Xc)) m K)
noncomputable def GG:{m // Pk λP w K mg base=>Def K mg "_law_mixed" GJ ["_law_names","_law_some"]->Blt mg->Fi m P w K mg base}:=⟨_, @λP w K mg base D Z=>go2 D JU 3 2 rfl rfl λhr hu hu1=>⟨_,(Xa (Xj (i:=2) JU.nd rfl (Or.inl rfl) (YS (Yq K rfl) rfl Z.b_list PyProof.Rows.boot_list (Xb (pv 0) Xd)))
  (Xa (Xj (i:=3) JU.nd rfl (Or.inl rfl) (XH Xd))
  (Xa (XG PassesOwn.never rfl (Xw rfl Z.b_range (Xb (Xm (Xh K rfl) rfl Z.b_len PySem.boot_len (Xb (pv 0) Xd)) Xd)) (Xk (i:=4) JU.nd rfl (Or.inl rfl))
   (Xa (XQ (YO PySem.F.plainAttrs_list PySem.F.slot_list_append PySem.F.type_list_append XA (pv 3) (Xb (YO PySem.F.plainAttrs_list PySem.F.slot_list_pop PySem.F.type_list_pop UA (pv 2) (Xb (Xl X3 (XF K (pv 1) (Xl XJ (Xl X8 Xf (pv 4)) Xf)) (Xm (Xh K rfl) rfl Z.b_len PySem.boot_len (Xb (pv 2) Xd))) Xd)) Xd)))
   Xe))
  (Xa (Xs (pv 3))
  Xe)))),λv_0 v_1 a_0 a_1=>(Yp K 1 qN λa1 v2 C3=>(Yp K (o:=(oL (oF Xc))) 0 (Zk (o:=(oF Xc))) λa5 v6 C7=>(Z5 K (λO (x10:Option V×V×V×List Xq×List Xq)=>[x10.2.2.2.1,x10.2.2.2.2]) (λs x10=>[some v_0,some v_1,some x10.2.2.1,some x10.2.1,x10.1]) (λS (g11:(List Int)×(List Int)) x10=>(SC.addO (SC.addO S K (oL (oF Xc)) x10.2.1 g11.1 x10.2.2.2.1) K (oL (oF Xc)) x10.2.2.1 g11.2 x10.2.2.2.2)) (λ_=>tg1 4) ((none),v6,v2,C7,C3) (a5,a1) qw rfl rfl (λ_ s=>(SC.i (SC.i s s.r) s.l.r)) (λg12 x13 a14 v15=>(FZ (K:=K) (r:=Xc) (f:=λa26 a27=>(Rs.ok (a27,a26))) 2 1 3 0 (by decide) rfl rfl (λ_ s=>s.l.r) rfl rfl (λ_ s=>s.l.l.r) qB λa25 a26 C28 C29=>(Yn ((some v15),x13.2.1,x13.2.2.1,C29,C28) ((g12.1++[a25]),a26) rfl rfl))) λg32 x33=>(Xu Y3))))⟩⟩
noncomputable def Kp:=GG.1
theorem VG:FnScope ["_law_names","_law_some","_law_rings","_law_left","_law_one","_law_walks","_law_k","_law_at","_law_passage"] ["_law_names","_law_some","_law_rings"] (Xg IB):=⟨rfl,rfl,rfl,by decide+kernel,rfl,by decide+kernel,by decide+kernel⟩
noncomputable abbrev MD (m:(List Int)->(List Int)->Int->Rs (List (List Int)))(P:Program)(w:World)(K:PySem.W.Frag)(mg:Str->Option Value)(base:Heap):Prop:=Fn P w K mg base 1 "_law_any" ["_law_names","_law_some","_law_rings"] (sp3 (rV Xc) (rV Xc) Xc (oL (oL (oF Xc))) m K)
noncomputable def M4:{m // Pk λP w K mg base=>Def K mg "_law_any" IB ["_law_names","_law_some","_law_rings"]->Blt mg->MD m P w K mg base}:=⟨_, @λP w K mg base D Z=>go3 D VG 6 2 rfl rfl λhr hu hu1=>⟨_,(Xa (Xj (i:=3) VG.nd rfl (Or.inl rfl) (XH Xd))
  (Xa (XG PassesOwn.never rfl (Xy (K:=K) rfl (pv 0)) (Xk (i:=4) VG.nd rfl (Or.inl rfl))
   (Xa (XQ (YO PySem.F.plainAttrs_list PySem.F.slot_list_extend PySem.F.type_list_extend BH (pv 3) (Xb (XH (Xb (pv 4) (Xb (KJ JI (pv 4)) Xd))) Xd Q5)))
   Xe))
  (Xa (UQ 5 (Xg IB) ["_law_names","_law_some","_law_rings","_law_left","_law_one","_law_walks","_law_k","_law_at","_law_passage"] ["_law_k"] [] rfl VG.nd rfl rfl (Xw rfl Z.b_range (Xb (pv 2) Xd)) (YM (by decide)) (λcl C s H ex E=>⟨Xk (i:=0) (show List.Nodup (["_law_k"]:List Str) by decide+kernel) rfl (Or.inl rfl),Y8,(XH Xd)⟩))
  (Xa (XG PassesOwn.never rfl (Xw rfl Z.b_range (Xb (Xl X8 Xf (Xm (Xh K rfl) rfl Z.b_len PySem.boot_len (Xb (pv 0) Xd))) Xd)) (Xk (i:=6) VG.nd rfl (Or.inl rfl))
   (Xa (Xj (i:=7) VG.nd rfl (Or.inl rfl) (Xl XJ (Xl X8 Xf (pv 6)) Xf))
   (Xa (Xj (i:=8) VG.nd rfl (Or.inl rfl) (YO PySem.F.plainAttrs_list PySem.F.slot_list_pop PySem.F.type_list_pop UA (pv 3) (Xb (Xl X3 (XF K (pv 1) (pv 7)) (Xm (Xh K rfl) rfl Z.b_len PySem.boot_len (Xb (pv 3) Xd))) Xd)))
   (Xa (XQ (YO PySem.F.plainAttrs_list PySem.F.slot_list_append PySem.F.type_list_append XA (XF K (pv 5) (Xl X3 (XF K (pv 1) (Xl XJ (pv 7) Xf)) (pv 2))) (Xb (pv 8) Xd)))
   Xe))))
  (Xa (Xs (pv 5))
  Xe))))),λv_0 v_1 v_2 a_0 a_1 a_2=>(Yp K (o:=(oL (oF Xc))) 1 (Zk (o:=(oF Xc))) λa1 v2 C3=>(Z5 K (λO (x4:Option V×V×List Xq)=>[[],x4.2.2]) (λs x4=>[some v_0,some v_1,some v_2,some x4.2.1,x4.1,none,none,none,none]) (λS (g5:(List Int)) x4=>(SC.addO S K (oL (oF Xc)) x4.2.1 g5 x4.2.2)) (λ_=>tg1 4) ((none),v2,C3) (a1) qw rfl rfl (λ_ s=>(SC.i s s.r)) (λg6 x7 a8 v9=>(RZ K qN λa18 C17=>(Yn ((some v9),x7.2.1,C17) (a18) rfl rfl))) λg19 x20=>(Yp K (o:=(oL (oL (oF Xc)))) 0 (Ze (λ_=>tg1 0) qw (λC25 a26 v27=>(Zk (o:=(oF Xc))))) λa21 v22 C23=>(Z5 K (λO (x33:Option V×Option V×Option V×V×V×List Xq×List Xq)=>[x33.2.2.2.2.2.2,x33.2.2.2.2.2.1]) (λs x33=>[some v_0,some v_1,some v_2,some x33.2.2.2.1,x20.1,some x33.2.2.2.2.1,x33.1,x33.2.1,x33.2.2.1]) (λS (g34:(List Int)×(List (List Int))) x33=>(SC.addO (SC.addO S K (oL (oF Xc)) x33.2.2.2.1 g34.1 x33.2.2.2.2.2.1) K (oL (oL (oF Xc))) x33.2.2.2.2.1 g34.2 x33.2.2.2.2.2.2)) (λ_=>tg1 6) ((none),(none),(none),x20.2.1,v22,x20.2.2,C23) (g19,a21) qw rfl rfl (λ_ s=>(SC.i (SC.i s s.l.r) s.r)) (λg35 x36 a37 v38=>(YH K qS λa39 v40=>(RW K qB λa50 a51 v52 C53=>(HQ (K:=K) (r:=Xc) 5 0 rfl rfl (λ_ s=>s.l.l.l.l.r) qS qB λa65 C66=>(Yn ((some v38),(some v40),(some v52),x36.2.2.2.1,x36.2.2.2.2.1,C53,C66) (a51,a65) rfl rfl))))) λg67 x68=>(Xu Y3)))))⟩⟩
noncomputable def HN:=M4.1
theorem Yj:FnScope ["_law_names","_law_signs","_law_some","_law_strands","_law_seen","_law_walks","_law_start","_law_walk","_law_at","_law_k","_law_low"] ["_law_names","_law_signs","_law_some","_law_strands"] (Xg VZ):=⟨rfl,rfl,rfl,by decide+kernel,rfl,by decide+kernel,by decide+kernel⟩
noncomputable abbrev VO (m:(List Int)->(List (Int×Int))->(List Int)->Int->Rs (List (List Int)))(P:Program)(w:World)(K:PySem.W.Frag)(mg:Str->Option Value)(base:Heap):Prop:=Fn P w K mg base 1 "_law_plaited" ["_law_names","_law_signs","_law_some","_law_strands"] (sp4 (rV Xc) (rD Xc) (rV Xc) Xc (oL (oL (oF Xc))) m K)
noncomputable def Vv:{m // Pk λP w K mg base=>Def K mg "_law_plaited" VZ ["_law_names","_law_signs","_law_some","_law_strands"]->Blt mg->VO m P w K mg base}:=⟨_, @λP w K mg base D Z=>go4 D Yj 7 3 rfl rfl λhr hu hu1=>⟨_,(Xa (Xj (i:=4) Yj.nd rfl (Or.inl rfl) (Xl Ut (XH (Xb QG Xd)) (pv 3)))
  (Xa (Xj (i:=5) Yj.nd rfl (Or.inl rfl) (XH Xd))
  (Xa (XG PassesOwn.never rfl (Xw rfl Z.b_range (Xb (pv 3) Xd)) (Xk (i:=6) Yj.nd rfl (Or.inl rfl))
   (Xa (Ye (JA (Qs (XF K (pv 4) (pv 6))))
    (Xa (Xj (i:=7) Yj.nd rfl (Or.inl rfl) (XH Xd))
    (Xa (Xj (i:=8) Yj.nd rfl (Or.inl rfl) (pv 6))
    (Xa (J3 PassesOwn.never (JA (Qs (XF K (pv 4) (pv 8))))
     (Xa (Uh QG (EZ (pv 4) (pv 8) UY))
     (Xa (XG PassesOwn.never rfl (Xw rfl Z.b_range (Xb (Xm (Xh K rfl) rfl Z.b_len PySem.boot_len (Xb (pv 0) Xd)) Xd)) (Xk (i:=9) Yj.nd rfl (Or.inl rfl))
      (Xa (Xj (i:=10) Yj.nd rfl (Or.inl rfl) (Xl X3 (XF K (pv 2) (Xl XJ (Xl X8 Xf (pv 9)) Xf)) (Xl Zo (pv 3) Xf)))
      (Xa (Ye (Xp ZS (pv 8) (pv 10) (Xx _))
       (Xa (XQ (YO PySem.F.plainAttrs_list PySem.F.slot_list_append PySem.F.type_list_append XA (pv 7) (Xb (Xl X8 (XF K (pv 0) (pv 9)) (FG hu1 (pv 1) (XF K (pv 0) (pv 9)) (λ_ _=>rfl))) Xd)))
       (Xa (Xj (i:=8) Yj.nd rfl (Or.inl rfl) (Xl XJ (pv 10) Xf))
       Xe))
       (Xa (Ye (Xp ZS (pv 8) (Xl XJ (pv 10) Xf) (Xx _))
        (Xa (XQ (YO PySem.F.plainAttrs_list PySem.F.slot_list_append PySem.F.type_list_append XA (pv 7) (Xb (Xl X8 (KJ JI (XF K (pv 0) (pv 9))) (FG hu1 (pv 1) (XF K (pv 0) (pv 9)) (λ_ _=>rfl))) Xd)))
        (Xa (Xj (i:=8) Yj.nd rfl (Or.inl rfl) (pv 10))
        Xe))
        Xe)
       Xe))
      Xe)))
     Xe)))
    (Xa (XQ (YO PySem.F.plainAttrs_list PySem.F.slot_list_append PySem.F.type_list_append XA (pv 5) (Xb (pv 7) Xd)))
    Xe))))
    Xe)
   Xe))
  (Xa (Xs (pv 5))
  Xe)))),λv_0 v_1 v_2 v_3 a_0 a_1 a_2 a_3=>(Yp K 1 qN λa1 v2 C3=>(Yp K (o:=(oL (oL (oF Xc)))) 0 (Zk (o:=(oL (oF Xc)))) λa9 v10 C11=>(Z5 K (λO (x13:Option V×Option V×Option V×V×Option V×V×Option V×List Xq×List Xq)=>[x13.2.2.2.2.2.2.2.2,x13.2.2.2.2.2.2.2.1,[]]) (λs x13=>[some v_0,some v_1,some v_2,some v_3,some x13.2.2.2.1,some x13.2.2.2.2.2.1,x13.1,x13.2.1,x13.2.2.1,x13.2.2.2.2.1,x13.2.2.2.2.2.2.1]) (λS (g14:(List Bool)×(List (List Int))) x13=>(SC.addO (SC.addO S K (oL (oF XC)) x13.2.2.2.1 g14.1 x13.2.2.2.2.2.2.2.1) K (oL (oL (oF Xc))) x13.2.2.2.2.2.1 g14.2 x13.2.2.2.2.2.2.2.2)) (λ_=>tg1 6) ((none),(none),(none),v2,(none),v10,(none),C3,C11) (a1,a9) qw rfl rfl (λ_ s=>(SC.i (SC.i s s.l.r) s.r)) (λg15 x16 a17 v18=>(QW (λO (x23:Option V×Option V×V×Option V×V×Option V×List Xq×List Xq)=>[x23.2.2.2.2.2.2.2,x23.2.2.2.2.2.2.1,[]]) (λs x23=>[some v_0,some v_1,some v_2,some v_3,some x23.2.2.1,some x23.2.2.2.2.1,some v18,x23.1,x23.2.1,x23.2.2.2.1,x23.2.2.2.2.2.1]) (λS (g24:(List Bool)×(List (List Int))) x23=>(SC.addO (SC.addO S K (oL (oF XC)) x23.2.2.1 g24.1 x23.2.2.2.2.2.2.1) K (oL (oL (oF Xc))) x23.2.2.2.2.1 g24.2 x23.2.2.2.2.2.2.2)) (Zq (qt K) (Yp K (o:=(oL (oF Xc))) 2 (Zk (o:=(oF Xc))) λa25 v26 C27=>(YH K qS λa28 v29=>(Dd (λO (x30:V×Option V×Option V×V×V×List Xq×List Xq)=>[x16.2.2.2.2.2.2.2.2,x30.2.2.2.2.2.1,x30.2.2.2.2.2.2]) (λs x30=>[some v_0,some v_1,some v_2,some v_3,some x30.1,some x16.2.2.2.2.2.1,some v18,some x30.2.2.2.2.1,some x30.2.2.2.1,x30.2.1,x30.2.2.1]) (λS (g31:(List Bool)×Int×(List Int)) x30=>(SC.addO (SC.add (SC.addO S K (oL (oF XC)) x30.1 g31.1 x30.2.2.2.2.2.1) K Xc x30.2.2.2.1 g31.2.1) K (oL (oF Xc)) x30.2.2.2.2.1 g31.2.2 x30.2.2.2.2.2.2)) (a_3.natAbs+2) (x16.2.2.2.1,(x16.2.2.2.2.1),(x16.2.2.2.2.2.2.1),v29,v26,x16.2.2.2.2.2.2.2.1,C27) (g15.1,a28,a25) rfl rfl (λ_ s=>(SC.i (SC.i (SC.i s s.l.l.l.l.r) s.r) s.l.r)) (λg32 x33=>(qt K)) (λg32 x33=>(LC K qM (λ_=>qB) λa39 C40=>(Z5 K (λO (x43:Option V×Option V×V×V×List Xq)=>[x16.2.2.2.2.2.2.2.2,C40,x43.2.2.2.2]) (λs x43=>[some v_0,some v_1,some v_2,some v_3,some x33.1,some x16.2.2.2.2.2.1,some v18,some x43.2.2.2.1,some x43.2.2.1,x43.1,x43.2.1]) (λS (g44:Int×(List Int)) x43=>(SC.addO (SC.add S K Xc x43.2.2.1 g44.1) K (oL (oF Xc)) x43.2.2.2.1 g44.2 x43.2.2.2.2)) (λ_=>tg1 9) ((x33.2.1),(x33.2.2.1),x33.2.2.2.1,x33.2.2.2.2.1,x33.2.2.2.2.2.2) (g32.2.1,g32.2.2) qw rfl rfl (λ_ s=>(SC.i (SC.i s s.l.l.r) s.l.r)) (λg45 x46 a47 v48=>(YH K qS λa49 v50=>(QW (λO (x64:V×V×List Xq)=>[x16.2.2.2.2.2.2.2.2,C40,x64.2.2]) (λs x64=>[some v_0,some v_1,some v_2,some v_3,some x33.1,some x16.2.2.2.2.2.1,some v18,some x64.2.1,some x64.1,some v48,some v50]) (λS (g65:Int×(List Int)) x64=>(SC.addO (SC.add S K Xc x64.1 g65.1) K (oL (oF Xc)) x64.2.1 g65.2 x64.2.2)) (Zq (qt K) (Ub K (EvS.ev (EvB.sh (GF qB (UO qB qB)))) λa76 C75=>(YH K qS λa77 v78=>(Yn (v78,x46.2.2.2.1,C75) (a77,a76) rfl rfl))) (QW (λO (x86:V×V×List Xq)=>[x16.2.2.2.2.2.2.2.2,C40,x86.2.2]) (λs x86=>[some v_0,some v_1,some v_2,some v_3,some x33.1,some x16.2.2.2.2.2.1,some v18,some x86.2.1,some x86.1,some v48,some v50]) (λS (g87:Int×(List Int)) x86=>(SC.addO (SC.add S K Xc x86.1 g87.1) K (oL (oF Xc)) x86.2.1 g87.2 x86.2.2)) (Zq (qt K) (Ub K (EvS.ev (EvB.sh (GF qB (UO qB qB)))) λa99 C98=>(YH K qS λa100 v101=>(Yn (v101,x46.2.2.2.1,C98) (a100,a99) rfl rfl))) (Yn (x46.2.2.1,x46.2.2.2.1,x46.2.2.2.2) (g45.1,g45.2) rfl rfl)) λg103 x102=>(Yn (x102.1,x102.2.1,x102.2.2) (g103.1,g103.2) rfl rfl))) λg105 x104=>(Yn ((some v48),(some v50),x104.1,x104.2.1,x104.2.2) (g105.1,g105.2) rfl rfl)))) λg106 x107=>(Yn (x33.1,(x107.1),(x107.2.1),x107.2.2.1,x107.2.2.2.1,C40,x107.2.2.2.2) (a39,g106.1,g106.2) rfl rfl)))) λg109 x110=>(Ub K Y3 λa113 C112=>(Yn ((some x110.2.2.2.2.1),(some x110.2.2.2.1),x110.1,(x110.2.1),x16.2.2.2.2.2.1,(x110.2.2.1),x110.2.2.2.2.2.1,C112) (g109.1,a113) rfl rfl))))) (Yn ((x16.2.1),(x16.2.2.1),x16.2.2.2.1,(x16.2.2.2.2.1),x16.2.2.2.2.2.1,(x16.2.2.2.2.2.2.1),x16.2.2.2.2.2.2.2.1,x16.2.2.2.2.2.2.2.2) (g15.1,g15.2) rfl rfl)) λg115 x114=>(Yn ((some v18),(x114.1),(x114.2.1),x114.2.2.1,(x114.2.2.2.1),x114.2.2.2.2.1,(x114.2.2.2.2.2.1),x114.2.2.2.2.2.2.1,x114.2.2.2.2.2.2.2) (g115.1,g115.2) rfl rfl))) λg116 x117=>(Xu Y3))))⟩⟩
noncomputable def Jb:=Vv.1
theorem YB:FnScope ["_law_script","_law_place","_law_most","_law_sizes","_law_some","_law_names","_law_signs","_law_last","_law_k","_law_step","_law_walks","_law_rings"] ["_law_script","_law_place","_law_most"] (Xg U7):=⟨rfl,rfl,rfl,by decide+kernel,rfl,by decide+kernel,by decide+kernel⟩
noncomputable abbrev Ez (m:(List Int)->Int->Int->Rs ((List (List Int))×(List (Int×Int))))(P:Program)(w:World)(K:PySem.W.Frag)(mg:Str->Option Value)(base:Heap):Prop:=Fn P w K mg base 3 "_law_drawn" ["_law_script","_law_place","_law_most"] (sp3 (rL Xc) Xc Xc (oT2 (oL (oL (oF Xc))) (oL (oF (rP2 Xc Xc)))) m K)
noncomputable def Fy:{m // Pk λP w K mg base=>Def K mg "_law_drawn" U7 ["_law_script","_law_place","_law_most"]->Iz Bb P w K mg base->VO Jb P w K mg base->MD HN P w K mg base->Fi Kp P w K mg base->Blt mg->Ez m P w K mg base}:=⟨_, @λP w K mg base D g_row g_plaited g_any g_mixed Z=>go3 D YB 9 3 rfl rfl λhr hu hu1=>⟨_,(Xa (Xj (i:=3) YB.nd rfl (Or.inl rfl) (XH (Xb (Xl XJ (pv 2) Xf) (Xb Xf (Xb Xf (Xb Xf (Xb Xf Xd)))))))
  (Xa (Xj (i:=4) YB.nd rfl (Or.inl rfl) (XN g_row hr (by decide) (Xb (pv 0) (Xb (pv 1) (Xb (Xl Vp (pv 3) (Xl Ut (XH (Xb Xf (Xb Xf (Xb Xf (Xb Xf Xd))))) (Xl X8 Xf (pv 2)))) Xd)))))
  (Xa (Xj (i:=5) YB.nd rfl (Or.inl rfl) (XH Xd))
  (Xa (Xj (i:=6) YB.nd rfl (Or.inr rfl) Ix)
  (Xa (Xj (i:=7) YB.nd rfl (Or.inl rfl) Xf)
  (Xa (XG PassesOwn.never rfl (Xw rfl Z.b_range (Xb (XF K (pv 4) Xf) Xd)) (Xk (i:=8) YB.nd rfl (Or.inl rfl))
   (Xa (Xj (i:=9) YB.nd rfl (Or.inl rfl) (Xl X8 (XF K (pv 4) (Xl XJ (Xl X8 Xf (pv 8)) Xf)) (XF K (XH (Xb Xf (Xb Xf (Xb (Xl EO Xf Xf) Xd)))) (XF K (pv 4) Xf))))
   (Xa (Xj (i:=7) YB.nd rfl (Or.inl rfl) (Xl XJ (Xl XJ (pv 7) Xf) (pv 9)))
   (Xa (XQ (YO PySem.F.plainAttrs_list PySem.F.slot_list_append PySem.F.type_list_append XA (pv 5) (Xb (pv 7) Xd)))
   (Xa (Hd hu1 (pv 6) (pv 7) (Xl Zo (Xl X8 Xf (XF K (pv 4) (Xl XJ (Xl X8 Xf (pv 8)) Xf))) Xf) rfl)
   Xe)))))
  (Xa (Ye (Xp Qz (XF K (pv 4) Xf) Xf (Xx _))
   (Xa (Xj (i:=10) YB.nd rfl (Or.inl rfl) (XN g_plaited hr (by decide) (Xb (XN g_mixed hr (by decide) (Xb (pv 5) (Xb (pv 4) Xd))) (Xb (pv 6) (Xb (pv 4) (Xb (Xl XJ Xf (XF K (pv 4) Xf)) Xd))))))
   Xe)
   (Xa (Xj (i:=11) YB.nd rfl (Or.inl rfl) (Xm (Vc rfl) rfl Z.b_max PyProof.Rows.boot_max (Xb (XF K (pv 4) Xf) (Xb (Xm (Gs rfl) rfl Z.b_min PyProof.Rows.boot_min (Xb (Xm (Xh K rfl) rfl Z.b_len PySem.boot_len (Xb (pv 5) Xd)) (Xb Xf Xd))) Xd))))
   (Xa (Xj (i:=10) YB.nd rfl (Or.inl rfl) (XN g_any hr (by decide) (Xb (pv 5) (Xb (pv 4) (Xb (pv 11) Xd)))))
   Xe)))
  (Xa (Xs (Qt (Xb (pv 10) (Xb (YK (sc:=(Xg U7)) (N0:=["_law_script","_law_place","_law_most","_law_sizes","_law_some","_law_names","_law_signs","_law_last","_law_k","_law_step","_law_walks","_law_rings"]) (tns:=["_law_one"]) (caps:=[(6,"_law_signs")]) rfl (Xy (K:=K) rfl (pv 5)) (YM (by decide)) (λcl C s H ex E=>⟨Xk (i:=0) (show List.Nodup (["_law_one","_law_signs"]:List Str) by decide+kernel) rfl (Or.inl rfl),Y8,(Qt (Xb (pv 0) (Xb (FG hu1 (pv 1) (pv 0) (λ_ _=>rfl)) Xd)))⟩)) Xd))))
  Xe)))))))),λv_0 v_1 v_2 a_0 a_1 a_2=>(YH K qS λa1 v2=>(YH K qS λa16 v17=>(Yp K (o:=(oL (oF Xc))) 2 (Zk (o:=(oF Xc))) λa37 v38 C39=>(Yp K (o:=(oD Xc)) 1 (Mn (r:=Xc)) λa40 v41 C42=>(YH K qS λa43 v44=>(Z5 K (λO (x48:Option V×Option V×V×V×V×List Xq×List Xq)=>[[],x48.2.2.2.2.2.1,x48.2.2.2.2.2.2]) (λs x48=>[some v_0,some v_1,some v_2,some v2,some v17,some x48.2.2.2.2.1,some x48.2.2.2.1,some x48.2.2.1,x48.1,x48.2.1,none,none]) (λS (g49:Int×(List (Int×Int))×(List Int)) x48=>(SC.addO (SC.addO (SC.add S K Xc x48.2.2.1 g49.1) K (oD Xc) x48.2.2.2.1 g49.2.1 x48.2.2.2.2.2.1) K (oL (oF Xc)) x48.2.2.2.2.1 g49.2.2 x48.2.2.2.2.2.2)) (λ_=>tg1 8) ((none),(none),v44,v41,v38,C42,C39) (a43,a40,a37) qw rfl rfl (λ_ s=>(SC.i (SC.i (SC.i s s.r) s.l.r) s.l.l.r)) (λg50 x51 a52 v53=>(YH K qS λa54 v55=>(YH K qS λa77 v78=>(Ub K qM λa85 C84=>(PD K qS qB λa98 C99=>(Yn ((some v53),(some v55),v78,x51.2.2.2.1,x51.2.2.2.2.1,C99,C84) (a77,a98,a85) rfl rfl)))))) λg100 x101=>(QW (λO (x107:V×Option V×List Xq)=>[x107.2.2,x101.2.2.2.2.2.1,x101.2.2.2.2.2.2]) (λs x107=>[some v_0,some v_1,some v_2,some v2,some v17,some x101.2.2.2.2.1,some x101.2.2.2.1,some x101.2.2.1,x101.1,x101.2.1,some x107.1,x107.2.1]) (λS (g108:(List (List Int))) x107=>(SC.addO S K (oL (oL (oF Xc))) x107.1 g108 x107.2.2)) (Zq (qt K) (Yp K 0 qN λa109 v110 C111=>(Yn (v110,(none),C111) (a109) rfl rfl)) (YH K qS λa124 v125=>(Yp K 0 qN λa133 v134 C135=>(Yn (v134,(some v125),C135) (a133) rfl rfl)))) λg141 x140=>(Xu (Db Y3 λ_=>(ND (K:=K) (o1:=(oL (oF Xc))) 3 rfl (λ_ s=>s.l.r) (Ze (λ_=>tg1 0) qw (λC142 a143 v144=>(EvS.ev (J2 qS (EvB.sh (UO qB qB))))))))))))))))⟩⟩
noncomputable def Jv:=Fy.1
theorem MR:FnScope ["_law_drawing"] ["_law_drawing"] (Xg FI):=⟨rfl,rfl,rfl,by decide+kernel,rfl,by decide+kernel,by decide+kernel⟩
noncomputable abbrev Lb (m:((List (List Int))×(List (Int×Int)))->Rs ((List (List Int))×(List (Int×Int))))(P:Program)(w:World)(K:PySem.W.Frag)(mg:Str->Option Value)(base:Heap):Prop:=Fn P w K mg base 1 "_law_copy" ["_law_drawing"] (sp1 (rP2 (rV (rV Xc)) (rV (rP2 Xc Xc))) (oT2 (oL (oL (oF Xc))) (oL (oF (rP2 Xc Xc)))) m K)
noncomputable def EF:{m // Pk λP w K mg base=>Def K mg "_law_copy" FI ["_law_drawing"]->Blt mg->Lb m P w K mg base}:=⟨_, @λP w K mg base D Z=>go1 D MR 0 0 rfl rfl λhr hu hu1=>⟨_,(Xa (Xs (Qt (Xb (YK (sc:=(Xg FI)) (N0:=["_law_drawing"]) (tns:=["_law_walk"]) (caps:=[]) rfl (Xy (K:=K) rfl (Js K (pv 0) Xf)) (YM (by decide)) (λcl C s H ex E=>⟨Xk (i:=0) (show List.Nodup (["_law_walk"]:List Str) by decide+kernel) rfl (Or.inl rfl),Y8,(YS (Yq K rfl) rfl Z.b_list PyProof.Rows.boot_list (Xb (pv 0) Xd))⟩)) (Xb (YS (Yq K rfl) rfl Z.b_list PyProof.Rows.boot_list (Xb (Js K (pv 0) Xf) Xd)) Xd))))
  Xe),λv_0 a_0=>(Xu (Db (Ze (λ_=>tg1 0) qw (λC2 a3 v4=>qN)) λ_=>qN))⟩⟩
noncomputable def VU:=EF.1
theorem Fb:FnScope ["_law_one"] ["_law_one"] (Xg Jx):=⟨rfl,rfl,rfl,by decide+kernel,rfl,by decide+kernel,by decide+kernel⟩
noncomputable abbrev Jt (m:Int->Rs Bool)(P:Program)(w:World)(K:PySem.W.Frag)(mg:Str->Option Value)(base:Heap):Prop:=Fn P w K mg base 1 "_law_is_whole" ["_law_one"] (sp1 Xc (oF XC) m K)
noncomputable def Uo:{m // Pk λP w K mg base=>Def K mg "_law_is_whole" Jx ["_law_one"]->Blt mg->Jt m P w K mg base}:=⟨_, @λP w K mg base D Z=>go1 D Fb 0 0 rfl rfl λhr hu hu1=>⟨_,(Xa (Xs (N1 (Xm ZW rfl Z.b_isinstance PyProof.Rows.boot_isinstance (Xb (pv 0) (Xb (Kl (v:=V.ty "int") rfl Z.b_int PyProof.Rows.boot_int rfl) Xd))) (Pa (Oc (Xm ZW rfl Z.b_isinstance PyProof.Rows.boot_isinstance (Xb (pv 0) (Xb (Kl (v:=V.ty "bool") rfl Z.b_bool PyProof.Rows.boot_bool rfl) Xd)))))))
  Xe),λv_0 a_0=>(Xu (EvS.ev (EvB.sh (Dq (Qi "int" true (U9 K "int") qB) (DO (Qi "bool" false (Gv K) qB))))))⟩⟩
noncomputable def Ug:=Uo.1
theorem JK:FnScope ["_law_found","_law_one"] ["_law_found"] (Xg QH):=⟨rfl,rfl,rfl,by decide+kernel,rfl,by decide+kernel,by decide+kernel⟩
noncomputable abbrev VM (m:(List Int)->Rs Bool)(P:Program)(w:World)(K:PySem.W.Frag)(mg:Str->Option Value)(base:Heap):Prop:=Fn P w K mg base 2 "_law_is_wholes" ["_law_found"] (sp1 (rV Xc) (oF XC) m K)
noncomputable def QI:{m // Pk λP w K mg base=>Def K mg "_law_is_wholes" QH ["_law_found"]->Jt Ug P w K mg base->Blt mg->VM m P w K mg base}:=⟨_, @λP w K mg base D g_is_whole Z=>go1 D JK 1 0 rfl rfl λhr hu hu1=>⟨_,(Xa (Ye (JA (Qs (Xm ZW rfl Z.b_isinstance PyProof.Rows.boot_isinstance (Xb (pv 0) (Xb (Kl (v:=V.ty "list") rfl Z.b_list PyProof.Rows.boot_list rfl) Xd)))))
   (Xa (Xs QG)
   Xe)
   Xe)
  (Xa (XG PassesOwn.never rfl (Xy (K:=K) rfl (pv 0)) (Xk (i:=1) JK.nd rfl (Or.inl rfl))
   (Xa (Ye (JA (Qs (XN g_is_whole hr (by decide) (Xb (pv 1) Xd))))
    (Xa (Xs QG)
    Xe)
    Xe)
   Xe))
  (Xa (Xs QG)
  Xe))),λv_0 a_0=>(Zv (Jj (UZ (K:=K) (Qi "list" true (U9 K "list") qB))) (Xu qM) (ID K (λO (x4:Option V)=>[]) (λs x4=>[some v_0,x4]) (λS (g5:Unit) x4=>S) (λ_=>tg1 1) ((none)) () qw rfl rfl (λ_ s=>s) (λg6 x7 a8 v9=>(Qx (qt K) (Xu qM) (VH (Yn ((some v9)) () rfl rfl)))) λg16 x17=>(Xu qM)))⟩⟩
noncomputable def Zi:=QI.1
theorem Uw:FnScope ["_law_way","_law_size","_law_factor","_law_a","_law_b","_law_half"] ["_law_way","_law_size","_law_factor","_law_a","_law_b"] (Xg V2):=⟨rfl,rfl,rfl,by decide+kernel,rfl,by decide+kernel,by decide+kernel⟩
noncomputable abbrev Vf (m:Int->Int->Int->Int->Int->Rs Int)(P:Program)(w:World)(K:PySem.W.Frag)(mg:Str->Option Value)(base:Heap):Prop:=Fn P w K mg base 1 "_law_cell_of" ["_law_way","_law_size","_law_factor","_law_a","_law_b"] (sp5 Xc Xc Xc Xc Xc (oF Xc) m K)
noncomputable def Vy:{m // Pk λP w K mg base=>Def K mg "_law_cell_of" V2 ["_law_way","_law_size","_law_factor","_law_a","_law_b"]->Blt mg->Vf m P w K mg base}:=⟨_, @λP w K mg base D Z=>go5 D Uw 1 0 rfl rfl λhr hu hu1=>⟨_,(Xa (Xj (i:=5) Uw.nd rfl (Or.inl rfl) (Xl Q4 (pv 1) Xf))
  (Xa (Ye (Xp ZS (pv 0) Xf (Xx _))
   (Xa (Xs (Xl X3 (Xl Zo (Xl X8 Xf (pv 4)) (pv 3)) (pv 1)))
   Xe)
   Xe)
  (Xa (Ye (Xp ZS (pv 0) Xf (Xx _))
   (Xa (Xs (Xl X3 (Xl XJ (Xl X8 (pv 2) (pv 3)) (Xl X8 (Xl Zo Xf (pv 2)) (pv 4))) (pv 1)))
   Xe)
   Xe)
  (Xa (Ye (PW.pt (ZF (Xp ZS (pv 0) Xf (Xx _)) (ZF (Xp CU (pv 1) Xf (Xx _)) (ZF (Xp Qz (pv 3) Xf (Xx _)) (Qe (Xp ZS (pv 4) (Xl Zo (pv 1) Xf) (Xx _)))))))
   (Xa (Xs (Xl Zo Xf (pv 3)))
   Xe)
   Xe)
  (Xa (Ye (PW.pt (ZF (Xp ZS (pv 0) Xf (Xx _)) (ZF (Xp Qz (pv 3) (Xl Zo (pv 1) Xf) (Xx _)) (Qe (Xp ZS (pv 4) (Xl Zo (pv 1) Xf) (Xx _))))))
   (Xa (Xs (Xl X3 (Xl XJ (pv 3) Xf) (Xl Zo (pv 1) Xf)))
   Xe)
   Xe)
  (Xa (Ye (PW.pt (ZF (Xp ZS (pv 0) Xf (Xx _)) (ZF (Xp Qz (pv 3) (pv 5) (Xx _)) (Qe (Xp Qz (pv 4) (pv 5) (Xx _))))))
   (Xa (Xs (Xl X3 (Xl Zo (Xl X8 Xf (pv 4)) (pv 3)) (pv 5)))
   Xe)
   Xe)
  (Xa (Ye (PW.pt (ZF (Xp ZS (pv 0) Xf (Xx _)) (ZF (Xp OW (pv 3) (pv 5) (Xx _)) (Qe (Xp OW (pv 4) (pv 5) (Xx _))))))
   (Xa (Xs (Xl XJ (pv 5) (Xl X3 (Xl Zo (Xl Zo (Xl X8 Xf (pv 4)) (pv 3)) (pv 5)) (Xl Zo (pv 1) (pv 5)))))
   Xe)
   Xe)
  (Xa (Xs (pv 3))
  Xe)))))))),λv_0 v_1 v_2 v_3 v_4 a_0 a_1 a_2 a_3 a_4=>(YH K qS λa1 v2=>(Zv (qt K) (Xu qM) (Zv (qt K) (Xu qM) (Zv (qt K) (Xu qM) (Zv (qt K) (Xu qM) (Zv (qt K) (Xu qM) (Zv (qt K) (Xu qM) (Xu qM))))))))⟩⟩
noncomputable def Z0:=Vy.1
theorem VF:FnScope ["_law_one","_law_other"] ["_law_one","_law_other"] (Xg U4):=⟨rfl,rfl,rfl,by decide+kernel,rfl,by decide+kernel,by decide+kernel⟩
noncomputable abbrev Ki (m:Int->Int->Rs Int)(P:Program)(w:World)(K:PySem.W.Frag)(mg:Str->Option Value)(base:Heap):Prop:=Fn P w K mg base 1 "_law_common" ["_law_one","_law_other"] (sp2 Xc Xc (oF Xc) m K)
noncomputable def U5:{m // Pk λP w K mg base=>Def K mg "_law_common" U4 ["_law_one","_law_other"]->Blt mg->Ki m P w K mg base}:=⟨_, @λP w K mg base D Z=>go2 D VF 0 0 rfl rfl λhr hu hu1=>⟨_,(Xa (DQ (i:=0) (j:=1) rfl VF.nd rfl rfl (by decide) rfl rfl (Xb (Xm Dz rfl Z.b_abs PyProof.Rows.boot_abs (Xb (pv 0) Xd)) (Xb (Xm Dz rfl Z.b_abs PyProof.Rows.boot_abs (Xb (pv 1) Xd)) Xd)) rfl)
  (Xa (J3 PassesOwn.never (Xp CU (pv 1) Xf (Xx _))
   (Xa (DQ (i:=0) (j:=1) rfl VF.nd rfl rfl (by decide) rfl rfl (Xb (pv 1) (Xb (Xl X3 (pv 0) (pv 1)) Xd)) rfl)
   Xe))
  (Xa (Xs (pv 0))
  Xe))),λv_0 v_1 a_0 a_1=>(DR (K:=K) 0 1 qS qS λa3 a4 v5 v6=>(Dd (λO (x7:V×V)=>[]) (λs x7=>[some x7.1,some x7.2]) (λS (g8:Int×Int) x7=>(SC.add (SC.add S K Xc x7.1 g8.1) K Xc x7.2 g8.2)) (a3.natAbs+a4.natAbs+2) (v5,v6) (a3,a4) rfl rfl (λ_ s=>(SC.i (SC.i s s.l.r) s.r)) (λg9 x10=>(qt K)) (λg9 x10=>(DR (K:=K) 0 1 qS qS λa15 a16 v17 v18=>(Yn (v17,v18) (a15,a16) rfl rfl))) λg19 x20=>(Xu qM)))⟩⟩
noncomputable def JW:=U5.1
theorem US:FnScope ["_law_way","_law_size","_law_factor","_law_some","_law_a"] ["_law_way","_law_size","_law_factor"] (Xg Dg):=⟨rfl,rfl,rfl,by decide+kernel,rfl,by decide+kernel,by decide+kernel⟩
noncomputable abbrev Ed (m:Int->Int->Int->Rs (List (List Int)))(P:Program)(w:World)(K:PySem.W.Frag)(mg:Str->Option Value)(base:Heap):Prop:=Fn P w K mg base 2 "_law_made" ["_law_way","_law_size","_law_factor"] (sp3 Xc Xc Xc (oL (oL (oF Xc))) m K)
noncomputable def BF:{m // Pk λP w K mg base=>Def K mg "_law_made" Dg ["_law_way","_law_size","_law_factor"]->Ki JW P w K mg base->Vf Z0 P w K mg base->Blt mg->Ed m P w K mg base}:=⟨_, @λP w K mg base D g_common g_cell_of Z=>go3 D US 2 1 rfl rfl λhr hu hu1=>⟨_,(Xa (Ye (PW.pt (ZF (Xp ZS (pv 0) Xf (Xx _)) (Qe (Xp ZS (pv 1) Xf (Xx _)))))
   (@Xa _ _ _ _ _ (@Xs _ _ _ _ (@K8 _))
   Xe)
   Xe)
  (Xa (J3 PassesOwn.never (Xp Ig (XN g_common hr (by decide) (Xb (pv 2) (Xb (pv 1) Xd))) Xf (Xx _))
   (Xa (Xj (i:=2) US.nd rfl (Or.inr rfl) (Xl XJ (pv 2) Xf))
   Xe))
  (Xa (Xj (i:=3) US.nd rfl (Or.inl rfl) (XH Xd))
  (Xa (XG PassesOwn.never rfl (Xw rfl Z.b_range (Xb (pv 1) Xd)) (Xk (i:=4) US.nd rfl (Or.inr rfl))
   (Xa (XQ (YO PySem.F.plainAttrs_list PySem.F.slot_list_append PySem.F.type_list_append XA (pv 3) (Xb (YK (sc:=(Xg Dg)) (N0:=["_law_way","_law_size","_law_factor","_law_some","_law_a"]) (tns:=["_law_b"]) (caps:=[(0,"_law_way"),(1,"_law_size"),(2,"_law_factor"),(4,"_law_a")]) rfl (Xw rfl Z.b_range (Xb (pv 1) Xd)) (YM (by decide)) (λcl C s H ex E=>⟨Xk (i:=0) (show List.Nodup (["_law_b","_law_way","_law_size","_law_factor","_law_a"]:List Str) by decide+kernel) rfl (Or.inl rfl),Y8,(XN g_cell_of hr (by decide) (Xb (pv 1) (Xb (pv 2) (Xb (pv 3) (Xb (pv 4) (Xb (pv 0) Xd))))))⟩)) Xd)))
   Xe))
  (Xa (Xs (pv 3))
  Xe))))),λv_0 v_1 v_2 a_0 a_1 a_2=>(Zv (qt K) (Xu (G8 (ZJ qN λ_=>(ZJ qN λ_=>(ZJ qN λ_=>(ZJ qN λ_=>UV)))))) (Dd (λO (x51:V)=>[[]]) (λs x51=>[some v_0,some v_1,some x51,none,none]) (λS (g52:Int) x51=>(SC.add S K Xc x51 g52)) (a_1.natAbs+2) (v_2) (a_2) rfl rfl (λ_ s=>(SC.i s s.r)) (λg53 x54=>(qt K)) (λg53 x54=>(YH K qS λa60 v61=>(Yn (v61) (a60) rfl rfl))) λg64 x65=>(Yp K (o:=(oL (oL (oF Xc)))) 0 (Zk (o:=(oL (oF Xc)))) λa66 v67 C68=>(Z5 K (λO (x70:Option V×V×List Xq)=>[x70.2.2]) (λs x70=>[some v_0,some v_1,some x65,some x70.2.1,x70.1]) (λS (g71:(List (List Int))) x70=>(SC.addO S K (oL (oL (oF Xc))) x70.2.1 g71 x70.2.2)) (λ_=>tg1 4) ((none),v67,C68) (a66) qw rfl rfl (λ_ s=>(SC.i s s.r)) (λg72 x73 a74 v75=>(Ub K (Ze (λ_=>tg1 0) qw (λC77 a78 v79=>(Dh qB qB qB qB qB))) λa89 C88=>(Yn ((some v75),x73.2.1,C88) (a89) rfl rfl))) λg90 x91=>(Xu Y3)))))⟩⟩
noncomputable def DC:=BF.1
theorem Qm:FnScope ["_law_some","_law_count_here","_law_left","_law_found","_law_k"] ["_law_some","_law_count_here"] (Xg Vm):=⟨rfl,rfl,rfl,by decide+kernel,rfl,by decide+kernel,by decide+kernel⟩
noncomputable abbrev Vk (m:(List Int)->Int->Rs (List Int))(P:Program)(w:World)(K:PySem.W.Frag)(mg:Str->Option Value)(base:Heap):Prop:=Fn P w K mg base 1 "_law_ordered" ["_law_some","_law_count_here"] (sp2 (rV Xc) Xc (oL (oF Xc)) m K)
noncomputable def V9:{m // Pk λP w K mg base=>Def K mg "_law_ordered" Vm ["_law_some","_law_count_here"]->Blt mg->Vk m P w K mg base}:=⟨_, @λP w K mg base D Z=>go2 D Qm 3 2 rfl rfl λhr hu hu1=>⟨_,(Xa (Xj (i:=2) Qm.nd rfl (Or.inl rfl) (Gi rfl rfl rfl Z.b_list Z.b_range (Xb (pv 1) Xd)))
  (Xa (Xj (i:=3) Qm.nd rfl (Or.inl rfl) (XH Xd))
  (Xa (XG PassesOwn.never rfl (Xw rfl Z.b_range (Xb (pv 1) Xd)) (Xk (i:=4) Qm.nd rfl (Or.inl rfl))
   (Xa (XQ (YO PySem.F.plainAttrs_list PySem.F.slot_list_append PySem.F.type_list_append XA (pv 3) (Xb (YO PySem.F.plainAttrs_list PySem.F.slot_list_pop PySem.F.type_list_pop UA (pv 2) (Xb (Xl X3 (XF K (pv 0) (pv 4)) (Xm (Xh K rfl) rfl Z.b_len PySem.boot_len (Xb (pv 2) Xd))) Xd)) Xd)))
   Xe))
  (Xa (Xs (pv 3))
  Xe)))),λv_0 v_1 a_0 a_1=>(Yp K (o:=(oL (oF Xc))) 1 (KS qB) λa1 v2 C3=>(Yp K (o:=(oL (oF Xc))) 0 (Zk (o:=(oF Xc))) λa5 v6 C7=>(Z5 K (λO (x9:Option V×V×V×List Xq×List Xq)=>[x9.2.2.2.1,x9.2.2.2.2]) (λs x9=>[some v_0,some v_1,some x9.2.2.1,some x9.2.1,x9.1]) (λS (g10:(List Int)×(List Int)) x9=>(SC.addO (SC.addO S K (oL (oF Xc)) x9.2.1 g10.1 x9.2.2.2.1) K (oL (oF Xc)) x9.2.2.1 g10.2 x9.2.2.2.2)) (λ_=>tg1 4) ((none),v6,v2,C7,C3) (a5,a1) qw rfl rfl (λ_ s=>(SC.i (SC.i s s.r) s.l.r)) (λg11 x12 a13 v14=>(FZ (K:=K) (r:=Xc) (f:=λa21 a22=>(Rs.ok (a22,a21))) 2 1 3 0 (by decide) rfl rfl (λ_ s=>s.l.r) rfl rfl (λ_ s=>s.l.l.r) qB λa20 a21 C23 C24=>(Yn ((some v14),x12.2.1,x12.2.2.1,C24,C23) ((g11.1++[a20]),a21) rfl rfl))) λg27 x28=>(Xu Y3))))⟩⟩
noncomputable def QV:=V9.1
theorem QZ:FnScope ["_law_some","_law_spots","_law_found","_law_a","_law_b"] ["_law_some","_law_spots"] (Xg J0):=⟨rfl,rfl,rfl,by decide+kernel,rfl,by decide+kernel,by decide+kernel⟩
noncomputable abbrev UB (m:(List (List Int))->(List Int)->Rs (List (List Int)))(P:Program)(w:World)(K:PySem.W.Frag)(mg:Str->Option Value)(base:Heap):Prop:=Fn P w K mg base 1 "_law_relaid" ["_law_some","_law_spots"] (sp2 (rV (rV Xc)) (rV Xc) (oL (oL (oF Xc))) m K)
noncomputable def Ks:{m // Pk λP w K mg base=>Def K mg "_law_relaid" J0 ["_law_some","_law_spots"]->Blt mg->UB m P w K mg base}:=⟨_, @λP w K mg base D Z=>go2 D QZ 3 1 rfl rfl λhr hu hu1=>⟨_,(Xa (UQ 2 (Xg J0) ["_law_some","_law_spots","_law_found","_law_a","_law_b"] ["_law_line"] [] rfl QZ.nd rfl rfl (Xy (K:=K) rfl (pv 0)) (YM (by decide)) (λcl C s H ex E=>⟨Xk (i:=0) (show List.Nodup (["_law_line"]:List Str) by decide+kernel) rfl (Or.inl rfl),Y8,(YS (Yq K rfl) rfl Z.b_list PyProof.Rows.boot_list (Xb (pv 0) Xd))⟩))
  (Xa (XG PassesOwn.never rfl (Xw rfl Z.b_range (Xb (Xm (Xh K rfl) rfl Z.b_len PySem.boot_len (Xb (pv 0) Xd)) Xd)) (Xk (i:=3) QZ.nd rfl (Or.inl rfl))
   (Xa (XG PassesOwn.never rfl (Xw rfl Z.b_range (Xb (Xm (Xh K rfl) rfl Z.b_len PySem.boot_len (Xb (pv 0) Xd)) Xd)) (Xk (i:=4) QZ.nd rfl (Or.inl rfl))
    (Xa (Uh (XF K (pv 1) (XF K (XF K (pv 0) (pv 3)) (pv 4))) (EZ (XF K (pv 2) (XF K (pv 1) (pv 3))) (XF K (pv 1) (pv 4)) UY))
    Xe))
   Xe))
  (Xa (Xs (pv 2))
  Xe))),λv_0 v_1 a_0 a_1=>(Yp K (o:=(oL (oL (oF Xc)))) 0 (Ze (λ_=>tg1 0) qw (λC4 a5 v6=>qN)) λa1 v2 C3=>(Z5 K (λO (x11:Option V×Option V×V×List Xq)=>[x11.2.2.2]) (λs x11=>[some v_0,some v_1,some x11.2.2.1,x11.1,x11.2.1]) (λS (g12:(List (List Int))) x11=>(SC.addO S K (oL (oL (oF Xc))) x11.2.2.1 g12 x11.2.2.2)) (λ_=>tg1 3) ((none),(none),v2,C3) (a1) qw rfl rfl (λ_ s=>(SC.i s s.r)) (λg13 x14 a15 v16=>(Z5 K (λO (x19:Option V×V×List Xq)=>[x19.2.2]) (λs x19=>[some v_0,some v_1,some x19.2.1,some v16,x19.1]) (λS (g20:(List (List Int))) x19=>(SC.addO S K (oL (oL (oF Xc))) x19.2.1 g20 x19.2.2)) (λ_=>tg1 4) ((x14.2.1),x14.2.2.1,x14.2.2.2) (g13) qw rfl rfl (λ_ s=>(SC.i s s.l.r)) (λg21 x22 a23 v24=>(ER (K:=K) (r:=Xc) 2 0 rfl rfl (λ_ s=>s.l.r) qS qB qB λa38 C39=>(Yn ((some v24),x22.2.1,C39) (a38) rfl rfl))) λg42 x43=>(Yn ((some v16),(x43.1),x43.2.1,x43.2.2) (g42) rfl rfl))) λg45 x46=>(Xu Y3)))⟩⟩
noncomputable def J7:=Ks.1
theorem YQ:FnScope ["_law_script","_law_place","_law_most","_law_some","_law_size","_law_found"] ["_law_script","_law_place","_law_most"] (Xg Qg):=⟨rfl,rfl,rfl,by decide+kernel,rfl,by decide+kernel,by decide+kernel⟩
noncomputable abbrev JB (m:(List Int)->Int->Int->Rs (List (List Int)))(P:Program)(w:World)(K:PySem.W.Frag)(mg:Str->Option Value)(base:Heap):Prop:=Fn P w K mg base 3 "_law_good_table" ["_law_script","_law_place","_law_most"] (sp3 (rL Xc) Xc Xc (oL (oL (oF Xc))) m K)
noncomputable def Z4:{m // Pk λP w K mg base=>Def K mg "_law_good_table" Qg ["_law_script","_law_place","_law_most"]->Iz Bb P w K mg base->Ed DC P w K mg base->UB J7 P w K mg base->Vk QV P w K mg base->Blt mg->JB m P w K mg base}:=⟨_, @λP w K mg base D g_row g_made g_relaid g_ordered Z=>go3 D YQ 3 1 rfl rfl λhr hu hu1=>⟨_,(Xa (Xj (i:=3) YQ.nd rfl (Or.inl rfl) (XN g_row hr (by decide) (Xb (pv 0) (Xb (pv 1) (Xb (Xl Vp (XH (Xb Xf (Xb Xf (Xb Xf (Xb Xf (Xb Xf Xd)))))) (Xl Ut (XH (Xb Xf Xd)) Xf)) Xd)))))
  (Xa (Xj (i:=4) YQ.nd rfl (Or.inl rfl) (Xl XJ Xf (Xl X3 (XF K (pv 3) Xf) (pv 2))))
  (Xa (Ye (PW.pt (ZF (Xp CU (pv 2) Xf (Xx _)) (Qe (Xp CU (XF K (pv 3) Xf) Xf (Xx _)))))
   (Xa (Xj (i:=4) YQ.nd rfl (Or.inl rfl) (Xl XJ Xf (Xl X3 (XF K (pv 3) Xf) (Xl Zo (pv 2) Xf))))
   Xe)
   Xe)
  (Xa (Xj (i:=5) YQ.nd rfl (Or.inl rfl) (XN g_made hr (by decide) (Xb (XF K (pv 3) Xf) (Xb (pv 4) (Xb (Xl XJ Xf (XF K (pv 3) Xf)) Xd)))))
  (Xa (Ye (Xp ZS (XF K (pv 3) Xf) Xf (Xx _))
   (Xa (Xs (pv 5))
   Xe)
   Xe)
  (Xa (Xs (XN g_relaid hr (by decide) (Xb (pv 5) (Xb (XN g_ordered hr (by decide) (Xb (JY (Ko K rfl) (pv 3) (U0 Xf) UX) (Xb (pv 4) Xd))) Xd))))
  Xe)))))),λv_0 v_1 v_2 a_0 a_1 a_2=>(YH K qS λa1 v2=>(YH K qS λa25 v26=>(QW (λO (x40:V)=>[[]]) (λs x40=>[some v_0,some v_1,some v_2,some v2,some x40,none]) (λS (g41:Int) x40=>(SC.add S K Xc x40 g41)) (Zq (qt K) (YH K qS λa42 v43=>(Yn (v43) (a42) rfl rfl)) (Yn (v26) (a25) rfl rfl)) λg53 x52=>(Yp K 0 qN λa54 v55 C56=>(Zv (qt K) (Xu Y3) (Xu qN))))))⟩⟩
noncomputable def YF:=Z4.1
theorem X0:FnScope ["_law_walks","_law_found","_law_count_here","_law_walk","_law_first","_law_number","_law_last","_law_k","_law_row_here"] ["_law_walks"] (Xg Kc):=⟨rfl,rfl,rfl,by decide+kernel,rfl,by decide+kernel,by decide+kernel⟩
noncomputable abbrev UN (m:(List (List Int))->Rs (List (List Int)))(P:Program)(w:World)(K:PySem.W.Frag)(mg:Str->Option Value)(base:Heap):Prop:=Fn P w K mg base 1 "_law_arcs" ["_law_walks"] (sp1 (rV (rV Xc)) (oL (oL (oF Xc))) m K)
noncomputable def U3:{m // Pk λP w K mg base=>Def K mg "_law_arcs" Kc ["_law_walks"]->Blt mg->UN m P w K mg base}:=⟨_, @λP w K mg base D Z=>go1 D X0 8 2 rfl rfl λhr hu hu1=>⟨_,(Xa (Xj (i:=1) X0.nd rfl (Or.inl rfl) (XH Xd))
  (Xa (Xj (i:=2) X0.nd rfl (Or.inl rfl) Xf)
  (Xa (XG PassesOwn.never rfl (Xy (K:=K) rfl (pv 0)) (Xk (i:=3) X0.nd rfl (Or.inl rfl))
   (Xa (Xj (i:=4) X0.nd rfl (Or.inl rfl) (pv 2))
   (Xa (Xj (i:=5) X0.nd rfl (Or.inl rfl) (pv 2))
   (Xa (Xj (i:=6) X0.nd rfl (Or.inl rfl) (KJ JI Xf))
   (Xa (XG PassesOwn.never rfl (Xw rfl Z.b_range (Xb (Xm (Xh K rfl) rfl Z.b_len PySem.boot_len (Xb (pv 3) Xd)) Xd)) (Xk (i:=7) X0.nd rfl (Or.inl rfl))
    (Xa (Ye (Xp Qz (XF K (pv 3) (pv 7)) Xf (Xx _))
     (Xa (Xj (i:=6) X0.nd rfl (Or.inl rfl) (pv 7))
     Xe)
     Xe)
    Xe))
   (Xa (Xj (i:=8) X0.nd rfl (Or.inl rfl) (Xl Ut (XH (Xb (pv 4) Xd)) (Xm (Vc rfl) rfl Z.b_max PyProof.Rows.boot_max (Xb (Xm (Xh K rfl) rfl Z.b_len PySem.boot_len (Xb (pv 3) Xd)) (Xb Xf Xd)))))
   (Xa (XG PassesOwn.never rfl (Xw rfl Z.b_range (Xb (Xl XJ (pv 6) Xf) Xd)) (Xk (i:=7) X0.nd rfl (Or.inl rfl))
    (Xa (Uh (pv 5) (EZ (pv 8) (pv 7) UY))
    (Xa (Ye (PW.pt (ZF (Xp Qz (XF K (pv 3) (pv 7)) Xf (Xx _)) (Qe (Xp Qz (pv 7) (pv 6) (Xx _)))))
     (Xa (Xj (i:=2) X0.nd rfl (Or.inl rfl) (Xl XJ (pv 2) Xf))
     (Xa (Xj (i:=5) X0.nd rfl (Or.inl rfl) (pv 2))
     Xe))
     Xe)
    Xe)))
   (Xa (Xj (i:=2) X0.nd rfl (Or.inl rfl) (Xl XJ (pv 2) Xf))
   (Xa (XQ (YO PySem.F.plainAttrs_list PySem.F.slot_list_append PySem.F.type_list_append XA (pv 1) (Xb (pv 8) Xd)))
   Xe)))))))))
  (Xa (Xs (pv 1))
  Xe)))),λv_0 a_0=>(Yp K (o:=(oL (oL (oF Xc)))) 0 (Zk (o:=(oL (oF Xc)))) λa1 v2 C3=>(YH K qS λa4 v5=>(Z5 K (λO (x6:Option V×Option V×Option V×Option V×Option V×Option V×V×V×List Xq)=>[x6.2.2.2.2.2.2.2.2,[]]) (λs x6=>[some v_0,some x6.2.2.2.2.2.2.2.1,some x6.2.2.2.2.2.2.1,x6.1,x6.2.1,x6.2.2.1,x6.2.2.2.1,x6.2.2.2.2.1,x6.2.2.2.2.2.1]) (λS (g7:Int×(List (List Int))) x6=>(SC.addO (SC.add S K Xc x6.2.2.2.2.2.2.1 g7.1) K (oL (oL (oF Xc))) x6.2.2.2.2.2.2.2.1 g7.2 x6.2.2.2.2.2.2.2.2)) (λ_=>tg1 3) ((none),(none),(none),(none),(none),(none),v5,v2,C3) (a4,a1) qw rfl rfl (λ_ s=>(SC.i (SC.i s s.r) s.l.r)) (λg8 x9 a10 v11=>(YH K qS λa12 v13=>(YH K qS λa14 v15=>(YH K qS λa16 v17=>(Z5 K (λO (x21:Option V×V)=>[x9.2.2.2.2.2.2.2.2,[]]) (λs x21=>[some v_0,some x9.2.2.2.2.2.2.2.1,some x9.2.2.2.2.2.2.1,some v11,some v13,some v15,some x21.2,x21.1,x9.2.2.2.2.2.1]) (λS (g22:Int) x21=>(SC.add S K Xc x21.2 g22)) (λ_=>tg1 7) ((x9.2.2.2.2.1),v17) (a16) qw rfl rfl (λ_ s=>(SC.i s s.r)) (λg23 x24 a25 v26=>(QW (λO (x32:V)=>[x9.2.2.2.2.2.2.2.2,[]]) (λs x32=>[some v_0,some x9.2.2.2.2.2.2.2.1,some x9.2.2.2.2.2.2.1,some v11,some v13,some v15,some x32,some v26,x9.2.2.2.2.2.1]) (λS (g33:Int) x32=>(SC.add S K Xc x32 g33)) (Zq (qt K) (YH K qS λa34 v35=>(Yn (v35) (a34) rfl rfl)) (Yn (x24.2) (g23) rfl rfl)) λg37 x36=>(Yn ((some v26),x36) (g37) rfl rfl))) λg38 x39=>(Yp K 1 qN λa40 v41 C42=>(Z5 K (λO (x54:Option V×V×V×V×List Xq)=>[x9.2.2.2.2.2.2.2.2,x54.2.2.2.2]) (λs x54=>[some v_0,some x9.2.2.2.2.2.2.2.1,some x54.2.2.1,some v11,some v13,some x54.2.2.2.1,some x39.2,x54.1,some x54.2.1]) (λS (g55:(List Int)×Int×Int) x54=>(SC.add (SC.add (SC.addO S K (oL (oF Xc)) x54.2.1 g55.1 x54.2.2.2.2) K Xc x54.2.2.1 g55.2.1) K Xc x54.2.2.2.1 g55.2.2)) (λ_=>tg1 7) ((x39.1),v41,x9.2.2.2.2.2.2.1,v15,C42) (a40,g8.1,a14) qw rfl rfl (λ_ s=>(SC.i (SC.i (SC.i s s.r) s.l.l.l.l.l.l.l.r) s.l.l.l.r)) (λg56 x57 a58 v59=>(LC K qM (λ_=>qB) λa62 C63=>(QW (λO (x71:V×V)=>[x9.2.2.2.2.2.2.2.2,C63]) (λs x71=>[some v_0,some x9.2.2.2.2.2.2.2.1,some x71.1,some v11,some v13,some x71.2,some x39.2,some v59,some x57.2.1]) (λS (g72:Int×Int) x71=>(SC.add (SC.add S K Xc x71.1 g72.1) K Xc x71.2 g72.2)) (Zq (qt K) (YH K qS λa73 v74=>(YH K qS λa77 v78=>(Yn (v74,v78) (a73,a77) rfl rfl))) (Yn (x57.2.2.1,x57.2.2.2.1) (g56.2.1,g56.2.2) rfl rfl)) λg80 x79=>(Yn ((some v59),x57.2.1,x79.1,x79.2,C63) (a62,g80.1,g80.2) rfl rfl)))) λg81 x82=>(YH K qS λa83 v84=>(Ub K Y3 λa89 C88=>(Yn ((some v11),(some v13),(some x82.2.2.2.1),(some x39.2),(x82.1),(some x82.2.1),v84,x9.2.2.2.2.2.2.2.1,C88) (a83,a89) rfl rfl)))))))))) λg92 x93=>(Xu Y3))))⟩⟩
noncomputable def JV:=U3.1
theorem KO:FnScope ["_law_walks","_law_passage","_law_k"] ["_law_walks","_law_passage"] (Xg Kq):=⟨rfl,rfl,rfl,by decide+kernel,rfl,by decide+kernel,by decide+kernel⟩
noncomputable abbrev UP (m:(List (List Int))->Int->Rs (Int×Int))(P:Program)(w:World)(K:PySem.W.Frag)(mg:Str->Option Value)(base:Heap):Prop:=Fn P w K mg base 1 "_law_spot" ["_law_walks","_law_passage"] (sp2 (rV (rV Xc)) Xc (oF (rP2 Xc Xc)) m K)
noncomputable def UC:{m // Pk λP w K mg base=>Def K mg "_law_spot" Kq ["_law_walks","_law_passage"]->Blt mg->UP m P w K mg base}:=⟨_, @λP w K mg base D Z=>go2 D KO 1 0 rfl rfl λhr hu hu1=>⟨_,(Xa (XG PassesOwn.never rfl (Xw rfl Z.b_range (Xb (Xm (Xh K rfl) rfl Z.b_len PySem.boot_len (Xb (pv 0) Xd)) Xd)) (Xk (i:=2) KO.nd rfl (Or.inl rfl))
   (Xa (Ye (Xp KK (pv 1) (XF K (pv 0) (pv 2)) rfl)
    (Xa (Xs (Qt (Xb (pv 2) (Xb (Lq (K:=K) rfl PySem.F.plainAttrs_list PySem.F.slot_list_index PySem.F.type_list_index (KU K rfl) (XF K (pv 0) (pv 2)) (Xb (pv 1) Xd)) Xd))))
    Xe)
    Xe)
   Xe))
  (Xa (Xs (Qt (Xb (KJ JI Xf) (Xb (KJ JI Xf) Xd))))
  Xe)),λv_0 v_1 a_0 a_1=>(ID K (λO (x3:Option V)=>[]) (λs x3=>[some v_0,some v_1,x3]) (λS (g4:Unit) x3=>S) (λ_=>tg1 2) ((none)) () qw rfl rfl (λ_ s=>s) (λg5 x6 a7 v8=>(Qx (Ym (K:=K) (Lx qB qB)) (Xu (EvS.ev (J2 qS (EvB.sh (KM qB qB))))) (VH (Yn ((some v8)) () rfl rfl)))) λg22 x23=>(Xu qM))⟩⟩
noncomputable def J6:=UC.1
theorem XY:FnScope ["_law_drawing","_law_walks","_law_signs","_law_rows","_law_found","_law_crossing","_law_sign","_law_up","_law_at","_law_down","_law_to","_law_behind"] ["_law_drawing"] (Xg Vj):=⟨rfl,rfl,rfl,by decide+kernel,rfl,by decide+kernel,by decide+kernel⟩
noncomputable abbrev VE (m:((List (List Int))×(List (Int×Int)))->Rs (List (Int×Int×Int×Int×Int)))(P:Program)(w:World)(K:PySem.W.Frag)(mg:Str->Option Value)(base:Heap):Prop:=Fn P w K mg base 2 "_law_meets" ["_law_drawing"] (sp1 (rP2 (rV (rV Xc)) (rV (rP2 Xc Xc))) (oL (oF (rP5 Xc Xc Xc Xc Xc))) m K)
noncomputable def V3:{m // Pk λP w K mg base=>Def K mg "_law_meets" Vj ["_law_drawing"]->UN JV P w K mg base->UP J6 P w K mg base->Blt mg->VE m P w K mg base}:=⟨_, @λP w K mg base D g_l_arcs g_l_spot Z=>go1 D XY 11 1 rfl rfl λhr hu hu1=>⟨_,(Xa (Uh (pv 0) (Q6 rfl (XI (Xk (i:=1) XY.nd rfl (Or.inl rfl)) (XI (Xk (i:=2) XY.nd rfl (Or.inl rfl)) ZV))))
  (Xa (Xj (i:=3) XY.nd rfl (Or.inl rfl) (XN g_l_arcs hr (by decide) (Xb (pv 1) Xd)))
  (Xa (Xj (i:=4) XY.nd rfl (Or.inl rfl) (XH Xd))
  (Xa (XG PassesOwn.never rfl (Xy (K:=K) rfl (pv 2)) (Q6 rfl (XI (Xk (i:=5) XY.nd rfl (Or.inl rfl)) (XI (Xk (i:=6) XY.nd rfl (Or.inl rfl)) ZV)))
   (Xa (Uh (XN g_l_spot hr (by decide) (Xb (pv 1) (Xb (pv 5) Xd))) (Q6 rfl (XI (Xk (i:=7) XY.nd rfl (Or.inl rfl)) (XI (Xk (i:=8) XY.nd rfl (Or.inl rfl)) ZV))))
   (Xa (Uh (XN g_l_spot hr (by decide) (Xb (pv 1) (Xb (KJ JI (pv 5)) Xd))) (Q6 rfl (XI (Xk (i:=9) XY.nd rfl (Or.inl rfl)) (XI (Xk (i:=10) XY.nd rfl (Or.inl rfl)) ZV))))
   (Xa (Xj (i:=11) XY.nd rfl (Or.inl rfl) (Xl X3 (Xl XJ (pv 10) Xf) (Xm (Xh K rfl) rfl Z.b_len PySem.boot_len (Xb (XF K (pv 1) (pv 9)) Xd))))
   (Xa (XQ (YO PySem.F.plainAttrs_list PySem.F.slot_list_append PySem.F.type_list_append XA (pv 4) (Xb (Qt (Xb (pv 5) (Xb (pv 6) (Xb (XF K (XF K (pv 3) (pv 7)) (pv 8)) (Xb (XF K (XF K (pv 3) (pv 9)) (pv 10)) (Xb (XF K (XF K (pv 3) (pv 9)) (pv 11)) Xd)))))) Xd)))
   Xe)))))
  (Xa (Xs (pv 4))
  Xe))))),λv_0 a_0=>(B5 (K:=K) 1 2 qS λa1 v2 v3=>(YH K qS λa4 v5=>(Yp K (o:=(oL (oF (rP5 Xc Xc Xc Xc Xc)))) 0 (Zk (o:=(oF (rP5 Xc Xc Xc Xc Xc)))) λa8 v9 C10=>(Z5 K (λO (x11:Option V×Option V×Option V×Option V×Option V×Option V×Option V×V×List Xq)=>[x11.2.2.2.2.2.2.2.2]) (λs x11=>[some v_0,some v2,some v3,some v5,some x11.2.2.2.2.2.2.2.1,x11.1,x11.2.1,x11.2.2.1,x11.2.2.2.1,x11.2.2.2.2.1,x11.2.2.2.2.2.1,x11.2.2.2.2.2.2.1]) (λS (g12:(List (Int×Int×Int×Int×Int))) x11=>(SC.addO S K (oL (oF (rP5 Xc Xc Xc Xc Xc))) x11.2.2.2.2.2.2.2.1 g12 x11.2.2.2.2.2.2.2.2)) (λ_=>tg2 5 6) ((none),(none),(none),(none),(none),(none),(none),v9,C10) (a8) qw rfl rfl (λ_ s=>(SC.i s s.r)) (λg13 x14 a15 v16=>(B5 (K:=K) 7 8 qS λa20 v21 v22=>(B5 (K:=K) 9 10 qS λa27 v28 v29=>(YH K qS λa30 v31=>(Ub K (EvS.ev (Dx qS qS qS qS qS)) λa58 C57=>(Yn ((some v16.1),(some v16.2),(some v21),(some v22),(some v28),(some v29),(some v31),x14.2.2.2.2.2.2.2.1,C57) (a58) rfl rfl)))))) λg59 x60=>(Xu Y3)))))⟩⟩
noncomputable def Y1:=V3.1
theorem Va:FnScope ["_law_drawing","_law_count_here","_law_walk"] ["_law_drawing"] (Xg Kw):=⟨rfl,rfl,rfl,by decide+kernel,rfl,by decide+kernel,by decide+kernel⟩
noncomputable abbrev UG (m:((List (List Int))×(List (Int×Int)))->Rs Int)(P:Program)(w:World)(K:PySem.W.Frag)(mg:Str->Option Value)(base:Heap):Prop:=Fn P w K mg base 1 "_law_count" ["_law_drawing"] (sp1 (rP2 (rV (rV Xc)) (rV (rP2 Xc Xc))) (oF Xc) m K)
noncomputable def FC:{m // Pk λP w K mg base=>Def K mg "_law_count" Kw ["_law_drawing"]->Blt mg->UG m P w K mg base}:=⟨_, @λP w K mg base D Z=>go1 D Va 2 0 rfl rfl λhr hu hu1=>⟨_,(Xa (Xj (i:=1) Va.nd rfl (Or.inl rfl) (Xm (Xh K rfl) rfl Z.b_len PySem.boot_len (Xb (Js K (pv 0) Xf) Xd)))
  (Xa (XG PassesOwn.never rfl (Xy (K:=K) rfl (Js K (pv 0) Xf)) (Xk (i:=2) Va.nd rfl (Or.inl rfl))
   (Xa (Ye (Xp ZS (Xm (Xh K rfl) rfl Z.b_len PySem.boot_len (Xb (YK (sc:=(Xg Kw)) (N0:=["_law_drawing","_law_count_here","_law_walk"]) (tns:=["_law_one"]) (caps:=[]) rfl (Xy (K:=K) rfl (pv 2)) (YM (by decide)) (λcl C s H ex E=>⟨Xk (i:=0) (show List.Nodup (["_law_one"]:List Str) by decide+kernel) rfl (Or.inl rfl),(Kv (Xp Qz (pv 0) Xf (Xx _))),(pv 0)⟩)) Xd)) Xf (Xx _))
    (Xa (Xj (i:=1) Va.nd rfl (Or.inl rfl) (Xl XJ (pv 1) Xf))
    Xe)
    Xe)
   Xe))
  (Xa (Xs (pv 1))
  Xe))),λv_0 a_0=>(YH K qS λa1 v2=>(Z5 K (λO (x6:Option V×V)=>[]) (λs x6=>[some v_0,some x6.2,x6.1]) (λS (g7:Int) x6=>(SC.add S K Xc x6.2 g7)) (λ_=>tg1 2) ((none),v2) (a1) qw rfl rfl (λ_ s=>(SC.i s s.r)) (λg8 x9 a10 v11=>(QW (λO (x22:V)=>[]) (λs x22=>[some v_0,some x22,some v11]) (λS (g23:Int) x22=>(SC.add S K Xc x22 g23)) (Zq (Ym (K:=K) (VB (Qy (Ev.toB (J8 (λ_=>tg1 0) qw (λC12 a13 v14=>(qt K)) (λC12 a13 v14=>qM)))) qB)) (YH K qS λa24 v25=>(Yn (v25) (a24) rfl rfl)) (Yn (x9.2) (g8) rfl rfl)) λg29 x28=>(Yn ((some v11),x28) (g29) rfl rfl))) λg30 x31=>(Xu qM)))⟩⟩
noncomputable def ZZ:=FC.1
theorem Zt:FnScope ["_law_meetings","_law_table","_law_colours","_law_crossing","_law_sign","_law_over","_law_inward","_law_outward","_law_one","_law_other"] ["_law_meetings","_law_table","_law_colours"] (Xg GP):=⟨rfl,rfl,rfl,by decide+kernel,rfl,by decide+kernel,by decide+kernel⟩
noncomputable abbrev GH (m:(List (Int×Int×Int×Int×Int))->(List (List Int))->(List Int)->Rs Bool)(P:Program)(w:World)(K:PySem.W.Frag)(mg:Str->Option Value)(base:Heap):Prop:=Fn P w K mg base 1 "_law_keeps" ["_law_meetings","_law_table","_law_colours"] (sp3 (rV (rP5 Xc Xc Xc Xc Xc)) (rV (rV Xc)) (rV Xc) (oF XC) m K)
noncomputable def Fa:{m // Pk λP w K mg base=>Def K mg "_law_keeps" GP ["_law_meetings","_law_table","_law_colours"]->Blt mg->GH m P w K mg base}:=⟨_, @λP w K mg base D Z=>go3 D Zt 7 0 rfl rfl λhr hu hu1=>⟨_,(Xa (XG PassesOwn.never rfl (Xy (K:=K) rfl (pv 0)) (Q6 rfl (XI (Xk (i:=3) Zt.nd rfl (Or.inl rfl)) (XI (Xk (i:=4) Zt.nd rfl (Or.inl rfl)) (XI (Xk (i:=5) Zt.nd rfl (Or.inl rfl)) (XI (Xk (i:=6) Zt.nd rfl (Or.inl rfl)) (XI (Xk (i:=7) Zt.nd rfl (Or.inl rfl)) ZV))))))
   (Xa (DQ (i:=8) (j:=9) rfl Zt.nd rfl rfl (by decide) rfl rfl (Xb (XF K (pv 2) (pv 6)) (Xb (XF K (pv 2) (pv 7)) Xd)) rfl)
   (Xa (Ye (Xp Qz (pv 4) Xf (Xx _))
    (Xa (DQ (i:=8) (j:=9) rfl Zt.nd rfl rfl (by decide) rfl rfl (Xb (pv 9) (Xb (pv 8) Xd)) rfl)
    Xe)
    Xe)
   (Xa (Ye (Xp Ig (XF K (XF K (pv 1) (pv 8)) (XF K (pv 2) (pv 5))) (pv 9) (Xx _))
    (Xa (Xs QG)
    Xe)
    Xe)
   Xe))))
  (Xa (Xs QG)
  Xe)),λv_0 v_1 v_2 a_0 a_1 a_2=>(ID K (λO (x1:Option V×Option V×Option V×Option V×Option V×Option V×Option V)=>[]) (λs x1=>[some v_0,some v_1,some v_2,x1.1,x1.2.1,x1.2.2.1,x1.2.2.2.1,x1.2.2.2.2.1,x1.2.2.2.2.2.1,x1.2.2.2.2.2.2]) (λS (g2:Unit) x1=>S) (λ_=>tg5 3 4 5 6 7) ((none),(none),(none),(none),(none),(none),(none)) () qw rfl rfl (λ_ s=>s) (λg3 x4 a5 v6=>(DR (K:=K) 8 9 qS qS λa11 a12 v13 v14=>(QW (λO (x18:V×V)=>[]) (λs x18=>[some v_0,some v_1,some v_2,some v6.1,some v6.2.1,some v6.2.2.1,some v6.2.2.2.1,some v6.2.2.2.2,some x18.1,some x18.2]) (λS (g19:Int×Int) x18=>(SC.add (SC.add S K Xc x18.1 g19.1) K Xc x18.2 g19.2)) (Zq (qt K) (DR (K:=K) 8 9 qS qS λa20 a21 v22 v23=>(Yn (v22,v23) (a20,a21) rfl rfl)) (Yn (v13,v14) (a11,a12) rfl rfl)) λg25 x24=>(Qx (qt K) (Xu qM) (VH (Yn ((some v6.1),(some v6.2.1),(some v6.2.2.1),(some v6.2.2.2.1),(some v6.2.2.2.2),(some x24.1),(some x24.2)) () rfl rfl)))))) λg37 x38=>(Xu qM))⟩⟩
noncomputable def ZU:=Fa.1
theorem QP:FnScope ["_law_drawing","_law_table","_law_meetings","_law_found","_law_k","_law_ready","_law_longer","_law_colours","_law_colour"] ["_law_drawing","_law_table"] (Xg Ip):=⟨rfl,rfl,rfl,by decide+kernel,rfl,by decide+kernel,by decide+kernel⟩
noncomputable abbrev NY (m:((List (List Int))×(List (Int×Int)))->(List (List Int))->Rs (List (List Int)))(P:Program)(w:World)(K:PySem.W.Frag)(mg:Str->Option Value)(base:Heap):Prop:=Fn P w K mg base 3 "_law_all" ["_law_drawing","_law_table"] (sp2 (rP2 (rV (rV Xc)) (rV (rP2 Xc Xc))) (rV (rV Xc)) (oL (oL (oF Xc))) m K)
noncomputable def Mu:{m // Pk λP w K mg base=>Def K mg "_law_all" Ip ["_law_drawing","_law_table"]->VE Y1 P w K mg base->UG ZZ P w K mg base->GH ZU P w K mg base->Blt mg->NY m P w K mg base}:=⟨_, @λP w K mg base D g_l_meets g_count g_keeps Z=>go2 D QP 7 2 rfl rfl λhr hu hu1=>⟨_,(Xa (Xj (i:=2) QP.nd rfl (Or.inl rfl) (XN g_l_meets hr (by decide) (Xb (pv 0) Xd)))
  (Xa (Xj (i:=3) QP.nd rfl (Or.inl rfl) (XH (Xb (XH Xd) Xd Q5)))
  (Xa (XG PassesOwn.never rfl (Xw rfl Z.b_range (Xb (XN g_count hr (by decide) (Xb (pv 0) Xd)) Xd)) (Xk (i:=4) QP.nd rfl (Or.inr rfl))
   (Xa (UQ 5 (Xg Ip) ["_law_drawing","_law_table","_law_meetings","_law_found","_law_k","_law_ready","_law_longer","_law_colours","_law_colour"] ["_law_one"] [(4,"_law_k")] rfl QP.nd rfl rfl (Xy (K:=K) rfl (pv 2)) (YM (by decide)) (λcl C s H ex E=>⟨Xk (i:=0) (show List.Nodup (["_law_one","_law_k"]:List Str) by decide+kernel) rfl (Or.inl rfl),(Kv (Xp ZS (Xm (Gy K rfl rfl) rfl Z.b_max PyProof.Rows.boot_max (Xb (JY (Nl K rfl) (pv 0) (U0 Xf) UX) Xd)) (pv 1) (Xx _))),(pv 0)⟩))
   (Xa (Xj (i:=6) QP.nd rfl (Or.inl rfl) (XH Xd))
   (Xa (XG PassesOwn.never rfl (Xy (K:=K) rfl (pv 3)) (Xk (i:=7) QP.nd rfl (Or.inl rfl))
    (Xa (XG PassesOwn.never rfl (Xw rfl Z.b_range (Xb (Xm (Xh K rfl) rfl Z.b_len PySem.boot_len (Xb (pv 1) Xd)) Xd)) (Xk (i:=8) QP.nd rfl (Or.inl rfl))
     (Xa (Ye (Qs (XN g_keeps hr (by decide) (Xb (pv 5) (Xb (pv 1) (Xb (Xl Vp (pv 7) (XH (Xb (pv 8) Xd))) Xd)))))
      (Xa (XQ (YO PySem.F.plainAttrs_list PySem.F.slot_list_append PySem.F.type_list_append XA (pv 6) (Xb (Xl Vp (pv 7) (XH (Xb (pv 8) Xd))) Xd)))
      Xe)
      Xe)
     Xe))
    Xe))
   (Xa (Xj (i:=3) QP.nd rfl (Or.inl rfl) (pv 6))
   Xe)))))
  (Xa (Xs (pv 3))
  Xe)))),λv_0 v_1 a_0 a_1=>(YH K qS λa1 v2=>(Yp K (o:=(oL (oL (oF Xc)))) 0 (G8 (ZJ (Zk (o:=(oF Xc))) λ_=>UV)) λa5 v6 C7=>(Z5 K (λO (x14:Option V×Option V×Option V×Option V×V×Option V×List Xq)=>[x14.2.2.2.2.2.2,[]]) (λs x14=>[some v_0,some v_1,some v2,some x14.2.2.2.2.1,x14.1,x14.2.1,x14.2.2.1,x14.2.2.2.1,x14.2.2.2.2.2.1]) (λS (g15:(List (List Int))) x14=>(SC.addO S K (oL (oL (oF Xc))) x14.2.2.2.2.1 g15 x14.2.2.2.2.2.2)) (λ_=>tg1 4) ((none),(none),(none),(none),v6,(none),C7) (a5) qw rfl rfl (λ_ s=>(SC.i s s.r)) (λg16 x17 a18 v19=>(YH K (r:=(rV (rP5 Xc Xc Xc Xc Xc))) (Ev.sh (J8 (λ_=>tg1 0) qw (λC22 a23 v24=>(Ym (K:=K) (VB (DN (Uv (MY qB) (qp K) (qp K))) qB))) (λC22 a23 v24=>qM))) λa20 v21=>(Yp K (o:=(oL (oL (oF Xc)))) 1 (Zk (o:=(oL (oF Xc)))) λa33 v34 C35=>(Lf (K:=K) (o:=(oL (oL (oF Xc)))) 0 rfl (λ_ s=>s.l.l.l.r) (Z5 K (λO (x36:Option V×Option V×V×List Xq)=>[[],x36.2.2.2]) (λs x36=>[some v_0,some v_1,some v2,some x17.2.2.2.2.1,some v19,some v21,some x36.2.2.1,x36.1,x36.2.1]) (λS (g37:(List (List Int))) x36=>(SC.addO S K (oL (oL (oF Xc))) x36.2.2.1 g37 x36.2.2.2)) (λ_=>tg1 7) ((x17.2.2.2.1),(x17.2.2.2.2.2.1),v34,C35) (a33) qw rfl rfl (λ_ s=>(SC.i s s.l.r)) (λg38 x39 a40 v41=>(Z5 K (λO (x44:Option V×V×List Xq)=>[[],x44.2.2]) (λs x44=>[some v_0,some v_1,some v2,some x17.2.2.2.2.1,some v19,some v21,some x44.2.1,some v41,x44.1]) (λS (g45:(List (List Int))) x44=>(SC.addO S K (oL (oL (oF Xc))) x44.2.1 g45 x44.2.2)) (λ_=>tg1 8) ((x39.2.1),x39.2.2.1,x39.2.2.2) (g38) qw rfl rfl (λ_ s=>(SC.i s s.l.r)) (λg46 x47 a48 v49=>(QW (λO (x60:V×List Xq)=>[[],x60.2]) (λs x60=>[some v_0,some v_1,some v2,some x17.2.2.2.2.1,some v19,some v21,some x60.1,some v41,some v49]) (λS (g61:(List (List Int))) x60=>(SC.addO S K (oL (oL (oF Xc))) x60.1 g61 x60.2)) (Zq (qt K) (Ub K qN λa69 C68=>(Yn (x47.2.1,C68) (a69) rfl rfl)) (Yn (x47.2.1,x47.2.2) (g46) rfl rfl)) λg71 x70=>(Yn ((some v49),x70.1,x70.2) (g71) rfl rfl))) λg72 x73=>(Yn ((some v41),(x73.1),x73.2.1,x73.2.2) (g72) rfl rfl))) λg75 x76=>(UD (K:=K) (o:=(oL (oL (oF Xc)))) 3 0 Y3 (Nat.le_of_ble_eq_true rfl) λa77 v78 C79=>(Yn ((some v19),(some v21),(some x76.2.2.1),(x76.1),v78,(x76.2.1),C79) (a77) rfl rfl))))))) λg81 x82=>(Xu Y3))))⟩⟩
noncomputable def DV:=Mu.1
theorem J5:FnScope ["_law_size","_law_count_here","_law_total","_law_k"] ["_law_size","_law_count_here"] (Xg G1):=⟨rfl,rfl,rfl,by decide+kernel,rfl,by decide+kernel,by decide+kernel⟩
noncomputable abbrev Fp (m:Int->Int->Rs Int)(P:Program)(w:World)(K:PySem.W.Frag)(mg:Str->Option Value)(base:Heap):Prop:=Fn P w K mg base 1 "_law_power" ["_law_size","_law_count_here"] (sp2 Xc Xc (oF Xc) m K)
noncomputable def Fv:{m // Pk λP w K mg base=>Def K mg "_law_power" G1 ["_law_size","_law_count_here"]->Blt mg->Fp m P w K mg base}:=⟨_, @λP w K mg base D Z=>go2 D J5 2 0 rfl rfl λhr hu hu1=>⟨_,(Xa (Xj (i:=2) J5.nd rfl (Or.inl rfl) Xf)
  (Xa (XG PassesOwn.never rfl (Xw rfl Z.b_range (Xb (pv 1) Xd)) (Xk (i:=3) J5.nd rfl (Or.inl rfl))
   (Xa (Xj (i:=2) J5.nd rfl (Or.inl rfl) (Xl X8 (pv 2) (pv 0)))
   Xe))
  (Xa (Xs (pv 2))
  Xe))),λv_0 v_1 a_0 a_1=>(YH K qS λa1 v2=>(Z5 K (λO (x4:Option V×V)=>[]) (λs x4=>[some v_0,some v_1,some x4.2,x4.1]) (λS (g5:Int) x4=>(SC.add S K Xc x4.2 g5)) (λ_=>tg1 3) ((none),v2) (a1) qw rfl rfl (λ_ s=>(SC.i s s.r)) (λg6 x7 a8 v9=>(YH K qS λa10 v11=>(Yn ((some v9),v11) (a10) rfl rfl))) λg14 x15=>(Xu qM)))⟩⟩
noncomputable def Kg:=Fv.1
theorem J1:FnScope ["_law_drawing","_law_most","_law_count_here","_law_size"] ["_law_drawing","_law_most"] (Xg GO):=⟨rfl,rfl,rfl,by decide+kernel,rfl,by decide+kernel,by decide+kernel⟩
noncomputable abbrev EA (m:((List (List Int))×(List (Int×Int)))->Int->Rs Int)(P:Program)(w:World)(K:PySem.W.Frag)(mg:Str->Option Value)(base:Heap):Prop:=Fn P w K mg base 2 "_law_limit" ["_law_drawing","_law_most"] (sp2 (rP2 (rV (rV Xc)) (rV (rP2 Xc Xc))) Xc (oF Xc) m K)
noncomputable def GI:{m // Pk λP w K mg base=>Def K mg "_law_limit" GO ["_law_drawing","_law_most"]->UG ZZ P w K mg base->Fp Kg P w K mg base->Blt mg->EA m P w K mg base}:=⟨_, @λP w K mg base D g_count g_power Z=>go2 D J1 2 0 rfl rfl λhr hu hu1=>⟨_,(Xa (Xj (i:=2) J1.nd rfl (Or.inl rfl) (XN g_count hr (by decide) (Xb (pv 0) Xd)))
  (Xa (Xj (i:=3) J1.nd rfl (Or.inl rfl) Xf)
  (Xa (J3 PassesOwn.never (PW.pt (ZF (Xp Qz (pv 3) Xf (Xx _)) (Qe (Xp Pv (XN g_power hr (by decide) (Xb (Xl XJ (pv 3) Xf) (Xb (pv 2) Xd))) (pv 1) (Xx _)))))
   (Xa (Xj (i:=3) J1.nd rfl (Or.inl rfl) (Xl XJ (pv 3) Xf))
   Xe))
  (Xa (Xs (pv 3))
  Xe)))),λv_0 v_1 a_0 a_1=>(YH K qS λa1 v2=>(YH K qS λa5 v6=>(Dd (λO (x7:V)=>[]) (λs x7=>[some v_0,some v_1,some v2,some x7]) (λS (g8:Int) x7=>(SC.add S K Xc x7 g8)) (8) (v6) (a5) rfl rfl (λ_ s=>(SC.i s s.r)) (λg9 x10=>(qt K)) (λg9 x10=>(YH K qS λa20 v21=>(Yn (v21) (a20) rfl rfl))) λg24 x25=>(Xu qM))))⟩⟩
noncomputable def Vz:=GI.1
theorem X2:FnScope ["_law_one","_law_other","_law_size","_law_found","_law_a","_law_row_here","_law_b","_law_first"] ["_law_one","_law_other"] (Xg ZR):=⟨rfl,rfl,rfl,by decide+kernel,rfl,by decide+kernel,by decide+kernel⟩
noncomputable abbrev QR (m:(List (List Int))->(List (List Int))->Rs (List (List Int)))(P:Program)(w:World)(K:PySem.W.Frag)(mg:Str->Option Value)(base:Heap):Prop:=Fn P w K mg base 1 "_law_pairs_table" ["_law_one","_law_other"] (sp2 (rV (rV Xc)) (rV (rV Xc)) (oL (oL (oF Xc))) m K)
noncomputable def ZT:{m // Pk λP w K mg base=>Def K mg "_law_pairs_table" ZR ["_law_one","_law_other"]->Blt mg->QR m P w K mg base}:=⟨_, @λP w K mg base D Z=>go2 D X2 6 2 rfl rfl λhr hu hu1=>⟨_,(Xa (Xj (i:=2) X2.nd rfl (Or.inl rfl) (Xm (Xh K rfl) rfl Z.b_len PySem.boot_len (Xb (pv 1) Xd)))
  (Xa (Xj (i:=3) X2.nd rfl (Or.inl rfl) (XH Xd))
  (Xa (XG PassesOwn.never rfl (Xw rfl Z.b_range (Xb (Xl X8 (Xm (Xh K rfl) rfl Z.b_len PySem.boot_len (Xb (pv 0) Xd)) (pv 2)) Xd)) (Xk (i:=4) X2.nd rfl (Or.inl rfl))
   (Xa (Xj (i:=5) X2.nd rfl (Or.inl rfl) (XH Xd))
   (Xa (XG PassesOwn.never rfl (Xw rfl Z.b_range (Xb (Xl X8 (Xm (Xh K rfl) rfl Z.b_len PySem.boot_len (Xb (pv 0) Xd)) (pv 2)) Xd)) (Xk (i:=6) X2.nd rfl (Or.inl rfl))
    (Xa (Xj (i:=7) X2.nd rfl (Or.inl rfl) (XF K (XF K (pv 0) (Xl Q4 (pv 4) (pv 2))) (Xl Q4 (pv 6) (pv 2))))
    (Xa (XQ (YO PySem.F.plainAttrs_list PySem.F.slot_list_append PySem.F.type_list_append XA (pv 5) (Xb (Xl XJ (Xl X8 (pv 7) (pv 2)) (XF K (XF K (pv 1) (Xl X3 (pv 4) (pv 2))) (Xl X3 (pv 6) (pv 2)))) Xd)))
    Xe)))
   (Xa (XQ (YO PySem.F.plainAttrs_list PySem.F.slot_list_append PySem.F.type_list_append XA (pv 3) (Xb (pv 5) Xd)))
   Xe))))
  (Xa (Xs (pv 3))
  Xe)))),λv_0 v_1 a_0 a_1=>(YH K qS λa1 v2=>(Yp K (o:=(oL (oL (oF Xc)))) 0 (Zk (o:=(oL (oF Xc)))) λa4 v5 C6=>(Z5 K (λO (x11:Option V×Option V×Option V×Option V×V×List Xq)=>[x11.2.2.2.2.2,[]]) (λs x11=>[some v_0,some v_1,some v2,some x11.2.2.2.2.1,x11.1,x11.2.1,x11.2.2.1,x11.2.2.2.1]) (λS (g12:(List (List Int))) x11=>(SC.addO S K (oL (oL (oF Xc))) x11.2.2.2.2.1 g12 x11.2.2.2.2.2)) (λ_=>tg1 4) ((none),(none),(none),(none),v5,C6) (a4) qw rfl rfl (λ_ s=>(SC.i s s.r)) (λg13 x14 a15 v16=>(Yp K (o:=(oL (oF Xc))) 1 (Zk (o:=(oF Xc))) λa17 v18 C19=>(Z5 K (λO (x24:Option V×Option V×V×List Xq)=>[x14.2.2.2.2.2,x24.2.2.2]) (λs x24=>[some v_0,some v_1,some v2,some x14.2.2.2.2.1,some v16,some x24.2.2.1,x24.1,x24.2.1]) (λS (g25:(List Int)) x24=>(SC.addO S K (oL (oF Xc)) x24.2.2.1 g25 x24.2.2.2)) (λ_=>tg1 6) ((x14.2.2.1),(x14.2.2.2.1),v18,C19) (a17) qw rfl rfl (λ_ s=>(SC.i s s.r)) (λg26 x27 a28 v29=>(YH K qS λa30 v31=>(Ub K qM λa54 C53=>(Yn ((some v29),(some v31),x27.2.2.1,C53) (a54) rfl rfl)))) λg55 x56=>(Ub K Y3 λa59 C58=>(Yn ((some v16),(some x56.2.2.1),(x56.1),(x56.2.1),x14.2.2.2.2.1,C58) (a59) rfl rfl))))) λg61 x62=>(Xu Y3))))⟩⟩
noncomputable def YL:=ZT.1
theorem YR:FnScope ["_law_one","_law_other","_law_size","_law_found","_law_a"] ["_law_one","_law_other"] (Xg Zs):=⟨rfl,rfl,rfl,by decide+kernel,rfl,by decide+kernel,by decide+kernel⟩
noncomputable abbrev JJ (m:(List (List Int))->(List (List Int))->Rs (List (List Int)))(P:Program)(w:World)(K:PySem.W.Frag)(mg:Str->Option Value)(base:Heap):Prop:=Fn P w K mg base 1 "_law_side_table" ["_law_one","_law_other"] (sp2 (rV (rV Xc)) (rV (rV Xc)) (oL (oL (oF Xc))) m K)
noncomputable def Z8:{m // Pk λP w K mg base=>Def K mg "_law_side_table" Zs ["_law_one","_law_other"]->Blt mg->JJ m P w K mg base}:=⟨_, @λP w K mg base D Z=>go2 D YR 3 1 rfl rfl λhr hu hu1=>⟨_,(Xa (Xj (i:=2) YR.nd rfl (Or.inr rfl) (Xm (Xh K rfl) rfl Z.b_len PySem.boot_len (Xb (pv 0) Xd)))
  (Xa (Xj (i:=3) YR.nd rfl (Or.inl rfl) (XH Xd))
  (Xa (XG PassesOwn.never rfl (Xw rfl Z.b_range (Xb (pv 2) Xd)) (Xk (i:=4) YR.nd rfl (Or.inl rfl))
   (Xa (XQ (YO PySem.F.plainAttrs_list PySem.F.slot_list_append PySem.F.type_list_append XA (pv 3) (Xb (Xl Vp (YS (Yq K rfl) rfl Z.b_list PyProof.Rows.boot_list (Xb (XF K (pv 0) (pv 4)) Xd)) (Xl Ut (XH (Xb (pv 4) Xd)) (Xm (Xh K rfl) rfl Z.b_len PySem.boot_len (Xb (pv 1) Xd)))) Xd)))
   Xe))
  (Xa (XG PassesOwn.never rfl (Xw rfl Z.b_range (Xb (Xm (Xh K rfl) rfl Z.b_len PySem.boot_len (Xb (pv 1) Xd)) Xd)) (Xk (i:=4) YR.nd rfl (Or.inl rfl))
   (Xa (XQ (YO PySem.F.plainAttrs_list PySem.F.slot_list_append PySem.F.type_list_append XA (pv 3) (Xb (Xl Vp (Xl Ut (XH (Xb (Xl XJ (pv 4) (pv 2)) Xd)) (pv 2)) (YK (sc:=(Xg Zs)) (N0:=["_law_one","_law_other","_law_size","_law_found","_law_a"]) (tns:=["_law_b"]) (caps:=[(2,"_law_size")]) rfl (Xy (K:=K) rfl (XF K (pv 1) (pv 4))) (YM (by decide)) (λcl C s H ex E=>⟨Xk (i:=0) (show List.Nodup (["_law_b","_law_size"]:List Str) by decide+kernel) rfl (Or.inl rfl),Y8,(Xl XJ (pv 0) (pv 1))⟩))) Xd)))
   Xe))
  (Xa (Xs (pv 3))
  Xe))))),λv_0 v_1 a_0 a_1=>(YH K qS λa1 v2=>(Yp K (o:=(oL (oL (oF Xc)))) 0 (Zk (o:=(oL (oF Xc)))) λa4 v5 C6=>(Z5 K (λO (x8:Option V×V×List Xq)=>[x8.2.2]) (λs x8=>[some v_0,some v_1,some v2,some x8.2.1,x8.1]) (λS (g9:(List (List Int))) x8=>(SC.addO S K (oL (oL (oF Xc))) x8.2.1 g9 x8.2.2)) (λ_=>tg1 4) ((none),v5,C6) (a4) qw rfl rfl (λ_ s=>(SC.i s s.r)) (λg10 x11 a12 v13=>(Ub K qN λa27 C26=>(Yn ((some v13),x11.2.1,C26) (a27) rfl rfl))) λg28 x29=>(Z5 K (λO (x32:Option V×V×List Xq)=>[x32.2.2]) (λs x32=>[some v_0,some v_1,some v2,some x32.2.1,x32.1]) (λS (g33:(List (List Int))) x32=>(SC.addO S K (oL (oL (oF Xc))) x32.2.1 g33 x32.2.2)) (λ_=>tg1 4) ((x29.1),x29.2.1,x29.2.2) (g28) qw rfl rfl (λ_ s=>(SC.i s s.r)) (λg34 x35 a36 v37=>(Ub K (Ln ql (Ev.ls (Ze (λ_=>tg1 0) qw (λC49 a50 v51=>qM)))) λa57 C56=>(Yn ((some v37),x35.2.1,C56) (a57) rfl rfl))) λg58 x59=>(Xu Y3)))))⟩⟩
noncomputable def Y5:=Z8.1
noncomputable def Qb (a_0:((List (List Int))×(List (Int×Int))))(a_1:(List (List Int))):Rs (Option (List (List Int))):=(Rs.bind (Rs.bind (Rs.bind (Rs.ok a_0) λx6=>(noE (VU x6))) λx12=>(Rs.bind (Rs.bind (Rs.ok a_1) λx10=>(Le x10 (λa8=>(Rs.bind (Rs.ok a8) λx11=>(Rs.ok x11))))) λx13=>(noE (YE x12 x13)))) λa1=>(Rs.bind (Rs.bind (Rs.bind (Rs.ok a1) λx14=>(Rs.ok true)) λx15=>(Rs.ok (!x15))) λx16=>(if x16=true then(Rs.ok none) else(Rs.bind (Rs.ok a1) λx32=>(Rs.bind (Uc x32 () (λg19 a21=>(Rs.bind (Rs.bind (Rs.bind (Rs.ok a21) λx24=>(noE (Zi x24))) λx25=>(Rs.ok (!x25))) λx26=>(if x26=true then(Rs.bind (Rs.ok none) λx28=>(Rs.ok (Ctl.ret x28))) else(Rs.bind (Rs.ok ()) λx27=>(Rs.ok (Ctl.nx x27))))))) (Qa λg29=>(Rs.bind (Rs.ok a1) λx31=>(Rs.ok (some x31)))))))))
section
variable {P:Program}{w:World}{K:PySem.W.Frag}{mg:Str->Option Value}{base:Heap}
theorem G2:FnScope ["_law_drawing","_law_table","_law_found","_law_one"] ["_law_drawing","_law_table"] (Xg FQ):=⟨rfl,rfl,rfl,by decide+kernel,rfl,by decide+kernel,by decide+kernel⟩
theorem L9 (D:Def K mg "_law_list" FQ ["_law_drawing","_law_table"])(g_colourings:Fn P w K mg base 6 "colourings" ["drawing","table"] (sp2 (rP2 (rV (rV Xc)) (rV (rP2 Xc Xc))) (rV (rV Xc)) (oL (oL (oF Xc))) YE K))(g_copy:Fn P w K mg base 1 "_law_copy" ["_law_drawing"] (sp1 (rP2 (rV (rV Xc)) (rV (rP2 Xc Xc))) (oT2 (oL (oL (oF Xc))) (oL (oF (rP2 Xc Xc)))) VU K))(g_is_wholes:Fn P w K mg base 2 "_law_is_wholes" ["_law_found"] (sp1 (rV Xc) (oF XC) Zi K))(Z:Blt mg):Fn P w K mg base 7 "_law_list" ["_law_drawing","_law_table"] (Po (rP2 (rV (rV Xc)) (rV (rP2 Xc Xc))) (rV (rV Xc)) (oF (JQ (rV (rV Xc)))) Qb K):=by
 refine UE D G2 (λvs H Q E h=>?_) (λf cdv A outer s H vs Q E hr h=>?_)
 ·obtain⟨v_0,v_1,a_0,a_1,b,rfl,_⟩:=h;rfl
 obtain⟨v_0,v_1,a_0,a_1,b,rfl,Cf,hw,h_0,h_1,hm,q⟩:=h
 have hu:=hu8 hr
 have hu1:=Ud hr
 refine⟨_,(Xa (Xj (i:=2) G2.nd rfl (Or.inl rfl) (XN g_colourings hr (by decide) (Xb (XN g_copy hr (by decide) (Xb (pv 0) Xd)) (Xb (YK (sc:=(Xg FQ)) (N0:=["_law_drawing","_law_table","_law_found","_law_one"]) (tns:=["_law_line"]) (caps:=[]) rfl (Xy (K:=K) rfl (pv 1)) (YM (by decide)) (λcl C s H ex E=>⟨Xk (i:=0) (show List.Nodup (["_law_line"]:List Str) by decide+kernel) rfl (Or.inl rfl),Y8,(YS (Yq K rfl) rfl Z.b_list PyProof.Rows.boot_list (Xb (pv 0) Xd))⟩)) Xd))))
  (Xa (Ye (JA (Qs (Xm ZW rfl Z.b_isinstance PyProof.Rows.boot_isinstance (Xb (pv 2) (Xb (Kl (v:=V.ty "list") rfl Z.b_list PyProof.Rows.boot_list rfl) Xd)))))
   (Xa (Xs FY)
   Xe)
   Xe)
  (Xa (XG PassesOwn.never rfl (Xy (K:=K) rfl (pv 2)) (Xk (i:=3) G2.nd rfl (Or.inl rfl))
   (Xa (Ye (JA (Qs (XN g_is_wholes hr (by decide) (Xb (pv 3) Xd))))
    (Xa (Xs FY)
    Xe)
    Xe)
   Xe))
  (Xa (Xs (pv 2))
  Xe)))),?_⟩
 refine O9 (S:=(SC.add (SC.add SC.nil K (rP2 (rV (rV Xc)) (rV (rP2 Xc Xc))) v_0 a_0) K (rV (rV Xc)) v_1 a_1)) (σ:=[some v_0,some v_1,none,none]) 1 ?_ hw (SC.i (SC.i SC.t h_0) h_1) hm q rfl
 unfold Qb
 exact(UD (K:=K) (o:=(oL (oL (oF Xc)))) 2 0 (Zw (Ev.toB (Ql (Xn (r:=(rP2 (rV (rV Xc)) (rV (rP2 Xc Xc)))) 0 rfl (λ_ s=>s.l.r)))) (Ev.toB (Ze (λ_=>tg1 0) (YI (Yb (r:=(rV (rV Xc))) 1 rfl (λ_ s=>s.r))) (λC7 a8 v9=>(E6 (EvS.ls (Yb (r:=(rV Xc)) 0 rfl (λ_ s=>s.r)))))))) (Nat.le_of_ble_eq_true rfl) λa1 v2 C3=>(HL (Jj (UZ (K:=K) (Qi "list" true (U9 K "list") (V5 (o:=(oL (oL (oF Xc)))) 2 0 rfl rfl (λ_ s=>s.r))))) (U8 (K:=K) 1 rfl Bp) (Lf (K:=K) (o:=(oL (oL (oF Xc)))) 0 rfl (λ_ s=>s.r) (BA (K:=K) (J:=({oo:=λx17=>[[],Cf],ss:=λx17=>[some v_0,some v_1,some v2,x17],sc:=λg18 x17=>(SC.add (SC.add (SC.add SC.nil K (rP2 (rV (rV Xc)) (rV (rP2 Xc Xc))) v_0 a_0) K (rV (rV Xc)) v_1 a_1) K (rV (rV Xc)) v2 a1)}:Jn (Unit) (Option V))) (λ_=>tg1 3) ((none)) () (YI (Yb (r:=(rV (rV Xc))) 2 rfl (λ_ s=>s.r))) rfl rfl (λ_ s=>(SC.i (SC.i (SC.i SC.t s.l.l.l.r) s.l.l.r) s.r)) (λg19 x20 a21 v22=>(Eu (Jj (UZ (K:=K) (Ev.toB (Ql (Xn (r:=(rV Xc)) 3 rfl (λ_ s=>s.r)))))) (U8 (K:=K) 1 rfl Bp) (Ih (K7 (J:=_) ((some v22)) () rfl rfl (λ_ s=>(SC.i (SC.i (SC.i SC.t s.l.l.l.r) s.l.l.r) s.l.r)))))) λg29 x30=>(U8 (K:=K) 1 rfl (EvS.ev (Br (Yb (r:=(rV (rV Xc))) 2 rfl (λ_ s=>s.r)))))))))
end
theorem J4:FnScope ["_law_first","_law_second","_law_size","_law_due","_law_one","_law_other"] ["_law_first","_law_second","_law_size"] (Xg Ke):=⟨rfl,rfl,rfl,by decide+kernel,rfl,by decide+kernel,by decide+kernel⟩
noncomputable abbrev E3 (m:(List (List Int))->(List (List Int))->Int->Rs (List (List Int)))(P:Program)(w:World)(K:PySem.W.Frag)(mg:Str->Option Value)(base:Heap):Prop:=Fn P w K mg base 1 "_law_pairs" ["_law_first","_law_second","_law_size"] (sp3 (rV (rV Xc)) (rV (rV Xc)) Xc (oL (oL (oF Xc))) m K)
noncomputable def Fs:{m // Pk λP w K mg base=>Def K mg "_law_pairs" Ke ["_law_first","_law_second","_law_size"]->Blt mg->E3 m P w K mg base}:=⟨_, @λP w K mg base D Z=>go3 D J4 3 1 rfl rfl λhr hu hu1=>⟨_,(Xa (Xj (i:=3) J4.nd rfl (Or.inl rfl) (XH Xd))
  (Xa (XG PassesOwn.never rfl (Xy (K:=K) rfl (pv 0)) (Xk (i:=4) J4.nd rfl (Or.inr rfl))
   (Xa (XG PassesOwn.never rfl (Xy (K:=K) rfl (pv 1)) (Xk (i:=5) J4.nd rfl (Or.inr rfl))
    (Xa (XQ (YO PySem.F.plainAttrs_list PySem.F.slot_list_append PySem.F.type_list_append XA (pv 3) (Xb (YK (sc:=(Xg Ke)) (N0:=["_law_first","_law_second","_law_size","_law_due","_law_one","_law_other"]) (tns:=["_law_k"]) (caps:=[(4,"_law_one"),(2,"_law_size"),(5,"_law_other")]) rfl (Xw rfl Z.b_range (Xb (Xm (Xh K rfl) rfl Z.b_len PySem.boot_len (Xb (pv 4) Xd)) Xd)) (YM (by decide)) (λcl C s H ex E=>⟨Xk (i:=0) (show List.Nodup (["_law_k","_law_one","_law_size","_law_other"]:List Str) by decide+kernel) rfl (Or.inl rfl),Y8,(Xl XJ (Xl X8 (XF K (pv 1) (pv 0)) (pv 2)) (XF K (pv 3) (pv 0)))⟩)) Xd)))
    Xe))
   Xe))
  (Xa (Xs (Xm (Gz eq_int lt_int Kt K rfl (En (by decide) hu)) rfl Z.b_sorted PyProof.Rows.boot_sorted (Xb (pv 3) Xd)))
  Xe))),λv_0 v_1 v_2 a_0 a_1 a_2=>(Yp K (o:=(oL (oL (oF Xc)))) 0 (Zk (o:=(oL (oF Xc)))) λa1 v2 C3=>(Z5 K (λO (x4:Option V×Option V×V×List Xq)=>[x4.2.2.2]) (λs x4=>[some v_0,some v_1,some v_2,some x4.2.2.1,x4.1,x4.2.1]) (λS (g5:(List (List Int))) x4=>(SC.addO S K (oL (oL (oF Xc))) x4.2.2.1 g5 x4.2.2.2)) (λ_=>tg1 4) ((none),(none),v2,C3) (a1) qw rfl rfl (λ_ s=>(SC.i s s.r)) (λg6 x7 a8 v9=>(Z5 K (λO (x10:Option V×V×List Xq)=>[x10.2.2]) (λs x10=>[some v_0,some v_1,some v_2,some x10.2.1,some v9,x10.1]) (λS (g11:(List (List Int))) x10=>(SC.addO S K (oL (oL (oF Xc))) x10.2.1 g11 x10.2.2)) (λ_=>tg1 5) ((x7.2.1),x7.2.2.1,x7.2.2.2) (g6) qw rfl rfl (λ_ s=>(SC.i s s.l.r)) (λg12 x13 a14 v15=>(Ub K (Ze (λ_=>tg1 0) qw (λC18 a19 v20=>qM)) λa32 C31=>(Yn ((some v15),x13.2.1,C31) (a32) rfl rfl))) λg33 x34=>(Yn ((some v9),(x34.1),x34.2.1,x34.2.2) (g33) rfl rfl))) λg36 x37=>(Xu (Iv (r:=Xc) (lt:=ltI) Y3))))⟩⟩
noncomputable def Vr:=Fs.1
noncomputable def ZI (a_0:((List (List Int))×(List (Int×Int))))(a_1:(List (List Int)))(a_2:(List (List Int)))(a_3:(List (List Int)))(a_4:(List (List Int))):Rs Bool:=(Rs.bind (Rs.bind (Rs.ok a_1) λx4=>(Rs.bind (Rs.ok a_2) λx5=>(noE (Y5 x4 x5)))) λa1=>(Rs.bind (Rs.bind (Rs.ok a_0) λx9=>(Rs.bind (Rs.ok a1) λx10=>(noE (Qb x9 x10)))) λa6=>(Rs.bind (orR (Rs.bind (Rs.ok a6) λx11=>(Rs.ok x11.isNone)) (Rs.bind (Rs.bind (Rs.bind (Rs.ok a_0) λx14=>(noE (VU x14))) λx15=>(Rs.bind (Rs.ok a1) λx16=>(noE (Gw x15 x16)))) λx18=>(Rs.bind (Rs.bind (Rs.bind (Rs.ok a6) HA) λx17=>(Rs.ok (x17.length:Int))) λx19=>(Rs.ok (!(decide (x18=x19))))))) λx20=>(if x20=true then(Rs.ok false) else(Rs.bind (Rs.bind (Rs.ok a_0) λx24=>(noE (Y1 x24))) λa21=>(Rs.bind (Rs.bind (Rs.ok a_0) λx28=>(noE (ZZ x28))) λa25=>(Rs.bind (Rs.ok []) λa29=>(Rs.bind (Rs.bind (Rs.ok a6) HA) λx97=>(Rs.bind (Uc x97 (a29) (λg34 a36=>(Rs.bind (orR (Rs.bind (Rs.bind (Rs.ok a36) λx38=>(Rs.ok (x38.length:Int))) λx39=>(Rs.bind (Rs.ok a25) λx40=>(Rs.ok (!(decide (x39=x40)))))) (Rs.bind (Rs.bind (Rs.ok a21) λx42=>(Rs.bind (Rs.ok a1) λx43=>(Rs.bind (Rs.ok a36) λx44=>(noE (ZU x42 x43 x44))))) λx45=>(Rs.ok (!x45)))) λx46=>(if x46=true then(Rs.bind (Rs.ok false) λx53=>(Rs.ok (Ctl.ret x53))) else(Rs.bind (Rs.ok true) λx48=>(Rs.bind (Rs.bind (Rs.ok a36) λx47=>(Rs.ok x47)) λx49=>(chk (g34.length<sizeLine) ((λa50=>(Rs.bind (Rs.ok (a50)) λx52=>(Rs.ok (Ctl.nx x52)))) (Gk g34 x49 x48))))))))) (Qa λg54=>(Rs.bind (Rs.ok a_3) λx96=>(Rs.bind (Uc x96 () (λg58 a60=>(Rs.bind (Rs.bind (Rs.bind (Rs.ok a60) λx62=>(Rs.ok x62)) λx63=>(Rs.bind (Rs.ok g54) λx64=>(Rs.ok (!(JR x64 x63).isSome)))) λx65=>(if x65=true then(Rs.bind (Rs.ok false) λx67=>(Rs.ok (Ctl.ret x67))) else(Rs.bind (Rs.ok ()) λx66=>(Rs.ok (Ctl.nx x66))))))) (Qa λg68=>(Rs.bind (Rs.ok a_4) λx95=>(Rs.bind (Uc x95 () (λg72 a74=>(Rs.bind (Rs.bind (Rs.bind (Rs.bind (Rs.ok a74) λx79=>(Le x79 (λa77=>(Rs.bind (Rs.ok a77) λx81=>(Rs.bind (Rs.bind (Rs.ok a_1) λx80=>(Rs.ok (x80.length:Int))) λx82=>(Rs.ok (x81+x82))))))) λx83=>(Rs.ok x83)) λx84=>(Rs.bind (Rs.ok g54) λx85=>(Rs.ok (!(JR x85 x84).isSome)))) λx86=>(if x86=true then(Rs.bind (Rs.ok false) λx88=>(Rs.ok (Ctl.ret x88))) else(Rs.bind (Rs.ok ()) λx87=>(Rs.ok (Ctl.nx x87))))))) (Qa λg89=>(Rs.bind (Rs.bind (Rs.ok g54) λx91=>(Rs.ok (x91.length:Int))) λx93=>(Rs.bind (Rs.bind (Rs.bind (Rs.ok a6) HA) λx92=>(Rs.ok (x92.length:Int))) λx94=>(Rs.ok (decide (x93=x94)))))))))))))))))))))
section
variable {P:Program}{w:World}{K:PySem.W.Frag}{mg:Str->Option Value}{base:Heap}
theorem Yt:FnScope ["_law_drawing","_law_one","_law_other","_law_first","_law_second","_law_table","_law_found","_law_meetings","_law_count_here","_law_there","_law_numbers"] ["_law_drawing","_law_one","_law_other","_law_first","_law_second"] (Xg Je):=⟨rfl,rfl,rfl,by decide+kernel,rfl,by decide+kernel,by decide+kernel⟩
theorem Cq (D:Def K mg "_law_by_side" Je ["_law_drawing","_law_one","_law_other","_law_first","_law_second"])(g_side_table:Fn P w K mg base 1 "_law_side_table" ["_law_one","_law_other"] (sp2 (rV (rV Xc)) (rV (rV Xc)) (oL (oL (oF Xc))) Y5 K))(g_list:Fn P w K mg base 7 "_law_list" ["_law_drawing","_law_table"] (Po (rP2 (rV (rV Xc)) (rV (rP2 Xc Xc))) (rV (rV Xc)) (oF (JQ (rV (rV Xc)))) Qb K))(g_l_meets:Fn P w K mg base 2 "_law_meets" ["_law_drawing"] (sp1 (rP2 (rV (rV Xc)) (rV (rP2 Xc Xc))) (oL (oF (rP5 Xc Xc Xc Xc Xc))) Y1 K))(g_count:Fn P w K mg base 1 "_law_count" ["_law_drawing"] (sp1 (rP2 (rV (rV Xc)) (rV (rP2 Xc Xc))) (oF Xc) ZZ K))(g_many:Fn P w K mg base 7 "many" ["drawing","table"] (sp2 (rP2 (rV (rV Xc)) (rV (rP2 Xc Xc))) (rV (rV Xc)) (oF Xc) Gw K))(g_copy:Fn P w K mg base 1 "_law_copy" ["_law_drawing"] (sp1 (rP2 (rV (rV Xc)) (rV (rP2 Xc Xc))) (oT2 (oL (oL (oF Xc))) (oL (oF (rP2 Xc Xc)))) VU K))(g_keeps:Fn P w K mg base 1 "_law_keeps" ["_law_meetings","_law_table","_law_colours"] (sp3 (rV (rP5 Xc Xc Xc Xc Xc)) (rV (rV Xc)) (rV Xc) (oF XC) ZU K))(Z:Blt mg):Fn P w K mg base 8 "_law_by_side" ["_law_drawing","_law_one","_law_other","_law_first","_law_second"] (sp5 (rP2 (rV (rV Xc)) (rV (rP2 Xc Xc))) (rV (rV Xc)) (rV (rV Xc)) (rV (rV Xc)) (rV (rV Xc)) (oF XC) ZI K):=by
 refine UE D Yt (λvs H Q E h=>?_) (λf cdv A outer s H vs Q E hr h=>?_)
 ·obtain⟨v_0,v_1,v_2,v_3,v_4,a_0,a_1,a_2,a_3,a_4,b,rfl,_⟩:=h;rfl
 obtain⟨v_0,v_1,v_2,v_3,v_4,a_0,a_1,a_2,a_3,a_4,b,rfl,h_0,h_1,h_2,h_3,h_4,hm,q⟩:=h
 have hu:=hu8 hr
 have hu1:=Ud hr
 refine⟨_,(Xa (Xj (i:=5) Yt.nd rfl (Or.inl rfl) (XN g_side_table hr (by decide) (Xb (pv 1) (Xb (pv 2) Xd))))
  (Xa (Xj (i:=6) Yt.nd rfl (Or.inl rfl) (XN g_list hr (by decide) (Xb (pv 0) (Xb (pv 5) Xd))))
  (Xa (Ye (PW.pt (Ib (Xp Lr (pv 6) FY (Xx _)) (FX (Xp Ig (XN g_many hr (by decide) (Xb (XN g_copy hr (by decide) (Xb (pv 0) Xd)) (Xb (pv 5) Xd))) (Xm (Xh K rfl) rfl Z.b_len PySem.boot_len (Xb (pv 6) Xd)) (Xx _)))))
   (Xa (Xs QG)
   Xe)
   Xe)
  (Xa (Xj (i:=7) Yt.nd rfl (Or.inl rfl) (XN g_l_meets hr (by decide) (Xb (pv 0) Xd)))
  (Xa (Xj (i:=8) Yt.nd rfl (Or.inl rfl) (XN g_count hr (by decide) (Xb (pv 0) Xd)))
  (Xa (Xj (i:=9) Yt.nd rfl (Or.inl rfl) Ia)
  (Xa (XG PassesOwn.never rfl (Xy (K:=K) rfl (pv 6)) (Xk (i:=10) Yt.nd rfl (Or.inl rfl))
   (Xa (Ye (PW.pt (Ib (Xp Ig (Xm (Xh K rfl) rfl Z.b_len PySem.boot_len (Xb (pv 10) Xd)) (pv 8) (Xx _)) (FX (JA (Qs (XN g_keeps hr (by decide) (Xb (pv 7) (Xb (pv 5) (Xb (pv 10) Xd)))))))))
    (Xa (Xs QG)
    Xe)
    Xe)
   (Xa (Hd hu1 (pv 9) (YS (ZC K rfl) rfl Z.b_tuple PyProof.Rows.boot_tuple (Xb (pv 10) Xd)) QG rfl)
   Xe)))
  (Xa (XG PassesOwn.never rfl (Xy (K:=K) rfl (pv 3)) (Xk (i:=10) Yt.nd rfl (Or.inl rfl))
   (Xa (Ye (Lc (K2 hu1 (YS (ZC K rfl) rfl Z.b_tuple PyProof.Rows.boot_tuple (Xb (pv 10) Xd)) (pv 9)))
    (Xa (Xs QG)
    Xe)
    Xe)
   Xe))
  (Xa (XG PassesOwn.never rfl (Xy (K:=K) rfl (pv 4)) (Xk (i:=10) Yt.nd rfl (Or.inl rfl))
   (Xa (Ye (Lc (K2 hu1 (YS (ZC K rfl) rfl Z.b_tuple PyProof.Rows.boot_tuple (Xb (YK (sc:=(Xg Je)) (N0:=["_law_drawing","_law_one","_law_other","_law_first","_law_second","_law_table","_law_found","_law_meetings","_law_count_here","_law_there","_law_numbers"]) (tns:=["_law_colour"]) (caps:=[(1,"_law_one")]) rfl (Xy (K:=K) rfl (pv 10)) (YM (by decide)) (λcl C s H ex E=>⟨Xk (i:=0) (show List.Nodup (["_law_colour","_law_one"]:List Str) by decide+kernel) rfl (Or.inl rfl),Y8,(Xl XJ (pv 0) (Xm (Xh K rfl) rfl Z.b_len PySem.boot_len (Xb (pv 1) Xd)))⟩)) Xd)) (pv 9)))
    (Xa (Xs QG)
    Xe)
    Xe)
   Xe))
  (Xa (Xs (Fj ZS (Xm CC rfl Z.b_len PySem.boot_len (Xb (pv 9) Xd)) (Xm (Xh K rfl) rfl Z.b_len PySem.boot_len (Xb (pv 6) Xd)) (Xx _)))
  Xe)))))))))),?_⟩
 refine Gg (S:=(SC.add (SC.add (SC.add (SC.add (SC.add SC.nil K (rP2 (rV (rV Xc)) (rV (rP2 Xc Xc))) v_0 a_0) K (rV (rV Xc)) v_1 a_1) K (rV (rV Xc)) v_2 a_2) K (rV (rV Xc)) v_3 a_3) K (rV (rV Xc)) v_4 a_4)) (σ:=[some v_0,some v_1,some v_2,some v_3,some v_4,none,none,none,none,none,none]) 1 ?_ (SC.i (SC.i (SC.i (SC.i (SC.i SC.t h_0) h_1) h_2) h_3) h_4) hm q rfl
 unfold ZI
 exact(ZY (K:=K) (r:=(rV (rV Xc))) 5 (Ev.sh (Zw (Xn (r:=(rV (rV Xc))) 1 rfl (λ_ s=>s.l.l.l.r)) (Xn (r:=(rV (rV Xc))) 2 rfl (λ_ s=>s.l.l.r)))) λa1 v2=>(ZY (K:=K) (r:=(JQ (rV (rV Xc)))) 6 (Ev.sh (Qf (Yb (r:=(rP2 (rV (rV Xc)) (rV (rP2 Xc Xc)))) 0 rfl (λ_ s=>s.l.l.l.l.l.r)) (Yb (r:=(rV (rV Xc))) 5 rfl (λ_ s=>s.r)))) λa6 v7=>(Zv (KY (Ym (K:=K) (By (tb:=tC .non) (Xn (r:=(JQ (rV (rV Xc)))) 6 rfl (λ_ s=>s.r)))) (Ym (K:=K) (FN (Ev.toB (Zw (Ev.toB (Ql (Xn (r:=(rP2 (rV (rV Xc)) (rV (rP2 Xc Xc)))) 0 rfl (λ_ s=>s.l.l.l.l.l.l.r)))) (Xn (r:=(rV (rV Xc))) 5 rfl (λ_ s=>s.l.r)))) (Qy (B7 (Xn (r:=(JQ (rV (rV Xc)))) 6 rfl (λ_ s=>s.r))))))) (Xu (EvS.ev (EvB.sh (Q2 false)))) (ZY (K:=K) (r:=(rV (rP5 Xc Xc Xc Xc Xc))) 7 (Ev.sh (Ql (Xn (r:=(rP2 (rV (rV Xc)) (rV (rP2 Xc Xc)))) 0 rfl (λ_ s=>s.l.l.l.l.l.l.r)))) λa21 v22=>(ZY (K:=K) (r:=Xc) 8 (EvB.sh (Ev.toB (Ql (Xn (r:=(rP2 (rV (rV Xc)) (rV (rP2 Xc Xc)))) 0 rfl (λ_ s=>s.l.l.l.l.l.l.l.r))))) λa25 v26=>(UD (K:=K) (o:=(oDT XC)) 9 0 (IX (r:=XC)) (Nat.le_of_ble_eq_true rfl) λa29 v30 C31=>(UW (K:=K) (J:=({oo:=λx32=>[x32.2.2],ss:=λx32=>[some v_0,some v_1,some v_2,some v_3,some v_4,some v2,some v7,some v22,some v26,some x32.2.1,x32.1],sc:=λg33 x32=>(SC.addO (SC.add (SC.add (SC.add (SC.add (SC.add (SC.add (SC.add (SC.add (SC.add SC.nil K (rP2 (rV (rV Xc)) (rV (rP2 Xc Xc))) v_0 a_0) K (rV (rV Xc)) v_1 a_1) K (rV (rV Xc)) v_2 a_2) K (rV (rV Xc)) v_3 a_3) K (rV (rV Xc)) v_4 a_4) K (rV (rV Xc)) v2 a1) K (JQ (rV (rV Xc))) v7 a6) K (rV (rP5 Xc Xc Xc Xc Xc)) v22 a21) K Xc v26 a25) K (oDT XC) x32.2.1 g33 x32.2.2)}:Jn ((List ((List Int)×Bool))) (Option V×V×List Xq))) (λ_=>tg1 10) ((none),v30,C31) (a29) (YI (NW (Yb (r:=(JQ (rV (rV Xc)))) 6 rfl (λ_ s=>s.l.l.l.r)))) rfl rfl (λ_ s=>(SC.i (SC.i (SC.i (SC.i (SC.i (SC.i (SC.i (SC.i (SC.i (SC.i SC.t s.l.l.l.l.l.l.l.l.l.r) s.l.l.l.l.l.l.l.l.r) s.l.l.l.l.l.l.l.r) s.l.l.l.l.l.l.r) s.l.l.l.l.l.r) s.l.l.l.l.r) s.l.l.l.r) s.l.l.r) s.l.r) s.r)) (λg34 x35 a36 v37=>(Qx (KY (Ym (K:=K) (FN (Qy (Xn (r:=(rV Xc)) 10 rfl (λ_ s=>s.r))) (Xn (r:=Xc) 8 rfl (λ_ s=>s.l.l.r)))) (Jj (UZ (K:=K) (Ev.toB (ZL (Xn (r:=(rV (rP5 Xc Xc Xc Xc Xc))) 7 rfl (λ_ s=>s.l.l.l.r)) (Xn (r:=(rV (rV Xc))) 5 rfl (λ_ s=>s.l.l.l.l.l.r)) (Xn (r:=(rV Xc)) 10 rfl (λ_ s=>s.r))))))) (Xu (EvS.ev (EvB.sh (Q2 false)))) (Iy (K:=K) (r:=XC) (f:=λa50=>(Rs.bind (Rs.ok (a50)) λx52=>(Rs.ok (Ctl.nx x52)))) 9 0 rfl rfl (λ_ s=>s.l.r) (EvB.sh (Q2 true)) (Jr (Xn (r:=(rV Xc)) 10 rfl (λ_ s=>s.r))) λa50 C51=>(VH (K7 (J:=_) ((some v37),x35.2.1,C51) (a50) rfl rfl (λ_ s=>(SC.i (SC.i (SC.i (SC.i (SC.i (SC.i (SC.i (SC.i (SC.i (SC.i SC.t s.l.l.l.l.l.l.l.l.l.l.l.r) s.l.l.l.l.l.l.l.l.l.l.r) s.l.l.l.l.l.l.l.l.l.r) s.l.l.l.l.l.l.l.l.r) s.l.l.l.l.l.l.l.r) s.l.l.l.l.l.l.r) s.l.l.l.l.l.r) s.l.l.l.l.r) s.l.l.l.r) s.r))))))) λg54 x55=>(UW (K:=K) (J:=({oo:=λx56=>[x55.2.2],ss:=λx56=>[some v_0,some v_1,some v_2,some v_3,some v_4,some v2,some v7,some v22,some v26,some x55.2.1,x56],sc:=λg57 x56=>(SC.addO (SC.add (SC.add (SC.add (SC.add (SC.add (SC.add (SC.add (SC.add (SC.add SC.nil K (rP2 (rV (rV Xc)) (rV (rP2 Xc Xc))) v_0 a_0) K (rV (rV Xc)) v_1 a_1) K (rV (rV Xc)) v_2 a_2) K (rV (rV Xc)) v_3 a_3) K (rV (rV Xc)) v_4 a_4) K (rV (rV Xc)) v2 a1) K (JQ (rV (rV Xc))) v7 a6) K (rV (rP5 Xc Xc Xc Xc Xc)) v22 a21) K Xc v26 a25) K (oDT XC) x55.2.1 g54 x55.2.2)}:Jn (Unit) (Option V))) (λ_=>tg1 10) ((x55.1)) () (YI (Yb (r:=(rV (rV Xc))) 3 rfl (λ_ s=>s.l.l.l.l.l.l.r))) rfl rfl (λ_ s=>(SC.i (SC.i (SC.i (SC.i (SC.i (SC.i (SC.i (SC.i (SC.i (SC.i SC.t s.l.l.l.l.l.l.l.l.l.r) s.l.l.l.l.l.l.l.l.r) s.l.l.l.l.l.l.l.r) s.l.l.l.l.l.l.r) s.l.l.l.l.l.r) s.l.l.l.l.r) s.l.l.l.r) s.l.l.r) s.l.r) s.r)) (λg58 x59 a60 v61=>(Qx (UZ (K:=K) (KZ (Jr (Xn (r:=(rV Xc)) 10 rfl (λ_ s=>s.r))) (V5 (o:=(oDT XC)) 9 0 rfl rfl (λ_ s=>s.l.r)))) (Xu (EvS.ev (EvB.sh (Q2 false)))) (VH (K7 (J:=_) ((some v61)) () rfl rfl (λ_ s=>(SC.i (SC.i (SC.i (SC.i (SC.i (SC.i (SC.i (SC.i (SC.i (SC.i SC.t s.l.l.l.l.l.l.l.l.l.l.r) s.l.l.l.l.l.l.l.l.l.r) s.l.l.l.l.l.l.l.l.r) s.l.l.l.l.l.l.l.r) s.l.l.l.l.l.l.r) s.l.l.l.l.l.r) s.l.l.l.l.r) s.l.l.l.r) s.l.l.r) s.l.r)))))) λg68 x69=>(UW (K:=K) (J:=({oo:=λx70=>[x55.2.2],ss:=λx70=>[some v_0,some v_1,some v_2,some v_3,some v_4,some v2,some v7,some v22,some v26,some x55.2.1,x70],sc:=λg71 x70=>(SC.addO (SC.add (SC.add (SC.add (SC.add (SC.add (SC.add (SC.add (SC.add (SC.add SC.nil K (rP2 (rV (rV Xc)) (rV (rP2 Xc Xc))) v_0 a_0) K (rV (rV Xc)) v_1 a_1) K (rV (rV Xc)) v_2 a_2) K (rV (rV Xc)) v_3 a_3) K (rV (rV Xc)) v_4 a_4) K (rV (rV Xc)) v2 a1) K (JQ (rV (rV Xc))) v7 a6) K (rV (rP5 Xc Xc Xc Xc Xc)) v22 a21) K Xc v26 a25) K (oDT XC) x55.2.1 g54 x55.2.2)}:Jn (Unit) (Option V))) (λ_=>tg1 10) ((x69)) () (YI (Yb (r:=(rV (rV Xc))) 4 rfl (λ_ s=>s.l.l.l.l.l.r))) rfl rfl (λ_ s=>(SC.i (SC.i (SC.i (SC.i (SC.i (SC.i (SC.i (SC.i (SC.i (SC.i SC.t s.l.l.l.l.l.l.l.l.l.r) s.l.l.l.l.l.l.l.l.r) s.l.l.l.l.l.l.l.r) s.l.l.l.l.l.l.r) s.l.l.l.l.l.r) s.l.l.l.l.r) s.l.l.l.r) s.l.l.r) s.l.r) s.r)) (λg72 x73 a74 v75=>(Qx (UZ (K:=K) (KZ (Jr (Ev.toB (Ze (λ_=>tg1 0) (YI (Yb (r:=(rV Xc)) 10 rfl (λ_ s=>s.r))) (λC76 a77 v78=>(EvS.ev (EvB.sh (E8 (Xn (r:=Xc) 0 rfl (λ_ s=>s.r)) (Qy (Xn (r:=(rV (rV Xc))) 1 rfl (λ_ s=>s.l.l.l.l.l.l.l.l.l.l.r)))))))))) (V5 (o:=(oDT XC)) 9 0 rfl rfl (λ_ s=>s.l.r)))) (Xu (EvS.ev (EvB.sh (Q2 false)))) (VH (K7 (J:=_) ((some v75)) () rfl rfl (λ_ s=>(SC.i (SC.i (SC.i (SC.i (SC.i (SC.i (SC.i (SC.i (SC.i (SC.i SC.t s.l.l.l.l.l.l.l.l.l.l.r) s.l.l.l.l.l.l.l.l.l.r) s.l.l.l.l.l.l.l.l.r) s.l.l.l.l.l.l.l.r) s.l.l.l.l.l.l.r) s.l.l.l.l.l.r) s.l.l.l.l.r) s.l.l.l.r) s.l.l.r) s.l.r)))))) λg89 x90=>(Xu (EvS.ev (EvB.sh (VB (ED (V5 (o:=(oDT XC)) 9 0 rfl rfl (λ_ s=>s.r))) (Qy (B7 (Xn (r:=(JQ (rV (rV Xc)))) 6 rfl (λ_ s=>s.l.l.l.r)))))))))))))))))
end
noncomputable def Fx (a_0:(List Int)):Rs Bool:=(Rs.bind (Rs.bind (Rs.ok a_0) λx4=>(Rs.bind (Rs.ok (0:Int)) λx5=>(Rs.bind (Rs.ok (5:Int)) λx6=>(noE (Jv x4 x5 x6))))) λa1=>(Rs.bind (Rs.bind (Rs.ok (4:Int)) λx12=>(Rs.bind (Rs.bind (Rs.ok a1) λx10=>(Rs.bind (Rs.ok (81:Int)) λx11=>(noE (Vz x10 x11)))) λx13=>(Rs.ok (min x12 x13)))) λa7=>(Rs.bind (Rs.bind (Rs.ok a_0) λx17=>(Rs.bind (Rs.ok (1:Int)) λx18=>(Rs.bind (Rs.ok a7) λx19=>(noE (YF x17 x18 x19))))) λa14=>(Rs.bind (Rs.bind (Rs.ok a_0) λx23=>(Rs.bind (Rs.ok (2:Int)) λx24=>(Rs.bind (Rs.ok a7) λx25=>(noE (YF x23 x24 x25))))) λa20=>(Rs.bind (Rs.bind (Rs.ok a1) λx29=>(Rs.bind (Rs.ok a14) λx30=>(noE (DV x29 x30)))) λa26=>(Rs.bind (Rs.bind (Rs.ok a1) λx34=>(Rs.bind (Rs.ok a20) λx35=>(noE (DV x34 x35)))) λa31=>(Rs.bind (orR (Rs.bind (Rs.bind (Rs.ok a1) λx37=>(Rs.bind (Rs.ok a14) λx38=>(noE (Qb x37 x38)))) λx39=>(Rs.bind (Rs.bind (Rs.ok a26) λx41=>(Rs.ok (some x41))) λx40=>(Rs.ok (!(decide (x39=x40)))))) (Rs.bind (Rs.bind (Rs.ok a1) λx43=>(Rs.bind (Rs.ok a20) λx44=>(noE (Qb x43 x44)))) λx45=>(Rs.bind (Rs.bind (Rs.ok a31) λx47=>(Rs.ok (some x47))) λx46=>(Rs.ok (!(decide (x45=x46))))))) λx48=>(if x48=true then(Rs.ok false) else(Rs.bind (Rs.bind (Rs.ok a1) λx55=>(Rs.bind (Rs.bind (Rs.ok a14) λx53=>(Rs.bind (Rs.ok a20) λx54=>(noE (YL x53 x54)))) λx56=>(noE (Qb x55 x56)))) λa49=>(Rs.bind (orR (Rs.bind (Rs.ok a49) λx57=>(Rs.ok x57.isNone)) (Rs.bind (Rs.ok a49) λx63=>(Rs.bind (Rs.bind (Rs.bind (Rs.ok a26) λx60=>(Rs.bind (Rs.ok a31) λx61=>(Rs.bind (Rs.bind (Rs.ok a20) λx59=>(Rs.ok (x59.length:Int))) λx62=>(noE (Vr x60 x61 x62))))) λx65=>(Rs.ok (some x65))) λx64=>(Rs.ok (!(decide (x63=x64))))))) λx66=>(if x66=true then(Rs.ok false) else(Rs.bind (Rs.bind (Rs.bind (Rs.ok a1) λx68=>(Rs.bind (Rs.ok a14) λx69=>(Rs.bind (Rs.ok a20) λx70=>(Rs.bind (Rs.ok a26) λx71=>(Rs.bind (Rs.ok a31) λx72=>(noE (ZI x68 x69 x70 x71 x72))))))) λx73=>(Rs.ok (!x73))) λx74=>(if x74=true then(Rs.ok false) else(Rs.bind (Rs.bind (Rs.ok a1) λx76=>(Rs.bind (Rs.ok a14) λx77=>(noE (Qb x76 x77)))) λx78=>(Rs.bind (Rs.bind (Rs.ok a26) λx80=>(Rs.ok (some x80))) λx79=>(Rs.ok (decide (x78=x79))))))))))))))))))
section
variable {P:Program}{w:World}{K:PySem.W.Frag}{mg:Str->Option Value}{base:Heap}
theorem JE:FnScope ["_law_script","_law_drawing","_law_limit_here","_law_one","_law_other","_law_first","_law_second","_law_found"] ["_law_script"] (Xg UI):=⟨rfl,rfl,rfl,by decide+kernel,rfl,by decide+kernel,by decide+kernel⟩
theorem O3 {f:Addr}{fd:FuncData}(F:Fun K "law" "law" UI f fd)(g_drawn:Fn P w K mg base 3 "_law_drawn" ["_law_script","_law_place","_law_most"] (sp3 (rL Xc) Xc Xc (oT2 (oL (oL (oF Xc))) (oL (oF (rP2 Xc Xc)))) Jv K))(g_good_table:Fn P w K mg base 3 "_law_good_table" ["_law_script","_law_place","_law_most"] (sp3 (rL Xc) Xc Xc (oL (oL (oF Xc))) YF K))(g_all:Fn P w K mg base 3 "_law_all" ["_law_drawing","_law_table"] (sp2 (rP2 (rV (rV Xc)) (rV (rP2 Xc Xc))) (rV (rV Xc)) (oL (oL (oF Xc))) DV K))(g_list:Fn P w K mg base 7 "_law_list" ["_law_drawing","_law_table"] (Po (rP2 (rV (rV Xc)) (rV (rP2 Xc Xc))) (rV (rV Xc)) (oF (JQ (rV (rV Xc)))) Qb K))(g_limit:Fn P w K mg base 2 "_law_limit" ["_law_drawing","_law_most"] (sp2 (rP2 (rV (rV Xc)) (rV (rP2 Xc Xc))) Xc (oF Xc) Vz K))(g_pairs_table:Fn P w K mg base 1 "_law_pairs_table" ["_law_one","_law_other"] (sp2 (rV (rV Xc)) (rV (rV Xc)) (oL (oL (oF Xc))) YL K))(g_by_side:Fn P w K mg base 8 "_law_by_side" ["_law_drawing","_law_one","_law_other","_law_first","_law_second"] (sp5 (rP2 (rV (rV Xc)) (rV (rP2 Xc Xc))) (rV (rV Xc)) (rV (rV Xc)) (rV (rV Xc)) (rV (rV Xc)) (oF XC) ZI K))(g_pairs:Fn P w K mg base 1 "_law_pairs" ["_law_first","_law_second","_law_size"] (sp3 (rV (rV Xc)) (rV (rV Xc)) Xc (oL (oL (oF Xc))) Vr K))(Z:Blt mg):FnOk P w K mg base CX0 9 f fd ["_law_script"] (sp1 (rL Xc) (oF XC) Fx K):=by
 refine F.ok JE (λvs H Q E h=>?_) (λcdv A outer s H vs Q E hr h=>?_)
 ·obtain⟨v_0,a_0,b,rfl,_⟩:=h;rfl
 obtain⟨v_0,a_0,b,rfl,h_0,hm,q⟩:=h
 have hu:=hu8 hr
 have hu1:=Ud hr
 refine⟨_,(Xa (Xj (i:=1) JE.nd rfl (Or.inl rfl) (XN g_drawn hr (by decide) (Xb (pv 0) (Xb Xf (Xb Xf Xd)))))
  (Xa (Xj (i:=2) JE.nd rfl (Or.inl rfl) (Xm (Gs rfl) rfl Z.b_min PyProof.Rows.boot_min (Xb Xf (Xb (XN g_limit hr (by decide) (Xb (pv 1) (Xb Xf Xd))) Xd))))
  (Xa (Xj (i:=3) JE.nd rfl (Or.inl rfl) (XN g_good_table hr (by decide) (Xb (pv 0) (Xb Xf (Xb (pv 2) Xd)))))
  (Xa (Xj (i:=4) JE.nd rfl (Or.inl rfl) (XN g_good_table hr (by decide) (Xb (pv 0) (Xb Xf (Xb (pv 2) Xd)))))
  (Xa (Xj (i:=5) JE.nd rfl (Or.inl rfl) (XN g_all hr (by decide) (Xb (pv 1) (Xb (pv 3) Xd))))
  (Xa (Xj (i:=6) JE.nd rfl (Or.inl rfl) (XN g_all hr (by decide) (Xb (pv 1) (Xb (pv 4) Xd))))
  (Xa (Ye (PW.pt (Ib (Xp (Ef (Dw rfl rfl (LF (LF eq_int))) (En (by decide) hu)) (XN g_list hr (by decide) (Xb (pv 1) (Xb (pv 3) Xd))) (pv 5) (Xx _)) (FX (Xp (Ef (Dw rfl rfl (LF (LF eq_int))) (En (by decide) hu)) (XN g_list hr (by decide) (Xb (pv 1) (Xb (pv 4) Xd))) (pv 6) (Xx _)))))
   (Xa (Xs QG)
   Xe)
   Xe)
  (Xa (Xj (i:=7) JE.nd rfl (Or.inl rfl) (XN g_list hr (by decide) (Xb (pv 1) (Xb (XN g_pairs_table hr (by decide) (Xb (pv 3) (Xb (pv 4) Xd))) Xd))))
  (Xa (Ye (PW.pt (Ib (Xp Lr (pv 7) FY (Xx _)) (FX (Xp (Ef (Dw rfl rfl (LF (LF eq_int))) (En (by decide) hu)) (pv 7) (XN g_pairs hr (by decide) (Xb (pv 5) (Xb (pv 6) (Xb (Xm (Xh K rfl) rfl Z.b_len PySem.boot_len (Xb (pv 4) Xd)) Xd)))) (Xx _)))))
   (Xa (Xs QG)
   Xe)
   Xe)
  (Xa (Ye (JA (Qs (XN g_by_side hr (by decide) (Xb (pv 1) (Xb (pv 3) (Xb (pv 4) (Xb (pv 5) (Xb (pv 6) Xd))))))))
   (Xa (Xs QG)
   Xe)
   Xe)
  (Xa (Xs (Fj (N8 (Dw rfl rfl (LF (LF eq_int))) (En (by decide) hu)) (XN g_list hr (by decide) (Xb (pv 1) (Xb (pv 3) Xd))) (pv 5) (Xx _)))
  Xe))))))))))),?_⟩
 refine Gg (S:=(SC.add SC.nil K (rL Xc) v_0 a_0)) (σ:=[some v_0,none,none,none,none,none,none,none]) 0 ?_ (SC.i SC.t h_0) hm q rfl
 unfold Fx
 exact(ZY (K:=K) (r:=(rP2 (rV (rV Xc)) (rV (rP2 Xc Xc)))) 1 (Ev.sh (ZL (Xn (r:=(rL Xc)) 0 rfl (λ_ s=>s.r)) (QM 0) (QM 5))) λa1 v2=>(ZY (K:=K) (r:=Xc) 2 (EvB.sh (BV (QM 4) (Ev.toB (Zw (Xn (r:=(rP2 (rV (rV Xc)) (rV (rP2 Xc Xc)))) 1 rfl (λ_ s=>s.r)) (QM 81))))) λa7 v8=>(ZY (K:=K) (r:=(rV (rV Xc))) 3 (Ev.sh (ZL (Xn (r:=(rL Xc)) 0 rfl (λ_ s=>s.l.l.r)) (QM 1) (Xn (r:=Xc) 2 rfl (λ_ s=>s.r)))) λa14 v15=>(ZY (K:=K) (r:=(rV (rV Xc))) 4 (Ev.sh (ZL (Xn (r:=(rL Xc)) 0 rfl (λ_ s=>s.l.l.l.r)) (QM 2) (Xn (r:=Xc) 2 rfl (λ_ s=>s.l.r)))) λa20 v21=>(ZY (K:=K) (r:=(rV (rV Xc))) 5 (Ev.sh (Zw (Xn (r:=(rP2 (rV (rV Xc)) (rV (rP2 Xc Xc)))) 1 rfl (λ_ s=>s.l.l.l.r)) (Xn (r:=(rV (rV Xc))) 3 rfl (λ_ s=>s.l.r)))) λa26 v27=>(ZY (K:=K) (r:=(rV (rV Xc))) 6 (Ev.sh (Zw (Xn (r:=(rP2 (rV (rV Xc)) (rV (rP2 Xc Xc)))) 1 rfl (λ_ s=>s.l.l.l.l.r)) (Xn (r:=(rV (rV Xc))) 4 rfl (λ_ s=>s.l.r)))) λa31 v32=>(Zv (KY (Ym (K:=K) (UR (Ev.toB (Qf (Yb (r:=(rP2 (rV (rV Xc)) (rV (rP2 Xc Xc)))) 1 rfl (λ_ s=>s.l.l.l.l.l.r)) (Yb (r:=(rV (rV Xc))) 3 rfl (λ_ s=>s.l.l.l.r)))) (QT (Xn (r:=(rV (rV Xc))) 5 rfl (λ_ s=>s.l.r))))) (Ym (K:=K) (UR (Ev.toB (Qf (Yb (r:=(rP2 (rV (rV Xc)) (rV (rP2 Xc Xc)))) 1 rfl (λ_ s=>s.l.l.l.l.l.r)) (Yb (r:=(rV (rV Xc))) 4 rfl (λ_ s=>s.l.l.r)))) (QT (Xn (r:=(rV (rV Xc))) 6 rfl (λ_ s=>s.r)))))) (Xu (EvS.ev (EvB.sh (Q2 false)))) (ZY (K:=K) (r:=(JQ (rV (rV Xc)))) 7 (Ev.sh (Qf (Yb (r:=(rP2 (rV (rV Xc)) (rV (rP2 Xc Xc)))) 1 rfl (λ_ s=>s.l.l.l.l.l.r)) (Ev.sh (Zw (Xn (r:=(rV (rV Xc))) 3 rfl (λ_ s=>s.l.l.l.r)) (Xn (r:=(rV (rV Xc))) 4 rfl (λ_ s=>s.l.l.r)))))) λa49 v50=>(Zv (KY (Ym (K:=K) (By (tb:=tC .non) (Xn (r:=(JQ (rV (rV Xc)))) 7 rfl (λ_ s=>s.r)))) (Ym (K:=K) (UR (Xn (r:=(JQ (rV (rV Xc)))) 7 rfl (λ_ s=>s.r)) (QT (Ev.toB (ZL (Xn (r:=(rV (rV Xc))) 5 rfl (λ_ s=>s.l.l.r)) (Xn (r:=(rV (rV Xc))) 6 rfl (λ_ s=>s.l.r)) (Qy (Xn (r:=(rV (rV Xc))) 4 rfl (λ_ s=>s.l.l.l.r))))))))) (Xu (EvS.ev (EvB.sh (Q2 false)))) (Zv (Jj (UZ (K:=K) (Ev.toB (Dh (Xn (r:=(rP2 (rV (rV Xc)) (rV (rP2 Xc Xc)))) 1 rfl (λ_ s=>s.l.l.l.l.l.l.r)) (Xn (r:=(rV (rV Xc))) 3 rfl (λ_ s=>s.l.l.l.l.r)) (Xn (r:=(rV (rV Xc))) 4 rfl (λ_ s=>s.l.l.l.r)) (Xn (r:=(rV (rV Xc))) 5 rfl (λ_ s=>s.l.l.r)) (Xn (r:=(rV (rV Xc))) 6 rfl (λ_ s=>s.l.r)))))) (Xu (EvS.ev (EvB.sh (Q2 false)))) (Xu (EvS.ev (EvB.sh (Bc (Ev.toB (Qf (Yb (r:=(rP2 (rV (rV Xc)) (rV (rP2 Xc Xc)))) 1 rfl (λ_ s=>s.l.l.l.l.l.l.r)) (Yb (r:=(rV (rV Xc))) 3 rfl (λ_ s=>s.l.l.l.l.r)))) (QT (Xn (r:=(rV (rV Xc))) 5 rfl (λ_ s=>s.l.l.r)))))))))))))))))
end
end My
namespace L2
open PySem
section
variable {α β γ ρ:Type}
theorem Rs.okb (a:α)(f:α->Rs β):(Rs.ok a).bind f=f a:=(Eq.refl (f a)).symm.symm
theorem EU {f:α->Rs β}{h:α->β}:∀{as:List α},(∀a∈as,f a= .ok (h a))->C5 as f= .ok (as.map h)
 | [],_=>rfl
 |a::as,hf=>by
  show(f a).bind _=_
  rw[hf a (by simp),Rs.ok_bind,EU λb hb=>hf b (by simp[hb])];rfl
theorem Zh {f:α->Rs β}{h:α->β}{as:List α}(hl:as.length<=sizeLine)(hf:∀a∈as,f a= .ok (h a)):Le as f= .ok (as.map h):=by
 unfold Le;rw[Xr hl];exact EU hf
theorem BZ {c:α->Rs Bool}{f:α->Rs β}{p:α->Bool}{h:α->β}:∀{as:List α},(∀a∈as,c a= .ok (p a))->(∀a∈as,p a=true->f a= .ok (h a))->Dp as c f= .ok ((as.filter p).map h)
 | [],_,_=>rfl
 |a::as,hc,hf=>by
  show(c a).bind _=_
  rw[hc a (by simp),Rs.ok_bind]
  have ih:=BZ (as:=as) (λb hb=>hc b (by simp[hb])) λb hb=>hf b (by simp[hb])
  cases hp:p a with
  |false=>rw[if_neg (by simp),ih,List.filter_cons,hp];rfl
  |true=>rw[if_pos rfl,hf a (by simp) hp,Rs.ok_bind,ih,List.filter_cons,hp];rfl
theorem UK {c:α->Rs Bool}{f:α->Rs β}{p:α->Bool}{h:α->β}{as:List α}(hl:as.length<=sizeLine)(hc:∀a∈as,c a= .ok (p a))(hf:∀a∈as,p a=true->f a= .ok (h a)):Py as c f= .ok ((as.filter p).map h):=by
 unfold Py;rw[Xr hl];exact BZ hc hf
theorem KH {f:γ->α->Rs γ}(P:Nat->γ->Prop):∀(as:List α) (k:Nat) (g:γ),P k g->(∀i a g,as[i]?=some a->P (k+i) g->∃g',f g a= .ok g'/\P (k+i+1) g')->∃g',forN as g f= .ok g'/\P (k+as.length) g'
 | [],k,g,h0,_=>⟨g,rfl,h0⟩
 |a::as,k,g,h0,hs=>by
  obtain⟨g1,e1,p1⟩:=hs 0 a g rfl h0
  obtain⟨g2,e2,p2⟩:=KH P as (k+1) g1 p1 λi b g hb hp=>by
   obtain⟨g',e',p'⟩:=hs (i+1) b g (by simpa using hb) (by rw[show k+(i+1)=k+1+i by omega];exact hp)
   exact⟨g',e',by rw[show k+1+i+1=k+(i+1)+1 by omega];exact p'⟩
  refine⟨g2,?_,by rw[List.length_cons,show k+(as.length+1)=k+1+as.length by omega];exact p2⟩
  show(f g a).bind _=_
  rw[e1,Rs.ok_bind];exact e2
theorem U1 {f:γ->α->Rs γ}(P:Nat->γ->Prop){as:List α}{g:γ}(h0:P 0 g)(hs:∀i a g,as[i]?=some a->P i g->∃g',f g a= .ok g'/\P (i+1) g'):∃g',forN as g f= .ok g'/\P as.length g':=by
 have:=KH P as 0 g h0 (by simpa using hs)
 simpa using this
theorem Y2 {f:List β->α->Rs (List β)}{h:α->β}:∀{as:List α}{g:List β},g.length+as.length<=sizeLine->(∀g:List β,g.length<sizeLine->∀a∈as,f g a= .ok (g++[h a]))->forN as g f= .ok (g++as.map h)
 | [],g,_,_=>by simp[forN]
 |a::as,g,hl,hf=>by
  show(f g a).bind _=_
  rw[List.length_cons] at hl
  rw[hf g (by omega) a (by simp),Rs.ok_bind,Y2 (by simp;omega) λg hg b hb=>hf g hg b (by simp[hb])]
  simp
theorem Jc {f:γ->α->Rs (Ctl ρ γ)}:∀{as:List α}{g:γ},(∀a∈as,f g a= .ok (.nx g))->Uc as g f= .ok (.nx g)
 | [],_,_=>rfl
 |a::as,g,hf=>by
  show(f g a).bind _=_
  rw[hf a (by simp),Rs.ok_bind]
  exact Jc λb hb=>hf b (by simp[hb])
theorem K9 {f:γ->α->Rs (Ctl ρ γ)}(P:Nat->γ->Prop):∀(as:List α) (k:Nat) (g:γ),P k g->(∀i a g,as[i]?=some a->P (k+i) g->∃g',f g a= .ok (.nx g')/\P (k+i+1) g')->∃g',Uc as g f= .ok (.nx g')/\P (k+as.length) g'
 | [],k,g,h0,_=>⟨g,rfl,h0⟩
 |a::as,k,g,h0,hs=>by
  obtain⟨g1,e1,p1⟩:=hs 0 a g rfl h0
  obtain⟨g2,e2,p2⟩:=K9 P as (k+1) g1 p1 λi b g hb hp=>by
   obtain⟨g',e',p'⟩:=hs (i+1) b g (by simpa using hb) (by rw[show k+(i+1)=k+1+i by omega];exact hp)
   exact⟨g',e',by rw[show k+1+i+1=k+(i+1)+1 by omega];exact p'⟩
  refine⟨g2,?_,by rw[List.length_cons,show k+(as.length+1)=k+1+as.length by omega];exact p2⟩
  show(f g a).bind _=_
  rw[e1,Rs.ok_bind];exact e2
theorem HS {f:γ->α->Rs (Ctl ρ γ)}(P:Nat->γ->Prop){as:List α}{g:γ}(h0:P 0 g)(hs:∀i a g,as[i]?=some a->P i g->∃g',f g a= .ok (.nx g')/\P (i+1) g'):∃g',Uc as g f= .ok (.nx g')/\P as.length g':=by
 have:=K9 P as 0 g h0 (by simpa using hs)
 simpa using this
theorem X7 {a b:Int}(h:0<b):Mg a b= .ok (a % b):=Xr h
theorem YW {a b:Int}(h1: -(2^64)<a)(h2:a<2^64):M8 a b= .ok (a*b):=Xr (.inl ⟨h1,h2⟩)
theorem Zb {a b:Int}(h1: -(2^64)<b)(h2:b<2^64):M8 a b= .ok (a*b):=Xr (.inr ⟨h1,h2⟩)
theorem F3 {a b:Int}(h:0<b)(h2:b<2^250):Pm a b= .ok (a/b):=Xr ⟨h,by
 have h3:b.natAbs<2^250:=by omega
 rcases Nat.eq_zero_or_pos b.natAbs with h0 |h0
 ·omega
 ·have:=(Nat.log2_lt (by omega)).mpr h3
  omega⟩
theorem Hu {a b:Int}(h0:0<=b)(h1:b<=1000000)(h2: -(2^64)<a)(h3:a<2^64):P8 a b= .ok (a^b.toNat):=Xr ⟨h0,h1,by omega⟩
theorem X9 {as:List α}{i:Nat}{a:α}(h:as[i]?=some a):atR as (i:Int)= .ok a:=by
 have hlt:=(List.getElem?_eq_some_iff.mp h).1
 unfold atR atI ixN
 rw[if_pos (by omega),if_pos (by omega)]
 simp[h]
theorem Om {as:List α}{i:Int}{a:α}(h0:0<=i)(h:as[i.toNat]?=some a):atR as i= .ok a:=by
 have:i=(i.toNat:Int):=by omega
 rw[this];exact X9 h
theorem Yo {n:Nat}(h:n<2^62):Pl 0 (n:Int)= .ok ((List.range n).map λ(i:Nat)=>(i:Int)):=by
 unfold Pl
 rw[Xr (by omega)]
 unfold Qr
 congr 1
 rw[Int.sub_zero,Int.toNat_natCast]
 exact List.map_congr_left λi _=>by omega
theorem XZ {n i:Nat}{a:Int}(h:((List.range n).map λ(i:Nat)=>(i:Int))[i]?=some a):a=(i:Int)/\i<n:=by
 have hlt:=(List.getElem?_eq_some_iff.mp h).1
 simp only[List.length_map,List.length_range] at hlt
 rw[List.getElem?_map,List.getElem?_range hlt] at h
 exact⟨(Option.some.inj h).symm,hlt⟩
theorem Yy {n:Nat}{a:Int}(h:a∈(List.range n).map λ(i:Nat)=>(i:Int)):∃i:Nat,i<n/\a=(i:Int):=by
 obtain⟨i,hi,rfl⟩:=List.mem_map.mp h
 exact⟨i,List.mem_range.mp hi,rfl⟩
theorem XS {n:Nat}:((List.range n).map λ(i:Nat)=>(i:Int)).length=n:=by simp
theorem Ly {a:Bool}{b:Rs Bool}{c:Bool}(h:a=true->b= .ok c):NO (.ok a) b= .ok (a&&c):=by
 cases a with
 |false=>rfl
 |true=>
  show(if true=true then b else Rs.ok false)=_
  rw[if_pos rfl,h rfl];rfl
theorem sz {n:Nat}(h:n<=100000):n<=sizeLine:=Nat.le_trans h (by decide)
theorem FK {n:Nat}(h:n<=100000):n<sizeLine:=Nat.lt_of_le_of_lt h (by decide)
noncomputable def Ok (m:Rs β)(R:β->Prop):Prop:=∃ r,m= .ok r/\R r
theorem Ok.bind {m:Rs α}{f:α->Rs β}{R:α->Prop}{T:β->Prop}(h:Ok m R)(hf:∀a,R a->Ok (f a) T):Ok (m.bind f) T:=by
 obtain⟨a,e,ha⟩:=h
 rw[e];exact hf a ha
theorem Ok.imp {m:Rs α}{R T:α->Prop}(h:Ok m R)(hf:∀a,R a->T a):Ok m T:=by
 obtain⟨a,e,ha⟩:=h
 exact⟨a,e,hf a ha⟩
theorem Ok.noE {m:Rs α}{R:α->Prop}(h:Ok m R):Ok (noE m) R:=by
 obtain⟨a,e,ha⟩:=h
 rw[e];exact⟨a,rfl,ha⟩
theorem Ok.ite {b:Bool}{m n:Rs α}{R:α->Prop}(h1:b=true->Ok m R)(h2:b=false->Ok n R):Ok (if b=true then m else n) R:=by
 cases b with
 |true=>rw[if_pos rfl];exact h1 rfl
 |false=>rw[if_neg Bool.false_ne_true];exact h2 rfl
theorem Ok.forN {f:γ->α->Rs γ}(P:Nat->γ->Prop){as:List α}{g:γ}(h0:P 0 g)(hs:∀i a g,as[i]?=some a->P i g->Ok (f g a) (P (i+1))):Ok (forN as g f) (P as.length):=U1 P h0 hs
theorem Q3 {f:γ->Rs ρ}(g:γ):Qa f (.nx g)=f g:=(Eq.refl (f g)).symm.symm
theorem V0 {f:γ->Rs ρ}(r:ρ):Qa f (.ret r)= .ok r:=(Eq.refl (Rs.ok r)).symm.symm
theorem Xt (a:α):noE (Rs.ok a)= .ok a:=(Eq.refl (Rs.ok a)).symm.symm
theorem Ok.of {m:Rs α}{a:α}(h:m= .ok a):Ok m (λb=>b=a):=⟨a,h,rfl⟩
theorem Ok.eq {m:Rs α}{a:α}(h:Ok m (λb=>b=a)):m= .ok a:=by
 obtain⟨b,e,rfl⟩:=h
 exact e
end
end L2
namespace My
noncomputable def Zd (n:Nat)(f:Nat->Nat->Nat)(a:Nat):List Int:=(List.range n).map λb=>(f a b:Int)
noncomputable def Yk (n:Nat)(f:Nat->Nat->Nat):List (List Int):=(List.range n).map (Zd n f)
theorem XD (n:Nat)(f:Nat->Nat->Nat)(a:Nat):(Zd n f a).length=n:=by simp[Zd]
theorem XB (n:Nat)(f:Nat->Nat->Nat):(Yk n f).length=n:=by simp[Yk]
theorem Za {n:Nat}{f:Nat->Nat->Nat}{a b:Nat}(h:b<n):(Zd n f a)[b]?=some (f a b:Int):=by
 unfold Zd;rw[List.getElem?_map,List.getElem?_range h];rfl
theorem QX {n:Nat}{f:Nat->Nat->Nat}{a:Nat}(h:a<n):(Yk n f)[a]?=some (Zd n f a):=by
 unfold Yk;rw[List.getElem?_map,List.getElem?_range h];rfl
theorem Vs {n:Nat}{f g:Nat->Nat->Nat}{a:Nat}(h:∀b,b<n->f a b=g a b):Zd n f a=Zd n g a:=by
 unfold Zd
 exact List.map_congr_left λb hb=>by rw[h b (List.mem_range.mp hb)]
theorem Zl {n:Nat}{f g:Nat->Nat->Nat}(h:∀a b,a<n->b<n->f a b=g a b):Yk n f=Yk n g:=by
 unfold Yk
 exact List.map_congr_left λa ha=>Vs λb hb=>h a b (List.mem_range.mp ha) hb
structure Col (n:Nat)(f:Nat->Nat->Nat):Prop where
 lt:∀a b,a<n->b<n->f a b<n
 r2:∀x y b,x<n->y<n->b<n->f x b=f y b->x=y
structure GoodF (n:Nat)(f:Nat->Nat->Nat):Prop extends Col n f where
 r1:∀a,a<n->f a a=a
 r3:∀a b c,a<n->b<n->c<n->f (f a b) c=f (f a c) (f b c)
theorem GoodF.congr {n:Nat}{f g:Nat->Nat->Nat}(h:GoodF n f)(e:∀a b,a<n->b<n->g a b=f a b):GoodF n g where
 lt a b ha hb:=by rw[e a b ha hb];exact h.lt a b ha hb
 r2 x y b hx hy hb q:=by rw[e x b hx hb,e y b hy hb] at q;exact h.r2 x y b hx hy hb q
 r1 a ha:=by rw[e a a ha ha];exact h.r1 a ha
 r3 a b c ha hb hc:=by
  rw[e a b ha hb,e a c ha hc,e b c hb hc,e _ c (h.lt a b ha hb) hc,e _ _ (h.lt a c ha hc) (h.lt b c hb hc)]
  exact h.r3 a b c ha hb hc
theorem VT:∀(n:Nat) (p:Nat->Nat),(∀a,a<n->p a<n)->(∀a b,a<n->b<n->p a=p b->a=b)->∀y,y<n->∃x,x<n/\p x=y
 |0,_,_,_,y,hy=>absurd hy (Nat.not_lt_zero _)
 |n+1,p,hl,hi,y,hy=>by
  by_cases hh:∃x,x<n+1/\p x=y
  ·exact hh
  ·exfalso
   -- send n to y, and y's place away
   have hne:∀x,x<n+1->p x≠y:=λx hx e=>hh ⟨x,hx,e⟩
   -- among the first n: p', which skips y
   let s:Nat->Nat:=λv=>if v<y then v else v-1
   have hs:∀a,a<n+1->s (p a)<n:=λa ha=>by
    have h1:=hl a ha;have h2:=hne a ha
    show(if p a<y then p a else p a-1)<n
    split<;> omega
   have hsi:∀a b,a<n+1->b<n+1->s (p a)=s (p b)->a=b:=λa b ha hb e=>by
    have h1:=hne a ha;have h2:=hne b hb
    refine hi a b ha hb ?_
    have e':(if p a<y then p a else p a-1)=(if p b<y then p b else p b-1):=e
    split at e'<;> split at e'<;> omega
   obtain⟨x,hx,ex⟩:=VT n (λa=>s (p a)) (λa ha=>hs a (by omega)) (λa b ha hb e=>hsi a b (by omega) (by omega) e) (s (p n)) (hs n (by omega))
   have:=hsi x n (by omega) (by omega) ex
   omega
structure PermN (n:Nat)(p q:Nat->Nat):Prop where
 lt:∀a,a<n->p a<n
 qlt:∀a,a<n->q a<n
 pq:∀a,a<n->p (q a)=a
 qp:∀a,a<n->q (p a)=a
theorem PermN.good {n:Nat}{p q:Nat->Nat}{f:Nat->Nat->Nat}(h:PermN n p q)(g:GoodF n f):GoodF n (λx y=>p (f (q x) (q y))) where
 lt a b ha hb:=h.lt _ (g.lt _ _ (h.qlt a ha) (h.qlt b hb))
 r2 x y b hx hy hb e:=by
  have e1:q (p (f (q x) (q b)))=q (p (f (q y) (q b))):=congrArg q e
  rw[h.qp _ (g.lt _ _ (h.qlt x hx) (h.qlt b hb)),h.qp _ (g.lt _ _ (h.qlt y hy) (h.qlt b hb))] at e1
  have:=g.r2 _ _ _ (h.qlt x hx) (h.qlt y hy) (h.qlt b hb) e1
  rw[←h.pq x hx, ←h.pq y hy,this]
 r1 a ha:=by
  show p (f (q a) (q a))=a
  rw[g.r1 _ (h.qlt a ha),h.pq a ha]
 r3 a b c ha hb hc:=by
  have l1:=g.lt _ _ (h.qlt a ha) (h.qlt b hb)
  have l2:=g.lt _ _ (h.qlt a ha) (h.qlt c hc)
  have l3:=g.lt _ _ (h.qlt b hb) (h.qlt c hc)
  show p (f (q (p (f (q a) (q b)))) (q c))=p (f (q (p (f (q a) (q c)))) (q (p (f (q b) (q c)))))
  rw[h.qp _ l1,h.qp _ l2,h.qp _ l3,g.r3 _ _ _ (h.qlt a ha) (h.qlt b hb) (h.qlt c hc)]
theorem Ms {n:Nat}{p:Nat->Nat}(hl:∀a,a<n->p a<n)(hi:∀a b,a<n->b<n->p a=p b->a=b):∃q,PermN n p q:=by
 have ho:=VT n p hl hi
 refine⟨λy=>if h:y<n then Classical.choose (ho y h) else 0,hl,λa ha=>?_,λa ha=>?_,λa ha=>?_⟩
 ·simp only[dif_pos ha];exact(Classical.choose_spec (ho a ha)).1
 ·simp only[dif_pos ha];exact(Classical.choose_spec (ho a ha)).2
 ·simp only[dif_pos (hl a ha)]
  have:=Classical.choose_spec (ho (p a) (hl a ha))
  exact hi _ _ this.1 ha this.2
theorem Fk {A B n z:Int}(h:A-B=n*z):A % n=B % n:=by
 have:A=B+n*z:=by omega
 rw[this,Int.add_mul_emod_self_left]
noncomputable def Bh (k n a b:Int):Int:=(k*a+(1-k)*b) % n
noncomputable def Hz (k:Int)(n:Nat)(a b:Nat):Nat:=(Bh k n a b).toNat
theorem X6 {k:Int}{n:Nat}(hn:0<n)(a b:Nat):((Hz k n a b:Nat):Int)=Bh k n a b:=by
 unfold Hz
 have:=Int.emod_nonneg (k*a+(1-k)*b) (show(n:Int)≠0 by omega)
 unfold Bh
 omega
theorem Kj {k:Int}{n:Nat}(hn:0<n)(hk:∀x:Int,(n:Int)∣k*x->(n:Int)∣x):GoodF n (Hz k n) where
 lt a b _ _:=by
  have h:=X6 (k:=k) hn a b
  have:=Int.emod_lt_of_pos (k*a+(1-k)*b) (show 0<(n:Int) by omega)
  unfold Bh at h
  omega
 r1 a ha:=by
  have h:=X6 (k:=k) hn a a
  have e:k*(a:Int)+(1-k)*a=a:=by grind
  unfold Bh at h
  rw[e,Int.emod_eq_of_lt (by omega) (by omega)] at h
  omega
 r2 x y b hx hy hb e:=by
  have h1:=X6 (k:=k) hn x b
  have h2:=X6 (k:=k) hn y b
  rw[e,h2] at h1
  unfold Bh at h1
  have:=Int.emod_eq_emod_iff_emod_sub_eq_zero.mp h1
  have hd:(n:Int)∣k*((y:Int)-x):=by
   have:=Int.dvd_of_emod_eq_zero this
   have e2:(k*(y:Int)+(1-k)*b)-(k*x+(1-k)*b)=k*((y:Int)-x):=by grind
   rwa [e2] at this
  obtain⟨z,hz⟩:=hk _ hd
  have hz1:z<1:=by
   apply Int.lt_of_mul_lt_mul_left (a:=(n:Int)) _ (by omega)
   omega
  have hz2: -1<z:=by
   apply Int.lt_of_mul_lt_mul_left (a:=(n:Int)) _ (by omega)
   omega
  have:z=0:=by omega
  subst this
  omega
 r3 a b c _ _ _:=by
  have e1:=X6 (k:=k) hn a b
  have e2:=X6 (k:=k) hn a c
  have e3:=X6 (k:=k) hn b c
  have e4:=X6 (k:=k) hn (Hz k n a b) c
  have e5:=X6 (k:=k) hn (Hz k n a c) (Hz k n b c)
  have hh:Bh k n (Hz k n a b:Nat) c=Bh k n (Hz k n a c:Nat) (Hz k n b c:Nat):=by
   rw[e1,e2,e3]
   unfold Bh
   have q1:=Int.emod_add_mul_ediv (k*(a:Int)+(1-k)*b) n
   have q2:=Int.emod_add_mul_ediv (k*(a:Int)+(1-k)*c) n
   have q3:=Int.emod_add_mul_ediv (k*(b:Int)+(1-k)*c) n
   generalize (k*(a:Int)+(1-k)*b)/n=d1 at q1
   generalize (k*(a:Int)+(1-k)*c)/n=d2 at q2
   generalize (k*(b:Int)+(1-k)*c)/n=d3 at q3
   generalize (k*(a:Int)+(1-k)*b) % n=m1 at*
   generalize (k*(a:Int)+(1-k)*c) % n=m2 at*
   generalize (k*(b:Int)+(1-k)*c) % n=m3 at*
   refine Fk (z:=-k*d1+k*d2+(1-k)*d3) ?_
   grind
  omega
theorem DU {k:Int}{n:Nat}(h:Int.gcd k n=1)(x:Int)(hd:(n:Int)∣k*x):(n:Int)∣x:=by
 have h1:=Int.natAbs_dvd_natAbs.mpr hd
 rw[Int.natAbs_mul,Int.natAbs_natCast] at h1
 have h2:Nat.Coprime n k.natAbs:=by
  have:Nat.gcd k.natAbs n=1:=h
  rw[Nat.gcd_comm] at this
  exact this
 exact Int.natAbs_dvd_natAbs.mp (by rw[Int.natAbs_natCast];exact h2.dvd_of_dvd_mul_left h1)
theorem De {n:Nat}(x:Int)(hd:(n:Int)∣(-1)*x):(n:Int)∣x:=by
 have:(-1)*x= -x:=by omega
 rw[this] at hd
 exact Int.dvd_neg.mp hd
theorem Ji (n:Nat):GoodF n (λa _=>a):=⟨⟨λ_ _ h _=>h,λ_ _ _ _ _ _ e=>e⟩,λ_ _=>rfl,λ_ _ _ _ _ _=>rfl⟩
theorem Gq {n:Nat}{p:Nat->Nat}(h1:∀a,a<n->p a<n)(h2:∀a,a+1=n->p a=a)(h3:∀x y,x<n->y<n->p x=p y->x=y):GoodF n (λa b=>if b+1=n then p a else a) where
 lt a b ha hb:=by
  show(if b+1=n then p a else a)<n
  split
  ·exact h1 a ha
  ·exact ha
 r1 a ha:=by
  show(if a+1=n then p a else a)=a
  split
  ·next h=>exact h2 a h
  ·rfl
 r2 x y b hx hy hb e:=by
  have e:(if b+1=n then p x else x)=if b+1=n then p y else y:=e
  by_cases h:b+1=n
  ·rw[if_pos h,if_pos h] at e;exact h3 x y hx hy e
  ·rw[if_neg h,if_neg h] at e;exact e
 r3 a b c ha hb hc:=by
  show(if c+1=n then p (if b+1=n then p a else a) else if b+1=n then p a else a)=if(if c+1=n then p b else b)+1=n then p (if c+1=n then p a else a) else if c+1=n then p a else a
  by_cases h:c+1=n
  ·rw[if_pos h,if_pos h,if_pos h]
   by_cases g:b+1=n
   ·rw[if_pos g,h2 b g,if_pos g]
   ·rw[if_neg g,if_neg λz=>g ?_]
    have hp:p b=b:=by
     refine h3 _ _ (h1 b hb) hb (h2 _ z)
    rw[hp] at z
    exact z
  ·rw[if_neg h,if_neg h,if_neg h]
theorem B6 (n:Nat):GoodF n (λa b=>if 2<n/\a<2/\b+1=n then 1-a else a):=by
 by_cases hn:2<n
 ·refine(Gq (n:=n) (p:=λa=>if a<2 then 1-a else a) (λa ha=>?_) (λa ha=>if_neg (by omega)) λx y _ _ e=>?_).congr λa b _ _=>?_
  ·show(if a<2 then 1-a else a)<n
   split
   ·omega
   ·exact ha
  ·have e:(if x<2 then 1-x else x)=if y<2 then 1-y else y:=e
   by_cases h:x<2
   ·by_cases g:y<2
    ·rw[if_pos h,if_pos g] at e;clear hn;omega
    ·rw[if_pos h,if_neg g] at e;clear hn;omega
   ·by_cases g:y<2
    ·rw[if_neg h,if_pos g] at e;clear hn;omega
    ·rw[if_neg h,if_neg g] at e;exact e
  ·show(if 2<n/\a<2/\b+1=n then 1-a else a)=if b+1=n then(if a<2 then 1-a else a) else a
   by_cases g:b+1=n
   ·rw[if_pos g]
    by_cases h:a<2
    ·rw[if_pos h,if_pos ⟨hn,h,g⟩]
    ·rw[if_neg h,if_neg λz=>h z.2.1]
   ·rw[if_neg g,if_neg λz=>g z.2.2]
 ·exact(Ji n).congr λa b _ _=>if_neg λz=>hn z.1
theorem DY (n:Nat):GoodF n (λa b=>if a+1<n/\b+1=n then(if a+2<n then a+1 else 0) else a):=by
 refine(Gq (n:=n) (p:=λa=>if a+1<n then(if a+2<n then a+1 else 0) else a) (λa ha=>?_) (λa ha=>if_neg (by omega)) λx y hx hy e=>?_).congr λa b _ _=>?_
 ·show(if a+1<n then(if a+2<n then a+1 else 0) else a)<n
  split
  ·split
   ·assumption
   ·exact Nat.lt_of_le_of_lt (Nat.zero_le _) ha
  ·exact ha
 ·have e:(if x+1<n then(if x+2<n then x+1 else 0) else x)=if y+1<n then(if y+2<n then y+1 else 0) else y:=e
  by_cases h:x+1<n
  ·rw[if_pos h] at e
   by_cases g:y+1<n
   ·rw[if_pos g] at e
    by_cases h':x+2<n
    ·rw[if_pos h'] at e
     by_cases g':y+2<n
     ·rw[if_pos g'] at e;exact Nat.succ.inj e
     ·rw[if_neg g'] at e;exact nomatch e
    ·rw[if_neg h'] at e
     by_cases g':y+2<n
     ·rw[if_pos g'] at e;exact nomatch e
     ·clear e hx hy;omega
   ·rw[if_neg g] at e
    by_cases h':x+2<n
    ·rw[if_pos h'] at e;clear hx hy h;omega
    ·rw[if_neg h'] at e;clear hx hy h';omega
  ·rw[if_neg h] at e
   by_cases g:y+1<n
   ·rw[if_pos g] at e
    by_cases h':y+2<n
    ·rw[if_pos h'] at e;clear hx hy g;omega
    ·rw[if_neg h'] at e;clear hx hy h';omega
   ·rw[if_neg g] at e;exact e
 ·show(if a+1<n/\b+1=n then(if a+2<n then a+1 else 0) else a)=if b+1=n then(if a+1<n then(if a+2<n then a+1 else 0) else a) else a
  by_cases g:b+1=n
  ·rw[if_pos g]
   by_cases h:a+1<n
   ·rw[if_pos h,if_pos ⟨h,g⟩]
   ·rw[if_neg h,if_neg λz=>h z.1]
  ·rw[if_neg g,if_neg λz=>g z.2]
noncomputable def Ue (h:Nat)(f g:Nat->Nat->Nat)(a b:Nat):Nat:=if a<h/\b<h then f a b else if h<=a/\h<=b then h+g (a-h) (b-h) else a
theorem Bs {h m:Nat}{f g:Nat->Nat->Nat}(F:GoodF h f)(G:GoodF m g):GoodF (h+m) (Ue h f g):=by
 have s1:∀a b,a<h->b<h->Ue h f g a b=f a b:=λa b ha hb=>by unfold Ue;rw[if_pos ⟨ha,hb⟩]
 have s2:∀a b,Ue h f g (h+a) (h+b)=h+g a b:=λa b=>by unfold Ue;rw[if_neg (by omega),if_pos (by omega),Nat.add_sub_cancel_left,Nat.add_sub_cancel_left]
 have s3:∀a b,a<h->Ue h f g a (h+b)=a:=λa b ha=>by unfold Ue;rw[if_neg (by omega),if_neg (by omega)]
 have s4:∀a b,b<h->Ue h f g (h+a) b=h+a:=λa b ha=>by unfold Ue;rw[if_neg (by omega),if_neg (by omega)]
 have up:∀a,h<=a->∃a',a=h+a':=λa ha=>⟨a-h,by omega⟩
 refine⟨⟨λa b ha hb=>?_,λx y b hx hy hb e=>?_⟩,λa ha=>?_,λa b c ha hb hc=>?_⟩
 ·by_cases h1:a<h<;> by_cases h2:b<h
  ·rw[s1 a b h1 h2];have:=F.lt a b h1 h2;omega
  ·obtain⟨b,rfl⟩:=up b (by omega);rw[s3 a b h1];omega
  ·obtain⟨a,rfl⟩:=up a (by omega);rw[s4 a b h2];omega
  ·obtain⟨a,rfl⟩:=up a (by omega);obtain⟨b,rfl⟩:=up b (by omega)
   rw[s2];have:=G.lt a b (by omega) (by omega);omega
 ·by_cases h1:x<h<;> by_cases h2:y<h<;> by_cases h3:b<h
  ·rw[s1 _ _ h1 h3,s1 _ _ h2 h3] at e;exact F.r2 x y b h1 h2 h3 e
  ·obtain⟨b,rfl⟩:=up b (by omega);rw[s3 _ _ h1,s3 _ _ h2] at e;exact e
  ·obtain⟨y,rfl⟩:=up y (by omega);rw[s1 _ _ h1 h3,s4 _ _ h3] at e;have:=F.lt x b h1 h3;omega
  ·obtain⟨y,rfl⟩:=up y (by omega);obtain⟨b,rfl⟩:=up b (by omega);rw[s3 _ _ h1,s2] at e;omega
  ·obtain⟨x,rfl⟩:=up x (by omega);rw[s4 _ _ h3,s1 _ _ h2 h3] at e;have:=F.lt y b h2 h3;omega
  ·obtain⟨x,rfl⟩:=up x (by omega);obtain⟨b,rfl⟩:=up b (by omega);rw[s2,s3 _ _ h2] at e;omega
  ·obtain⟨x,rfl⟩:=up x (by omega);obtain⟨y,rfl⟩:=up y (by omega);rw[s4 _ _ h3,s4 _ _ h3] at e;exact e
  ·obtain⟨x,rfl⟩:=up x (by omega);obtain⟨y,rfl⟩:=up y (by omega);obtain⟨b,rfl⟩:=up b (by omega)
   rw[s2,s2] at e
   rw[G.r2 x y b (by omega) (by omega) (by omega) (by omega)]
 ·by_cases h1:a<h
  ·rw[s1 _ _ h1 h1,F.r1 a h1]
  ·obtain⟨a,rfl⟩:=up a (by omega);rw[s2,G.r1 a (by omega)]
 ·by_cases h1:a<h<;> by_cases h2:b<h<;> by_cases h3:c<h
  ·rw[s1 a b h1 h2,s1 a c h1 h3,s1 b c h2 h3,s1 _ _ (F.lt a b h1 h2) h3,s1 _ _ (F.lt a c h1 h3) (F.lt b c h2 h3)];exact F.r3 a b c h1 h2 h3
  ·obtain⟨c,rfl⟩:=up c (by omega)
   rw[s1 a b h1 h2,s3 a c h1,s3 b c h2,s3 _ c (F.lt a b h1 h2),s1 a b h1 h2]
  ·obtain⟨b,rfl⟩:=up b (by omega)
   rw[s3 a b h1,s4 b c h3,s1 a c h1 h3,s3 _ b (F.lt a c h1 h3)]
  ·obtain⟨b,rfl⟩:=up b (by omega);obtain⟨c,rfl⟩:=up c (by omega)
   rw[s3 a b h1,s3 a c h1,s2 b c,s3 _ _ h1]
  ·obtain⟨a,rfl⟩:=up a (by omega)
   rw[s4 a b h2,s4 a c h3,s1 b c h2 h3,s4 _ _ (F.lt b c h2 h3)]
  ·obtain⟨a,rfl⟩:=up a (by omega);obtain⟨c,rfl⟩:=up c (by omega)
   rw[s4 a b h2,s2 a c,s3 b c h2,s4 _ _ h2]
  ·obtain⟨a,rfl⟩:=up a (by omega);obtain⟨b,rfl⟩:=up b (by omega)
   rw[s2 a b,s4 _ c h3,s4 a c h3,s4 b c h3,s2 a b]
  ·obtain⟨a,rfl⟩:=up a (by omega);obtain⟨b,rfl⟩:=up b (by omega);obtain⟨c,rfl⟩:=up c (by omega)
   rw[s2 a b,s2 a c,s2 b c,s2,s2,G.r3 a b c (by omega) (by omega) (by omega)]
noncomputable def CJ (way n k a b:Int):Int:=
 if way=1 then(2*b-a) % n else if way=2 then(k*a+(1-k)*b) % n else if way=3/\n > 2/\a<2/\b=n-1 then 1-a else
 if way=6/\a<n-1/\b=n-1 then(a+1) % (n-1) else if way=4/\a<n/2/\b<n/2 then(2*b-a) % (n/2) else
 if way=4/\a≥n/2/\b≥n/2 then n/2+(2*b-a-n/2) % (n-n/2) else a
noncomputable def Gu (way k:Int)(n a b:Nat):Nat:=(CJ way n k a b).toNat
theorem Kb (n:Int)(a b:Int):(2*b-a) % n=Bh (-1) n a b:=by
 unfold Bh
 congr 1
 omega
theorem Bx {way k:Int}{n:Nat}(hn:0<n)(hk:Int.gcd k n=1):GoodF n (Gu way k n)/\∀a b,a<n->b<n->((Gu way k n a b:Nat):Int)=CJ way n k a b:=by
 suffices h:∃f,GoodF n f/\∀a b,a<n->b<n->((f a b:Nat):Int)=CJ way n k a b by
  obtain⟨f,g,e⟩:=h
  have e2:∀a b,a<n->b<n->Gu way k n a b=f a b:=λa b ha hb=>by unfold Gu;rw[←e a b ha hb];omega
  exact⟨g.congr e2,λa b ha hb=>by rw[e2 a b ha hb];exact e a b ha hb⟩
 unfold CJ
 by_cases w1:way=1
 ·refine⟨_,Kj (k:= -1) hn De,λa b ha hb=>?_⟩
  rw[if_pos w1,X6 hn,Kb]
 by_cases w2:way=2
 ·refine⟨_,Kj (k:=k) hn (DU hk),λa b ha hb=>?_⟩
  rw[if_neg w1,if_pos w2,X6 hn];rfl
 by_cases w3:way=3
 ·refine⟨_,B6 n,λa b ha hb=>?_⟩
  rw[if_neg w1,if_neg w2]
  by_cases c:2<n/\a<2/\b+1=n
  ·rw[if_pos c,if_pos ⟨w3,by omega,by omega,by omega⟩];omega
  ·rw[if_neg c,if_neg (λz=>c ⟨by omega,by omega,by omega⟩),if_neg (λz=>by omega),if_neg (λz=>by omega),if_neg (λz=>by omega)]
 by_cases w6:way=6
 ·refine⟨_,DY n,λa b ha hb=>?_⟩
  have n3:¬(way=3/\(n:Int) > 2/\(a:Int)<2/\(b:Int)=n-1):=λz=>w3 z.1
  by_cases c:a+1<n/\b+1=n
  ·have y6:way=6/\(a:Int)<n-1/\(b:Int)=n-1:=⟨w6,by omega,by omega⟩
   rw[if_pos c,if_neg w1,if_neg w2,if_neg n3,if_pos y6]
   by_cases c2:a+2<n
   ·rw[if_pos c2,Int.emod_eq_of_lt (by omega) (by omega)];omega
   ·rw[if_neg c2]
    have:(a:Int)+1=(n:Int)-1:=by omega
    rw[this,Int.emod_self];rfl
  ·rw[if_neg c,if_neg w1,if_neg w2,if_neg n3,if_neg (λz=>c ⟨by omega,by omega⟩),if_neg (λz=>by omega),if_neg (λz=>by omega)]
 by_cases w4:way=4
 ·have hh:∀m:Nat,0<m->GoodF m (Hz (-1) m):=λm hm=>Kj hm De
  by_cases h0:n/2=0
  ·have hn1:n=1:=by omega
   subst hn1
   refine⟨_,Ji 1,λa b ha hb=>?_⟩
   have:a=0:=by omega
   have:b=0:=by omega
   subst a b
   rw[if_neg w1,if_neg w2,if_neg (λz=>w3 z.1),if_neg (λz=>w6 z.1),if_neg (λz=>by omega),if_pos ⟨w4,by omega,by omega⟩]
   decide
  ·have g:=Bs (hh (n/2) (by omega)) (hh (n-n/2) (by omega))
   rw[show n/2+(n-n/2)=n by omega] at g
   refine⟨_,g,λa b ha hb=>?_⟩
   have hc:((n/2:Nat):Int)=(n:Int)/2:=by omega
   rw[if_neg w1,if_neg w2,if_neg (λz=>w3 z.1),if_neg (λz=>w6 z.1)]
   unfold Ue
   by_cases c1:a<n/2/\b<n/2
   ·rw[if_pos c1,if_pos ⟨w4,by omega,by omega⟩,X6 (by omega), ←Kb,hc]
   ·have m4:¬(way=4/\(a:Int)<(n:Int)/2/\(b:Int)<(n:Int)/2):=λz=>c1 ⟨by omega,by omega⟩
    rw[if_neg c1,if_neg m4]
    by_cases c2:n/2<=a/\n/2<=b
    ·have y4:way=4/\(a:Int)≥(n:Int)/2/\(b:Int)≥(n:Int)/2:=⟨w4,by omega,by omega⟩
     rw[if_pos c2,if_pos y4]
     have hm:(((n-n/2:Nat)):Int)=(n:Int)-(n:Int)/2:=by omega
     have:=X6 (k:=-1) (n:=n-n/2) (by omega) (a-n/2) (b-n/2)
     rw[←Kb,hm] at this
     rw[show 2*(b:Int)-a-(n:Int)/2=2*((b-n/2:Nat):Int)-((a-n/2:Nat):Int) by omega, ←this]
     omega
    ·rw[if_neg c2,if_neg (λz=>c2 ⟨by omega,by omega⟩)]
 refine⟨_,Ji n,λa b ha hb=>?_⟩
 rw[if_neg w1,if_neg w2,if_neg (λz=>w3 z.1),if_neg (λz=>w6 z.1),if_neg (λz=>w4 z.1),if_neg (λz=>w4 z.1)]
noncomputable def JM (a b:Nat):Nat:=(([[0,3,1,2],[2,1,3,0],[3,0,2,1],[1,2,0,3]]:List (List Nat)).getD a []).getD b 0
theorem EV:GoodF 4 JM:=by
 have h1:∀a,a<4->∀b,b<4->JM a b<4:=by decide+kernel
 have h2:∀b,b<4->∀x,x<4->∀y,y<4->JM x b=JM y b->x=y:=by decide+kernel
 have h3:∀a,a<4->JM a a=a:=by decide+kernel
 have h4:∀a,a<4->∀b,b<4->∀c,c<4->JM (JM a b) c=JM (JM a c) (JM b c):=by decide+kernel
 exact⟨⟨λa b ha hb=>h1 a ha b hb,λx y b hx hy hb=>h2 b hb x hx y hy⟩,h3,λa b c ha hb hc=>h4 a ha b hb c hc⟩
theorem HR:Yk 4 JM=[[0,3,1,2],[2,1,3,0],[3,0,2,1],[1,2,0,3]]:=by decide+kernel
end My
namespace My
open PySem L2
theorem Q7 {n:Nat}{f:Nat->Nat->Nat}{a:Nat}(h:a<n):atR (Yk n f) (a:Int)= .ok (Zd n f a):=X9 (QX h)
theorem Uy {n:Nat}{f:Nat->Nat->Nat}{a b:Nat}(h:b<n):atR (Zd n f a) (b:Int)= .ok (f a b:Int):=X9 (Za h)
theorem Vi {α:Type}{as:List α}{i:Nat}{a:α}(h:i<as.length):Ua as (i:Int) a= .ok (as.set i a):=by
 unfold Ua ixN
 rw[if_pos (by omega),if_pos (by omega)]
 simp
theorem Me {n:Nat}{f:Nat->Nat->Nat}{a b v:Nat}:(Zd n f a).set b (v:Int)=Zd n (λx y=>if x=a/\y=b then v else f x y) a:=by
 apply List.ext_getElem?
 intro j
 by_cases hj:j<n
 ·rw[Za hj]
  by_cases e:j=b
  ·subst e;rw[List.getElem?_set_self (by rw[XD];exact hj)];simp
  ·rw[List.getElem?_set_ne (λz=>e z.symm),Za hj];simp[e]
 ·rw[List.getElem?_eq_none (by rw[List.length_set,XD];omega),List.getElem?_eq_none (by rw[XD];omega)]
theorem ME {n:Nat}{f:Nat->Nat->Nat}{a b v:Nat}(ha:a<n):(Yk n f).set a ((Zd n f a).set b (v:Int))=Yk n (λx y=>if x=a/\y=b then v else f x y):=by
 apply List.ext_getElem?
 intro j
 by_cases hj:j<n
 ·rw[QX hj]
  by_cases e:j=a
  ·subst e;rw[List.getElem?_set_self (by rw[XB];exact hj),Me]
  ·rw[List.getElem?_set_ne (λz=>e z.symm),QX hj]
   congr 1
   exact Vs λy _=>by simp[e]
 ·rw[List.getElem?_eq_none (by rw[List.length_set,XB];omega),List.getElem?_eq_none (by rw[XB];omega)]
noncomputable def GB (n:Nat)(sp:List Int)(p q:Nat->Nat):Prop:=PermN n p q/\sp=(List.range n).map λi=>((p i:Nat):Int)
theorem GB.get {n:Nat}{sp:List Int}{p q:Nat->Nat}(h:GB n sp p q){i:Nat}(hi:i<n):atR sp (i:Int)= .ok ((p i:Nat):Int):=X9 (by rw[h.2,List.getElem?_map,List.getElem?_range hi];rfl)
theorem Ht {as:List Int}{i:Nat}(h:i<as.length)(hl:as.length<=100000):HC as (i:Int)= .ok (as[i],as.eraseIdx i):=by
 unfold HC
 rw[Xr (by omega)]
 have e:seqIndex? (i:Int) as.length=some i:=by
  unfold seqIndex?
  have h0:¬((i:Int)<0):=by omega
  simp[h0,h]
 rw[e]
 simp[h]
theorem IU {n:Nat}{sp:List Int}(h:sp.Perm ((List.range n).map λ(i:Nat)=>(i:Int))):∃p q,GB n sp p q:=by
 have hl:sp.length=n:=by have:=h.length_eq;simpa using this
 have hlt:∀i,i<n->∃k:Nat,k<n/\sp[i]?=some (k:Int):=λi hi=>by
  have hm:sp[i]'(by omega)∈(List.range n).map λ(i:Nat)=>(i:Int):=h.mem_iff.mp (List.getElem_mem _)
  obtain⟨k,hk,e⟩:=Yy hm
  exact⟨k,hk,by rw[List.getElem?_eq_getElem (by omega),e]⟩
 let p:Nat->Nat:=λi=>(sp[i]?.getD 0).toNat
 have hp:∀i,i<n->p i<n/\sp[i]?=some (p i:Int):=λi hi=>by
  obtain⟨k,hk,e⟩:=hlt i hi
  have:p i=k:=by simp[p,e]
  rw[this];exact⟨hk,e⟩
 have nd:sp.Nodup:=h.nodup_iff.mpr (by
  rw[List.nodup_iff_pairwise_ne,List.pairwise_map]
  exact List.nodup_range.imp fun {a b} h e=>h (by omega))
 obtain⟨q,hq⟩:=Ms (n:=n) (p:=p) (λa ha=>(hp a ha).1) λa b ha hb e=>by
  have h1:=(hp a ha).2
  have h2:=(hp b hb).2
  rw[←e] at h2
  exact(List.getElem?_inj (by omega) nd).mp (h1.trans h2.symm)
 refine⟨p,q,hq,?_⟩
 apply List.ext_getElem?
 intro i
 by_cases hi:i<n
 ·rw[(hp i hi).2,List.getElem?_map,List.getElem?_range hi];rfl
 ·rw[List.getElem?_eq_none (by omega),List.getElem?_eq_none (by simp;omega)]
theorem Jh:∀{as:List Int}{i:Nat} (h:i<as.length),(as[i]::as.eraseIdx i).Perm as
 |a::as,0,_=>by simp
 |a::as,i+1,h=>by
  have:=Jh (as:=as) (i:=i) (by simpa using h)
  simp only[List.getElem_cons_succ,List.eraseIdx_cons_succ]
  exact(List.Perm.swap _ _ _).trans (this.cons a)
theorem IR {α:Type}(as:List α){k:Nat}(h:k<=as.length):CY as (some (k:Int)) none=as.drop k:=by
 unfold CY
 rw[HT.sIx_nat,HT.sIx_none,Nat.min_eq_left h,List.take_of_length_le (by rw[List.length_drop];omega)]
end My
namespace My
theorem Qc (names:List Int):(names.flatMap λx=>[x,-x]).length=2*names.length:=by
 induction names with
 |nil=>rfl
 |cons x r ih=>rw[List.flatMap_cons,List.length_append,ih];simp;omega
theorem Jq {α:Type}:∀{l:List α}{k:Nat}{y:α},l[k]?=some y->(y::l.eraseIdx k).Perm l
 | [],_,_,e=>by simp at e
 |a::r,0,y,e=>by
  have e':a=y:=by simpa using e
  subst e';exact List.Perm.refl _
 |a::r,k+1,y,e=>by
  have e':r[k]?=some y:=by simpa using e
  show(y::a::r.eraseIdx k).Perm (a::r)
  exact(List.Perm.swap a y _).trans (List.Perm.cons a (Jq e'))
theorem K4 {α:Type}{l:List α}{k:Nat}{y:α}(e:l[k]?=some y):(l.eraseIdx k).length+1=l.length:=by
 have:=(Jq e).length_eq
 simpa using this
theorem F9 {α:Type}:∀{ws:List (List α)}{j:Nat}{w:List α}{y:α},ws[j]?=some w->((ws.set j (w++[y])).flatten).Perm (y::ws.flatten)
 | [],_,_,_,e=>by simp at e
 |a::r,0,w,y,e=>by
  have e':a=w:=by simpa using e
  subst e'
  show((a++[y])++r.flatten).Perm (y::(a++r.flatten))
  rw[List.append_assoc]
  exact List.perm_middle
 |a::r,j+1,w,y,e=>by
  have e':r[j]?=some w:=by simpa using e
  show(a++(r.set j (w++[y])).flatten).Perm (y::(a++r.flatten))
  exact(List.Perm.append_left a (F9 e')).trans List.perm_middle
theorem ES {α:Type}{ws:List (List α)}{j k:Nat}{w l:List α}{y:α}(e:ws[j]?=some w)(e3:l[k]?=some y):((ws.set j (w++[y])).flatten++l.eraseIdx k).Perm (ws.flatten++l):=by
 refine((F9 (y:=y) e).append_right _).trans ?_
 rw[List.cons_append]
 refine List.perm_middle.symm.trans ?_
 exact List.Perm.append_left _ (Jq e3)
theorem mem_set {α:Type}:∀{l:List α}{j:Nat}{v x:α},x∈l.set j v->x∈l∨x=v
 | [],_,_,_,h=>by simp at h
 |a::r,0,v,x,h=>by
  rw[List.set_cons_zero] at h
  rcases List.mem_cons.mp h with h |h
  ·exact .inr h
  ·exact .inl (List.mem_cons_of_mem _ h)
 |a::r,j+1,v,x,h=>by
  rw[List.set_cons_succ] at h
  rcases List.mem_cons.mp h with h |h
  ·exact .inl (by rw[h];exact List.mem_cons_self)
  ·rcases mem_set h with h |h
   ·exact .inl (List.mem_cons_of_mem _ h)
   ·exact .inr h
theorem Gr:∀{l:List Bool}{j:Nat},l[j]?=some false->(l.set j true).count false+1=l.count false
 | [],_,e=>by simp at e
 |a::r,0,e=>by
  have e':a=false:=by simpa using e
  subst e';simp
 |a::r,j+1,e=>by
  have e':r[j]?=some false:=by simpa using e
  have ih:=Gr e'
  rw[List.set_cons_succ,List.count_cons,List.count_cons]
  omega
end My
namespace My
noncomputable def FH (r:Int×Int)(at':Int):List Int:=if at'=r.1 then[r.2] else if at'=r.1+1 then[-r.2] else[]
noncomputable def Uj (r:Int×Int)(at':Int):Int:=if at'=r.1 then r.1+1 else if at'=r.1+1 then r.1 else at'
noncomputable def HP:List (Int×Int)->Int->Int
 | [],a=>a
 |r::rs,a=>HP rs (Uj r a)
noncomputable def GV:List (Int×Int)->Int->List Int
 | [],_=>[]
 |r::rs,a=>FH r a++GV rs (Uj r a)
theorem Ea (rs:List (Int×Int))(r:Int×Int):∀a,HP (rs++[r]) a=Uj r (HP rs a):=by
 induction rs with
 |nil=>intro a;rfl
 |cons q rs ih=>intro a;exact ih _
theorem Be (rs:List (Int×Int))(r:Int×Int):∀a,GV (rs++[r]) a=GV rs a++FH r (HP rs a):=by
 induction rs with
 |nil=>intro a;simp[GV,HP]
 |cons q rs ih=>intro a;simp[GV,HP,ih]
theorem FE {S:Int}{r:Int×Int}{a:Int}(h0:0<=r.1)(h1:r.1+1<S)(a0:0<=a)(a1:a<S):0<=Uj r a/\Uj r a<S:=by
 unfold Uj
 split
 ·omega
 ·split<;> omega
noncomputable def C8 (S:Nat):List Int:=(List.range S).map λ(k:Nat)=>(k:Int)
theorem Qo {S:Nat}{x:Int}:x∈C8 S↔0<=x/\x<(S:Int):=by
 unfold C8
 rw[List.mem_map]
 constructor
 ·rintro⟨k,hk,rfl⟩
  have:=List.mem_range.mp hk
  omega
 ·rintro⟨h0,h1⟩
  exact⟨x.toNat,List.mem_range.mpr (by omega),by omega⟩
theorem ZM {α β:Type}{f:α->β}:∀{l:List α},(∀a b,a∈l->b∈l->f a=f b->a=b)->l.Nodup->(l.map f).Nodup
 | [],_,_=>List.nodup_nil
 |a::r,h,nd=>by
  rw[List.map_cons,List.nodup_cons]
  refine⟨λm=>?_,ZM (λx y hx hy=>h x y (List.mem_cons_of_mem _ hx) (List.mem_cons_of_mem _ hy)) (List.nodup_cons.mp nd).2⟩
  obtain⟨b,hb,e⟩:=List.mem_map.mp m
  have:=h b a (List.mem_cons_of_mem _ hb) List.mem_cons_self e
  exact(List.nodup_cons.mp nd).1 (by rw[←this];exact hb)
theorem Qn (S:Nat):(C8 S).Nodup:=ZM (λa b _ _ e=>by omega) List.nodup_range
theorem Jw {α:Type}[DecidableEq α]:∀{l m:List α},l.Nodup->m.Nodup->(∀x,x∈l↔x∈m)->l.Perm m
 | [],m,_,_,h=>by
  cases m with
  |nil=>exact List.Perm.refl _
  |cons a r=>exact absurd ((h a).mpr List.mem_cons_self) (by simp)
 |a::r,m,nl,nm,h=>by
  have ha:a∈m:=(h a).mp List.mem_cons_self
  have hp:m.Perm (a::m.erase a):=List.perm_cons_erase ha
  refine List.Perm.trans (List.Perm.cons a ?_) hp.symm
  have nd2:(a::m.erase a).Nodup:=hp.nodup_iff.mp nm
  refine Jw (List.nodup_cons.mp nl).2 (List.nodup_cons.mp nd2).2 λx=>?_
  constructor
  ·intro hx
   have hxa:x≠a:=λe=>(List.nodup_cons.mp nl).1 (by rw[←e];exact hx)
   have:x∈a::m.erase a:=hp.mem_iff.mp ((h x).mp (List.mem_cons_of_mem _ hx))
   exact(List.mem_cons.mp this).resolve_left hxa
  ·intro hx
   have hxa:x≠a:=λe=>(List.nodup_cons.mp nd2).1 (e▸hx)
   have:x∈a::r:=(h x).mpr (hp.mem_iff.mpr (List.mem_cons_of_mem _ hx))
   exact(List.mem_cons.mp this).resolve_left hxa
theorem Hv {S:Nat}{r:Int×Int}(h0:0<=r.1)(h1:r.1+1<(S:Int)):((C8 S).map (Uj r)).Perm (C8 S):=by
 refine Jw (ZM (λa b _ _ e=>?_) (Qn S)) (Qn S) λx=>?_
 ·unfold Uj at e
  split at e<;> split at e<;> (try split at e)<;> (try split at e)<;> omega
 ·rw[List.mem_map,Qo]
  constructor
  ·rintro⟨a,ha,rfl⟩
   have:=Qo.mp ha
   exact FE h0 h1 this.1 this.2
  ·rintro⟨x0,x1⟩
   refine⟨Uj r x,Qo.mpr (FE h0 h1 x0 x1),?_⟩
   unfold Uj
   split<;> (try split)<;> (try split)<;> omega
theorem Zr {α β:Type}(f:α->List β){l m:List α}(h:l.Perm m):(l.flatMap f).Perm (m.flatMap f):=by
 induction h with
 |nil=>exact List.Perm.refl _
 |cons x _ ih=>rw[List.flatMap_cons,List.flatMap_cons];exact List.Perm.append_left _ ih
 |swap x y l=>
  rw[List.flatMap_cons,List.flatMap_cons,List.flatMap_cons,List.flatMap_cons, ←List.append_assoc, ←List.append_assoc]
  exact List.Perm.append_right _ List.perm_append_comm
 |trans _ _ ih1 ih2=>exact ih1.trans ih2
theorem VD {α β:Type}(f g:α->List β):∀l:List α,(l.flatMap λx=>f x++g x).Perm (l.flatMap f++l.flatMap g)
 | []=>List.Perm.refl _
 |a::r=>by
  rw[List.flatMap_cons,List.flatMap_cons,List.flatMap_cons]
  refine(List.Perm.append_left _ (VD f g r)).trans ?_
  rw[List.append_assoc,List.append_assoc]
  refine List.Perm.append_left _ ?_
  rw[←List.append_assoc, ←List.append_assoc]
  exact List.Perm.append_right _ List.perm_append_comm
theorem flatMap_nil {α β:Type}(f:α->List β):∀{l:List α},(∀x∈l,f x=[])->l.flatMap f=[]
 | [],_=>rfl
 |a::r,h=>by rw[List.flatMap_cons,h a List.mem_cons_self,flatMap_nil f λx hx=>h x (List.mem_cons_of_mem _ hx)];rfl
theorem II {S:Nat}{r:Int×Int}(h0:0<=r.1)(h1:r.1+1<(S:Int)):((C8 S).flatMap (FH r)).Perm [r.2,-r.2]:=by
 have ha:r.1∈C8 S:=Qo.mpr ⟨h0,by omega⟩
 have hp:=List.perm_cons_erase ha
 have nd:=hp.nodup_iff.mp (Qn S)
 have hb:r.1+1∈(C8 S).erase r.1:=by
  have:r.1+1∈r.1::(C8 S).erase r.1:=hp.mem_iff.mp (Qo.mpr ⟨by omega,h1⟩)
  exact(List.mem_cons.mp this).resolve_left (by omega)
 have hq:=List.perm_cons_erase hb
 have nd2:=hq.nodup_iff.mp (List.nodup_cons.mp nd).2
 refine(Zr _ (hp.trans (List.Perm.cons _ hq))).trans ?_
 rw[List.flatMap_cons,List.flatMap_cons,flatMap_nil]
 ·unfold FH
  rw[if_pos rfl,if_neg (by omega),if_pos rfl]
  exact List.Perm.refl _
 ·intro x hx
  have x2:x≠r.1+1:=λe=>(List.nodup_cons.mp nd2).1 (e▸hx)
  have x1:x≠r.1:=λe=>(List.nodup_cons.mp nd).1 (e▸hq.mem_iff.mpr (List.mem_cons_of_mem _ hx))
  unfold FH
  rw[if_neg x1,if_neg x2]
theorem QK {α β γ:Type}(f:α->β)(g:β->List γ)(l:List α):(l.map f).flatMap g=l.flatMap λx=>g (f x):=by
 induction l with
 |nil=>rfl
 |cons a r ih=>rw[List.map_cons,List.flatMap_cons,List.flatMap_cons,ih]
theorem DE {S:Nat}:∀{rs:List (Int×Int)},(∀r∈rs,0<=r.1/\r.1+1<(S:Int))->((C8 S).flatMap (GV rs)).Perm (rs.flatMap λr=>[r.2,-r.2])
 | [],_=>by rw[flatMap_nil (GV []) (λx _=>rfl)];exact List.Perm.refl _
 |r::rs,h=>by
  obtain⟨h0,h1⟩:=h r List.mem_cons_self
  rw[List.flatMap_cons]
  refine(VD (FH r) (λa=>GV rs (Uj r a)) (C8 S)).trans ?_
  refine List.Perm.append (II h0 h1) ?_
  rw[←QK (Uj r) (GV rs)]
  exact(Zr _ (Hv h0 h1)).trans (DE λq hq=>h q (List.mem_cons_of_mem _ hq))
theorem ML {x s:Int}(h:s=1∨s= -1): [x*s,-(x*s)].Perm [x,-x]:=by
 rcases h with h |h
 ·subst h;simp
 ·subst h
  have e1:x* -1= -x:=by omega
  have e2: -(-x)=x:=by omega
  rw[e1,e2]
  exact List.Perm.swap _ _ _
theorem Q9 {α β:Type}{f g:α->List β}:∀{l:List α},(∀x∈l,(f x).Perm (g x))->(l.flatMap f).Perm (l.flatMap g)
 | [],_=>List.Perm.refl _
 |a::r,h=>by
  rw[List.flatMap_cons,List.flatMap_cons]
  exact List.Perm.append (h a List.mem_cons_self) (Q9 λx hx=>h x (List.mem_cons_of_mem _ hx))
end My
namespace My
theorem Na {r:Int×Int}{a:Int}(h:a=r.1):FH r a=[r.2]:=by unfold FH;rw[if_pos h]
theorem Mk {r:Int×Int}{a:Int}(h:a=r.1+1):FH r a=[-r.2]:=by unfold FH;rw[if_neg (by omega),if_pos h]
theorem NF {r:Int×Int}{a:Int}(h:¬a=r.1)(h2:¬a=r.1+1):FH r a=[]:=by unfold FH;rw[if_neg h,if_neg h2]
theorem Nd {r:Int×Int}{a:Int}(h:a=r.1):Uj r a=r.1+1:=by unfold Uj;rw[if_pos h]
theorem M1 {r:Int×Int}{a:Int}(h:a=r.1+1):Uj r a=r.1:=by unfold Uj;rw[if_neg (by omega),if_pos h]
theorem Ny {r:Int×Int}{a:Int}(h:¬a=r.1)(h2:¬a=r.1+1):Uj r a=a:=by unfold Uj;rw[if_neg h,if_neg h2]
structure Done (S:Int)(seen:List Bool)(ps:List Int):Prop where
 nd:ps.Nodup
 at':∀p∈ps,0<=p/\p<S/\seen[p.toNat]?=some true
 of:∀q:Nat,seen[q]?=some true->(q:Int)∈ps
theorem Done.none (S:Int)(n:Nat):Done S (List.replicate n false) []:=
 ⟨List.nodup_nil,λp h=>by simp at h,λq h=>by
  rw[List.getElem?_replicate] at h
  split at h<;> cases h⟩
theorem Kh {l:List Bool}{j q:Nat}(h:l[q]?=some true):(l.set j true)[q]?=some true:=by
 by_cases e:j=q
 ·subst e
  rw[List.getElem?_set_self (List.getElem?_eq_some_iff.mp h).1]
 ·rw[List.getElem?_set_ne e];exact h
theorem Done.snoc {S:Int}{seen:List Bool}{ps:List Int}{a:Int}(h:Done S seen ps)(a0:0<=a)(a1:a<S)(e:seen[a.toNat]?=some false):Done S (seen.set a.toNat true) (ps++[a]):=by
 have hl:a.toNat<seen.length:=(List.getElem?_eq_some_iff.mp e).1
 have hn:a∉ps:=λm=>by
  have:=(h.at' a m).2.2
  rw[e] at this;cases this
 refine⟨?_,λp hp=>?_,λq hq=>?_⟩
 ·rw[List.nodup_append]
  refine⟨h.nd,by simp,λx hx y hy=>?_⟩
  rw[List.mem_singleton.mp hy]
  exact λe=>hn (e▸hx)
 ·rcases List.mem_append.mp hp with hp |hp
  ·obtain⟨h1,h2,h3⟩:=h.at' p hp
   exact⟨h1,h2,Kh h3⟩
  ·rw[List.mem_singleton.mp hp]
   exact⟨a0,a1,by rw[List.getElem?_set_self hl]⟩
 ·by_cases hqa:a.toNat=q
  ·exact List.mem_append_right _ (List.mem_singleton.mpr (by omega))
  ·rw[List.getElem?_set_ne hqa] at hq
   exact List.mem_append_left _ (h.of q hq)
theorem Done.all {S:Int}{seen:List Bool}{ps:List Int}(h:Done S seen ps)(hl:seen.length=S.toNat)(h0:0<=S)(ha:∀q:Nat,q<S.toNat->seen[q]?=some true):ps.Perm (C8 S.toNat):=by
 refine Jw h.nd (Qn _) λx=>?_
 rw[Qo]
 constructor
 ·intro hx
  obtain⟨h1,h2,_⟩:=h.at' x hx
  omega
 ·rintro⟨x0,x1⟩
  have:=h.of x.toNat (ha x.toNat (by omega))
  rw[show((x.toNat:Nat):Int)=x by omega] at this
  exact this
theorem DM {seen:List Bool}{i:Nat}(h:∀q:Nat,q<i->seen[q]?=some true)(hi:seen[i]?=some true):∀q:Nat,q<i+1->seen[q]?=some true:=λq hq=>by
 by_cases e:q=i
 ·subst e;exact hi
 ·exact h q (by omega)
end My
namespace My
open PySem L2
theorem Hy (ns:List Int){p:Int}(hp:0<=p):∃c,FW ns p= .ok c:=by
 unfold FW BS;dsimp only
 simp only[Rs.okb]
 by_cases h:p<(ns.length:Int)
 ·rw[decide_eq_true h,if_pos rfl]
  have hl:p.toNat<ns.length:=by omega
  exact⟨ns[p.toNat],Om hp (by simp[hl])⟩
 ·rw[decide_eq_false h,if_neg Bool.false_ne_true]
  obtain⟨g,e,_⟩:=U1 (as:=CY ns none (some 63)) (g:=(5:Int)) (f:=λg15 a17=>(Rs.bind (Rs.bind (Rs.bind (Rs.bind (M8 g15 48271) λx25=>(Rs.bind (Mg a17 1000003) λx26=>(Rs.ok (x25+x26)))) λx27=>Rs.ok (x27+1)) λx29=>Mg x29 2147483647) λa19=>(Rs.ok (a19)))) (λ_ _=>True) True.intro λi a g _ _=>by
   rw[Zb (by decide) (by decide),Rs.ok_bind,X7 (by decide),Rs.ok_bind,Rs.ok_bind,Rs.ok_bind,X7 (by decide),Rs.ok_bind]
   exact⟨_,rfl,True.intro⟩
  rw[e,Rs.ok_bind,YW (by decide) (by decide),Rs.ok_bind,Rs.ok_bind,X7 (by decide)]
  exact⟨_,rfl⟩
theorem LL (c:Int){k:Int}(h0:0<=k)(h1:k<=100000):∃y,IN c k= .ok y/\0<=y:=by
 unfold IN MW;dsimp only
 simp only[Rs.okb]
 have hm:0<=c % 2147483629/\c % 2147483629<2147483629:=⟨Int.emod_nonneg _ (by decide),Int.emod_lt_of_pos _ (by decide)⟩
 rw[X7 (by decide),Rs.ok_bind,YW (by decide) (by decide),Rs.ok_bind,Rs.ok_bind,Rs.ok_bind,Hu (by decide) (by decide) (by omega) (by omega),Rs.ok_bind,X7 (by decide),Rs.ok_bind]
 rw[Zb (by decide) (by decide),Rs.ok_bind,YW (by decide) (by decide),Rs.ok_bind,Zb (by omega) (by omega),Rs.ok_bind,Rs.ok_bind,Rs.ok_bind,X7 (by decide),Rs.ok_bind,F3 (by decide) (by decide)]
 exact⟨_,rfl,Int.ediv_nonneg (Int.emod_nonneg _ (by decide)) (by decide)⟩
theorem Lp (ns:List Int){p:Int}(hp:0<=p)(sizes:List Int)(hl:sizes.length<=100000)(hs:∀x∈sizes,0<x/\x<2^250):
  Ok (Bb ns p sizes) λr=>r.length=sizes.length/\∀(i:Nat) x s,r[i]?=some x->sizes[i]?=some s->0<=x/\x<s:=by
 obtain⟨c,ec⟩:=Hy ns hp
 unfold Bb Mw;dsimp only
 simp only[Rs.okb]
 rw[ec,show noE (Rs.ok c)= .ok c from rfl,Rs.ok_bind,Yo (by omega),Rs.ok_bind,Hu (by decide) (by decide) (by decide) (by decide)]
 simp only[Rs.okb]
 have key:∀(i:Nat) (a:Int) (g:List Int×Int),((List.range sizes.length).map λ(i:Nat)=>(i:Int))[i]?=some a->(g.1.length=i/\∀(j:Nat) x s,g.1[j]?=some x->sizes[j]?=some s->0<=x/\x<s)->∀y z:Int,∀s,sizes[i]?=some s->0<=y/\y<s->((g.1++[y],z).1.length=i+1/\∀(j:Nat) x s,(g.1++[y],z).1[j]?=some x->sizes[j]?=some s->0<=x/\x<s):=by
  intro i a g ha ⟨hg,hq⟩ y z s hs1 hy
  refine⟨by simp[hg],λj x s' hx hs'=>?_⟩
  have hx:(g.1++[y])[j]?=some x:=hx
  rcases Nat.lt_trichotomy j i with hj |hj |hj
  ·rw[List.getElem?_append_left (by omega)] at hx;exact hq j x s' hx hs'
  ·subst hj
   rw[List.getElem?_append_right (by omega),hg,Nat.sub_self] at hx
   have:y=x:=by simpa using hx
   rw[hs1] at hs'
   cases hs'
   rw[←this];exact hy
  ·rw[List.getElem?_eq_none (by simp;omega)] at hx;cases hx
 refine Ok.bind (Ok.forN (λi (g:List Int×Int)=>g.1.length=i/\∀(j:Nat) x s,g.1[j]?=some x->sizes[j]?=some s->0<=x/\x<s) ⟨rfl,λj x s h _=>by simp at h⟩ λi a g ha hg=>?_) (T:=λ(r:List Int)=>r.length=sizes.length/\∀(i:Nat) x s,r[i]?=some x->sizes[i]?=some s->0<=x/\x<s) λg ⟨hg,hq⟩=>?_
 ·obtain⟨rfl,hi⟩:=XZ ha
  have hsz:sizes[i]?=some sizes[i]:=by simp[hi]
  have hsp:=hs _ (List.getElem_mem hi)
  have hgl:g.1.length<sizeLine:=FK (by have:=hg.1;omega)
  by_cases hc:c<10^(18:Int).toNat
  ·rw[decide_eq_true hc,if_pos rfl]
   obtain⟨y,ey,hy⟩:=LL c (k:=(i:Int)) (by omega) (by omega)
   rw[ey,show noE (Rs.ok y)= .ok y from rfl,Rs.ok_bind,X9 hsz,Rs.ok_bind,X7 hsp.1,Rs.ok_bind,Xr hgl]
   exact⟨_,rfl,key i _ g ha hg _ _ _ hsz ⟨Int.emod_nonneg _ (by omega),Int.emod_lt_of_pos _ hsp.1⟩⟩
  ·rw[decide_eq_false hc,if_neg Bool.false_ne_true]
   by_cases hq:0<g.2
   ·rw[decide_eq_true hq,if_pos rfl,X9 hsz,Rs.ok_bind,X7 hsp.1,Rs.ok_bind,Xr hgl]
    simp only[Rs.okb]
    rw[F3 hsp.1 hsp.2]
    exact⟨_,rfl,key i _ g ha hg _ _ _ hsz ⟨Int.emod_nonneg _ (by omega),Int.emod_lt_of_pos _ hsp.1⟩⟩
   ·rw[decide_eq_false hq,if_neg Bool.false_ne_true,X7 (by decide),Rs.ok_bind]
    obtain⟨c2,ec2⟩:=Hy ns (p:=(p+1+(i:Int)) % 63) (Int.emod_nonneg _ (by decide))
    obtain⟨y,ey,hy⟩:=LL c2 (k:=(i:Int)) (by omega) (by omega)
    rw[ec2,show noE (Rs.ok c2)= .ok c2 from rfl,Rs.ok_bind,ey,show noE (Rs.ok y)= .ok y from rfl,Rs.ok_bind,X9 hsz,Rs.ok_bind,X7 hsp.1,Rs.ok_bind,Xr hgl]
    exact⟨_,rfl,key i _ g ha hg _ _ _ hsz ⟨Int.emod_nonneg _ (by omega),Int.emod_lt_of_pos _ hsp.1⟩⟩
 ·rw[XS] at hg
  exact⟨g.1,rfl,hg,hq⟩
theorem Yv {α:Type}{r:List α}{k:Int}{n:Nat}(e:k=(n:Int))(h:n<r.length):atR r k= .ok r[n]:=by
 subst e;exact X9 (by simp[h])
theorem QN {γ:Type}{c:γ->Rs Bool}{f:γ->Rs γ}(P:γ->Prop)(μ:γ->Nat)(hs:∀g,P g->∃b,c g= .ok b/\(b=true->Ok (f g) λg'=>P g'/\μ g'<μ g)):∀(n:Nat) (g:γ),P g->μ g<n->Ok (VY n g c f) λg'=>P g'/\c g'= .ok false
 |0,_,_,h=>by omega
 |n+1,g,hp,hm=>by
  obtain⟨b,hb,h⟩:=hs g hp
  show Ok ((c g).bind _) _
  rw[hb,Rs.okb]
  cases b with
  |false=>rw[if_neg Bool.false_ne_true];exact⟨g,rfl,hp,hb⟩
  |true=>
   rw[if_pos rfl]
   exact Ok.bind (h rfl) λg' h'=>QN P μ hs n g' h'.1 (by omega)
theorem Ik {ns r:List Int}(hl:ns.length<=100)(hr:8*ns.length+3<=r.length):Ok (Kp ns r) λl=>l.Perm ns:=by
 unfold Kp GG;dsimp only
 simp only[Rs.okb]
 rw[Yo (by omega)]
 simp only[Rs.okb]
 refine Ok.bind (Ok.forN (λi (g:List Int×List Int)=>g.1.length=i/\(g.1++g.2).Perm ns) ⟨rfl,List.Perm.refl _⟩ λi a g ha hg=>?_) λg hg=>?_
 ·obtain⟨rfl,hi⟩:=XZ ha
  obtain⟨h1,h2⟩:=hg
  have hl:=h2.length_eq
  simp only[List.length_append] at hl
  rw[YW (by decide) (by decide)]
  simp only[Rs.okb]
  rw[Yv (r:=r) (n:=8*i+9) (by omega) (by omega)]
  simp only[Rs.okb]
  have hpos:(0:Int)<(g.2.length:Int):=by omega
  generalize r[8*i+9]=y
  have hm1:=Int.emod_nonneg y (show(g.2.length:Int)≠0 by omega)
  have hm2:=Int.emod_lt_of_pos y hpos
  rw[X7 hpos,Rs.okb]
  generalize hk:y % (g.2.length:Int)=k at hm1 hm2
  obtain⟨j,rfl⟩:∃j:Nat,k=j:=⟨k.toNat,by omega⟩
  have hj:j<g.2.length:=by omega
  rw[Ht hj (by omega),Rs.okb,Xr (FK (by omega))]
  refine⟨_,rfl,by simp[h1],?_⟩
  refine List.Perm.trans ?_ h2
  show((g.1++[g.2[j]])++g.2.eraseIdx j).Perm (g.1++g.2)
  rw[List.append_assoc]
  exact(Jh hj).append_left _
 ·obtain⟨h1,h2⟩:=hg
  rw[XS] at h1
  have hl:=h2.length_eq
  simp only[List.length_append] at hl
  have:g.2=[]:=List.length_eq_zero_iff.mp (by omega)
  rw[this,List.append_nil] at h2
  exact⟨_,rfl,h2⟩
theorem OA {ns r:List Int}{rings:Nat}(hl:ns.length<=100)(hr:8*ns.length+3<=r.length)(hg:ns≠ []->1<=rings)(hg2:rings<=100):Ok (HN ns r (rings:Int)) λws=>ws.length=rings/\ws.flatten.Perm (ns.flatMap λx=>[x,-x]):=by
 unfold HN M4;dsimp only
 simp only[Rs.okb]
 refine Ok.bind (Ok.forN (λi (g:List Int)=>g=(ns.take i).flatMap λx=>[x,-x]) rfl λi a g ha hg=>?_) λg hgg=>?_
 ·have hi:=(List.getElem?_eq_some_iff.mp ha).1
  subst hg
  rw[Xr (show[a,-a].length<=sizeLine from sz (by simp)),Rs.okb,Xr (sz (by rw[Qc];simp;omega))]
  refine⟨_,rfl,?_⟩
  rw[List.take_add_one,ha]
  simp
 rw[List.take_length] at hgg
 subst hgg
 rw[Yo (by omega)]
 simp only[Rs.okb]
 rw[Zh (h:=λ_=>([]:List Int)) (sz (by simp;omega)) λ_ _=>rfl]
 simp only[Rs.okb]
 rw[YW (by decide) (by decide),Rs.okb,show(2:Int)*(ns.length:Int)=((2*ns.length:Nat):Int) by omega,Yo (by omega)]
 simp only[Rs.okb]
 refine Ok.bind (Ok.forN (λi (g:List Int×List (List Int))=>g.2.length=rings/\g.1.length+i=2*ns.length/\(∀w∈g.2,w.length<=i)/\(g.2.flatten++g.1).Perm (ns.flatMap λx=>[x,-x])) ⟨by simp,by rw[Qc];rfl,λw hw=>?_,?_⟩ λi a g ha hg=>?_) λg hg=>?_
 ·obtain⟨_,_,rfl⟩:=List.mem_map.mp hw
  exact Nat.zero_le _
 ·have:∀l:List Int,(l.map λ_=>([]:List Int)).flatten=[]:=λl=>by simp
  rw[this];exact List.Perm.refl _
 ·obtain⟨rfl,hi⟩:=XZ ha
  obtain⟨h1,h2,h3,h4⟩:=hg
  have hne:1<=rings:=by
   refine ‹ns≠ []->1<=rings› λe=>?_
   rw[e] at hi;simp at hi
  rw[YW (by decide) (by decide)]
  simp only[Rs.okb]
  rw[Yv (r:=r) (n:=4*i+5) (by omega) (by omega)]
  simp only[Rs.okb]
  have hpos:(0:Int)<(g.1.length:Int):=by omega
  generalize r[4*i+5]=y
  have hm1:=Int.emod_nonneg y (show(g.1.length:Int)≠0 by omega)
  have hm2:=Int.emod_lt_of_pos y hpos
  rw[X7 hpos,Rs.okb]
  generalize hk:y % (g.1.length:Int)=k at hm1 hm2
  obtain⟨j,rfl⟩:∃j:Nat,k=j:=⟨k.toNat,by omega⟩
  have hj:j<g.1.length:=by omega
  rw[Ht hj (by omega),Rs.okb]
  simp only[Rs.okb]
  rw[Yv (r:=r) (n:=4*i+6) (by omega) (by omega)]
  simp only[Rs.okb]
  generalize r[4*i+6]=y2
  have hp2:(0:Int)<(rings:Int):=by omega
  have hn1:=Int.emod_nonneg y2 (show(rings:Int)≠0 by omega)
  have hn2:=Int.emod_lt_of_pos y2 hp2
  rw[X7 hp2,Rs.okb]
  generalize hk2:y2 % (rings:Int)=k2 at hn1 hn2
  obtain⟨q,rfl⟩:∃q:Nat,k2=q:=⟨k2.toNat,by omega⟩
  have hq:q<g.2.length:=by omega
  have hw:=h3 g.2[q] (List.getElem_mem hq)
  rw[Yv (n:=q) rfl hq,Rs.okb,Xr (FK (by omega)),Vi hq,Rs.okb]
  have hjs:g.1[j]?=some g.1[j]:=by simp[hj]
  have hqs:g.2[q]?=some g.2[q]:=by simp[hq]
  refine⟨_,rfl,by simp[h1],?_,λw hw'=>?_,(ES hqs hjs).trans h4⟩
  ·have:=K4 hjs
   show(g.1.eraseIdx j).length+(i+1)=_
   omega
  ·rcases mem_set hw' with h |h
   ·have:=h3 w h;omega
   ·rw[h];simp;omega
 ·obtain⟨h1,h2,h3,h4⟩:=hg
  rw[XS] at h2
  have:g.1=[]:=List.length_eq_zero_iff.mp (by omega)
  rw[this,List.append_nil] at h4
  exact⟨_,rfl,h1,h4⟩
noncomputable def Vx (ns r:List Int)(sg:Int->Int)(S:Int):List (Int×Int):=(List.range ns.length).map λk=>(r.getD (8*k+10) 0 % (S-1),ns.getD k 0*sg (ns.getD k 0))
theorem CG {ns r:List Int}{sg:Int->Int}{S:Int}{k:Nat}(h:k<ns.length)(h2:8*k+10<r.length):(Vx ns r sg S)[k]?=some (r[8*k+10] % (S-1),ns[k]*sg ns[k]):=by
 unfold Vx
 rw[List.getElem?_map,List.getElem?_range h]
 simp[h,h2]
theorem CQ {ns r:List Int}{d:List (Int×Int)}{sg:Int->Int}{S:Nat}(hl:ns.length<=100)(hr:8*ns.length+3<=r.length)(hd:∀x∈ns,Y9 d x=some (sg x))(hs:∀x∈ns,sg x=1∨sg x= -1)(h2:2<=S)(h4:S<=100):Ok (Jb ns d r (S:Int)) λws=>ws.length<=S/\ws.flatten.Perm (ns.flatMap λx=>[x,-x]):=by
 have hrs:∀q∈Vx ns r sg (S:Int),0<=q.1/\q.1+1<(S:Int):=λq hq=>by
  obtain⟨k,_,rfl⟩:=List.mem_map.mp hq
  have hp:(0:Int)<(S:Int)-1:=by omega
  have hm1:=Int.emod_nonneg (r.getD (8*k+10) 0) (show((S:Int)-1)≠0 by omega)
  have hm2:=Int.emod_lt_of_pos (r.getD (8*k+10) 0) hp
  show 0<=_ % _/\_ % _+1<_
  omega
 have hrl:(Vx ns r sg (S:Int)).length=ns.length:=by simp[Vx]
 have hin:∀(rs:List (Int×Int)),(∀q∈rs,0<=q.1/\q.1+1<(S:Int))->∀a:Int,0<=a->a<(S:Int)->0<=HP rs a/\HP rs a<(S:Int):=by
  intro rs
  induction rs with
  |nil=>intro _ a h0 h1;exact⟨h0,h1⟩
  |cons q rs ih=>
   intro hq a h0 h1
   have h:=FE (hq q (by simp)).1 (hq q (by simp)).2 h0 h1
   exact ih (λx hx=>hq x (by simp[hx])) _ h.1 h.2
 have hcl:∀(rs:List (Int×Int)) (a:Int),(GV rs a).length<=rs.length:=by
  intro rs
  induction rs with
  |nil=>intro a;exact Nat.le_refl _
  |cons q rs ih=>
   intro a
   show(FH q a++GV rs (Uj q a)).length<=_
   have h1:(FH q a).length<=1:=by
    unfold FH
    split
    ·simp
    ·split<;> simp
   have:=ih (Uj q a)
   simp only[List.length_append,List.length_cons]
   omega
 unfold Jb Vv;dsimp only
 simp only[Rs.okb]
 rw[Xr (show[false].length<=sizeLine from sz (by simp)),Rs.okb,show Bm [false] (S:Int)= .ok (List.replicate S false) from ?_]
 rotate_left
 ·unfold Bm
  rw[Xr ⟨by omega,by omega,sz (by simp;omega)⟩,Int.toNat_natCast]
  congr 1
  clear h2 h4 hrs hin hrl
  induction S with
  |zero=>rfl
  |succ n ih=>rw[List.replicate_succ,List.flatten_cons,ih,List.replicate_succ];rfl
 rw[Rs.okb,Yo (by omega),Rs.okb]
 generalize hR:Vx ns r sg (S:Int)=rs at hrs hrl
 refine Ok.bind (Ok.forN (λi (g:List Bool×List (List Int))=>g.1.length=S/\g.2.length<=i/\(∀q:Nat,q<i->g.1[q]?=some true)/\∃ps,Done (S:Int) g.1 ps/\g.2.flatten=ps.flatMap (GV rs)) ⟨by simp,Nat.le_refl _,λq hq=>by omega,[],Done.none _ _,rfl⟩ λi a g ha hg=>?_) λg hg=>?_
 ·obtain⟨rfl,hi⟩:=XZ ha
  obtain⟨g1,g2,g3,ps,g4,g5⟩:=hg
  have hi1:i<g.1.length:=by omega
  rw[Yv (n:=i) rfl hi1]
  simp only[Rs.okb]
  cases hb:g.1[i] with
  |true=>
   rw[show(!true)=false from rfl,if_neg Bool.false_ne_true]
   simp only[Rs.okb]
   exact⟨_,rfl,g1,by show g.2.length<=_;omega,DM g3 (by simp[hi1,hb]),ps,g4,g5⟩
  |false=>
   rw[show(!false)=true from rfl,if_pos rfl]
   refine Ok.bind (R:=λg':List Bool×List (List Int)=>g'.1.length=S/\g'.2.length<=i+1/\(∀q:Nat,q<i+1->g'.1[q]?=some true)/\∃ps,Done (S:Int) g'.1 ps/\g'.2.flatten=ps.flatMap (GV rs)) (Ok.bind (QN (λg':List Bool×Int×List Int=>g'.1.length=S/\0<=g'.2.1/\g'.2.1<(S:Int)/\(∀q:Nat,g.1[q]?=some true->g'.1[q]?=some true)/\((g'.2.1=(i:Int)/\g'.1[i]?=some false)∨g'.1[i]?=some true)/\g'.2.2.length+100*g'.1.count false<=100*S/\∃qs,Done (S:Int) g'.1 (ps++qs)/\g'.2.2=qs.flatMap (GV rs)) (λg'=>g'.1.count false) (λg' hg'=>?_) _ (g.1,(i:Int),[]) ⟨g1,by show(0:Int)<=(i:Int);omega,by show(i:Int)<(S:Int);omega,λq h=>h, .inl ⟨rfl,by simp[hi1,hb]⟩,by
    have:g.1.count false<=g.1.length:=List.count_le_length
    show 0+100*g.1.count false<=100*S
    omega,[],by rw[List.append_nil];exact g4,rfl⟩ ?_) λg' hg'=>?_) λg' hg'=>?_
   ·obtain⟨w1,w2,w3,w4,w5,w8,qs,w6,w7⟩:=hg'
    obtain⟨p,hp⟩:∃p:Nat,g'.2.1=(p:Int):=⟨g'.2.1.toNat,by omega⟩
    have hpl:p<g'.1.length:=by omega
    rw[Yv hp hpl]
    refine⟨_,rfl,λhf=>?_⟩
    have hf':g'.1[p]=false:=by simpa using hf
    have hfs:g'.1[p]?=some false:=by simp[hpl,hf']
    rw[hp,Vi hpl]
    simp only[Rs.okb]
    rw[Yo (by omega)]
    simp only[Rs.okb]
    refine Ok.bind (Ok.forN (λk (h:Int×List Int)=>h.1=HP (rs.take k) (p:Int)/\h.2=g'.2.2++GV (rs.take k) (p:Int)) ⟨rfl,by rw[List.take_zero];exact(List.append_nil _).symm⟩ λk b h hb' hh=>?_) λh hh=>?_
    ·obtain⟨rfl,hk⟩:=XZ hb'
     obtain⟨e1,e2⟩:=hh
     have hq:=CG (sg:=sg) (S:=(S:Int)) hk (show 8*k+10<r.length by omega)
     rw[hR] at hq
     have hts:rs.take (k+1)=rs.take k++[(r[8*k+10] % ((S:Int)-1),ns[k]*sg ns[k])]:=by rw[List.take_add_one,hq];rfl
     rw[hts,Ea,Be, ←e1]
     rw[YW (by decide) (by decide)]
     simp only[Rs.okb]
     rw[Yv (r:=r) (n:=8*k+10) (by omega) (by omega)]
     simp only[Rs.okb]
     rw[X7 (by omega)]
     simp only[Rs.okb]
     rw[Yv (r:=ns) (n:=k) rfl hk]
     simp only[Rs.okb]
     have hgd:GN d ns[k]= .ok (sg ns[k]):=by unfold GN;rw[hd _ (List.getElem_mem hk)];rfl
     have hsg:=hs _ (List.getElem_mem hk)
     rw[hgd]
     simp only[Rs.okb]
     rw[Zb (a:=ns[k]) (by omega) (by omega),Zb (a:=-ns[k]) (by omega) (by omega)]
     simp only[Rs.okb]
     have hlen:h.2.length<sizeLine:=FK (by
      have:=hcl (rs.take k) (p:Int)
      rw[List.length_take] at this
      rw[e2,List.length_append];omega)
     rw[Xr hlen,Xr hlen]
     generalize r[8*k+10] % ((S:Int)-1)=low
     by_cases c1:h.1=low
     ·rw[if_pos (decide_eq_true c1)]
      simp only[Rs.okb]
      refine⟨_,rfl,?_,?_⟩
      ·rw[Nd c1]
      ·rw[Na c1,e2,List.append_assoc]
     ·rw[if_neg (by rw[decide_eq_false c1];exact Bool.false_ne_true)]
      by_cases c2:h.1=low+1
      ·rw[if_pos (decide_eq_true c2)]
       simp only[Rs.okb]
       refine⟨_,rfl,?_,?_⟩
       ·rw[M1 c2]
       ·rw[Mk c2,e2,List.append_assoc,Int.neg_mul]
      ·rw[if_neg (by rw[decide_eq_false c2];exact Bool.false_ne_true)]
       simp only[Rs.okb]
       refine⟨_,rfl,?_,?_⟩
       ·rw[Ny c1 c2]
       ·rw[NF c1 c2,List.append_nil,e2]
    ·rw[XS, ←hrl,List.take_length] at hh
     obtain⟨e1,e2⟩:=hh
     have hpr:=hin rs hrs (p:Int) (by omega) (by omega)
     have hct:=Gr hfs
     have hcl':=hcl rs (p:Int)
     refine⟨_,rfl,⟨?_,?_,?_,?_,?_,?_,qs++[(p:Int)],?_,?_⟩,?_⟩
     ·show(g'.1.set p true).length=S
      rw[List.length_set];exact w1
     ·show 0<=h.1
      rw[e1];exact hpr.1
     ·show h.1<_
      rw[e1];exact hpr.2
     ·exact λq hq=>Kh (w4 q hq)
     ·refine .inr ?_
      show(g'.1.set p true)[i]?=some true
      rcases w5 with⟨h1,_⟩ |h1
      ·have:p=i:=by omega
       subst this
       rw[List.getElem?_set_self hpl]
      ·exact Kh h1
     ·show h.2.length+100*(g'.1.set p true).count false<=100*S
      rw[e2,List.length_append];omega
     ·rw[←List.append_assoc]
      have:=w6.snoc (a:=(p:Int)) (by omega) (by omega) (by rw[Int.toNat_natCast];exact hfs)
      rwa [Int.toNat_natCast] at this
     ·show h.2=_
      rw[e2,w7,List.flatMap_append]
      simp
     ·show(g'.1.set p true).count false<g'.1.count false
      omega
   ·have:g.1.count false<=g.1.length:=List.count_le_length
    show g.1.count false<(S:Int).natAbs+2
    omega
   ·obtain⟨⟨w1,w2,w3,w4,w5,w8,qs,w6,w7⟩,hc⟩:=hg'
    obtain⟨p,hp⟩:∃p:Nat,g'.2.1=(p:Int):=⟨g'.2.1.toNat,by omega⟩
    have hpl:p<g'.1.length:=by omega
    rw[Yv hp hpl,Rs.okb] at hc
    have hc':g'.1[p]=true:=by
     have:=Rs.ok.inj hc
     simpa using this
    have h5:g'.1[i]?=some true:=by
     rcases w5 with⟨h1,h6⟩ |h1
     ·have:p=i:=by omega
      subst this
      rw[List.getElem?_eq_getElem hpl,hc'] at h6
      cases h6
     ·exact h1
    rw[Xr (FK (by omega))]
    refine⟨_,rfl,w1,?_,?_,ps++qs,w6,?_⟩
    ·show(g.2++[g'.2.2]).length<=_
     simp;omega
    ·exact DM (λq hq=>w4 q (g3 q hq)) h5
    ·show(g.2++[g'.2.2]).flatten=_
     rw[List.flatten_append,g5,List.flatMap_append,w7]
     simp
   ·exact⟨_,rfl,hg'⟩
 ·obtain⟨g1,g2,g3,ps,g4,g5⟩:=hg
  rw[XS] at g2 g3
  refine⟨_,rfl,g2,?_⟩
  rw[g5]
  refine(Zr _ (g4.all (by rw[g1];rfl) (by omega) λq hq=>g3 q (by omega))).trans ?_
  rw[Int.toNat_natCast]
  refine(DE hrs).trans ?_
  rw[←hR]
  unfold Vx
  rw[QK]
  have e:ns.flatMap (λx=>[x,-x])=(List.range ns.length).flatMap λk=>[ns.getD k 0,-(ns.getD k 0)]:=by
   have h:ns=(List.range ns.length).map λk=>ns.getD k 0:=List.ext_getElem (by simp) λj h1 h2=>by simp[h1]
   conv=>lhs;rw[h]
   rw[QK]
  rw[e]
  refine Q9 λk hk=>ML (hs _ ?_)
  have hk':=List.mem_range.mp hk
  simp[hk']
theorem Hj {α:Type}{l:List α}{m c:Nat}(hm:l.length=m)(hc:c<m):∀{n j:Nat},j<n->(List.replicate n l).flatten[m*j+c]?=l[c]?
 |0,_,h=>by omega
 |n+1,0,_=>by
  rw[List.replicate_succ,List.flatten_cons,Nat.mul_zero,Nat.zero_add,List.getElem?_append_left (by omega)]
 |n+1,j+1,h=>by
  rw[List.replicate_succ,List.flatten_cons,List.getElem?_append_right (by rw[hm,Nat.mul_succ];omega),hm,show m*(j+1)+c-m=m*j+c by rw[Nat.mul_succ];omega]
  exact Hj hm hc (by omega)
theorem BY {α:Type}(l:List α):∀n:Nat,(List.replicate n l).flatten.length=n*l.length
 |0=>by simp
 |n+1=>by rw[List.replicate_succ,List.flatten_cons,List.length_append,BY l n,Nat.succ_mul];omega
structure Drawn (most:Nat)(D:List (List Int)×List (Int×Int)):Prop where
 le:D.2.length<=most
 inc:(D.2.map Prod.fst).Pairwise (· < ·)
 pos:∀e∈D.2,1<=e.1/\e.1<2^62/\(e.2=1∨e.2= -1)
 perm:D.1.flatten.Perm ((D.2.map Prod.fst).flatMap λx=>[x,-x])
 few:D.1.length<=5
theorem Bq:∀{d:List (Int×Int)}{x:Int},x∈d.map Prod.fst->∃v,Y9 d x=some v/\(x,v)∈d
 | [],_,h=>by simp at h
 |kv::d,x,h=>by
  by_cases c:kv.1=x
  ·exact⟨kv.2,by simp[Y9,List.find?_cons,c],by rw[←c];simp⟩
  ·have hx:x∈d.map Prod.fst:=by
    rw[List.map_cons,List.mem_cons] at h
    rcases h with h |h
    ·exact absurd h.symm c
    ·exact h
   obtain⟨v,h1,h2⟩:=Bq hx
   exact⟨v,by unfold Y9 at h1⊢;rw[List.find?_cons,decide_eq_false c];exact h1,List.mem_cons_of_mem _ h2⟩
theorem Ic {d:List (Int×Int)}{k v:Int}(h:∀x∈d.map Prod.fst,x≠k):Cy d k v=d++[(k,v)]:=by
 unfold Cy
 rw[if_neg]
 rw[List.any_eq_true]
 rintro⟨kv,h1,h2⟩
 exact h kv.1 (List.mem_map.mpr ⟨kv,h1,rfl⟩) (by simpa using h2)
theorem IH (ns:List Int){p:Int}(hp:0<=p){most:Nat}(hm:most<=100):Ok (Jv ns p (most:Int)) (Drawn most):=by
 unfold Jv Fy;dsimp only
 simp only[Rs.okb]
 rw[Xr (sz (by simp))]
 simp only[Rs.okb]
 rw[Xr (sz (by simp))]
 simp only[Rs.okb]
 rw[YW (by decide) (by decide),Rs.okb,show(2:Int)*(most:Int)=((2*most:Nat):Int) by omega]
 rw[show Bm [(80:Int),5,2,3] ((2*most:Nat):Int)= .ok (List.replicate (2*most) [(80:Int),5,2,3]).flatten from by
  unfold Bm
  rw[Xr ⟨by omega,by omega,sz (by simp;omega)⟩,Int.toNat_natCast]]
 simp only[Rs.okb]
 have hrl:=BY [(80:Int),5,2,3] (2*most)
 have hrg:∀{j c:Nat},c<4->j<2*most->(List.replicate (2*most) [(80:Int),5,2,3]).flatten[4*j+c]?=[(80:Int),5,2,3][c]?:=fun {j c} hc hj=>Hj rfl hc hj
 have hrm:∀x∈(List.replicate (2*most) [(80:Int),5,2,3]).flatten,0<x/\x<2^250:=λx hx=>by
  obtain⟨l,h1,h2⟩:=List.mem_flatten.mp hx
  rw[(List.mem_replicate.mp h1).2] at h2
  simp only[List.mem_cons,List.not_mem_nil,or_false] at h2
  rcases h2 with rfl |rfl |rfl |rfl<;> decide
 generalize (List.replicate (2*most) [(80:Int),5,2,3]).flatten=tl at hrl hrg hrm
 rw[show([(80:Int),5,2,3]).length=4 from rfl] at hrl
 rw[show NL [(most:Int)+1,5,4,3,3] tl= .ok ([(most:Int)+1,5,4,3,3]++tl) from Xr (sz (by simp;omega))]
 simp only[Rs.okb]
 refine Ok.bind (Ok.noE (Lp ns hp _ (by simp;omega) λx hx=>?_)) λr hr=>?_
 ·rw[List.mem_append] at hx
  rcases hx with h |h
  ·simp only[List.mem_cons,List.not_mem_nil,or_false] at h
   rcases h with rfl |rfl |rfl |rfl |rfl
   ·refine⟨by omega,by omega⟩
   all_goals decide
  ·exact hrm x h
 obtain⟨hl,hv⟩:=hr
 have hl':r.length=5+8*most:=by rw[hl];simp;omega
 have hv5:∀(j c:Nat) (s:Int),c<4->j<2*most-> [(80:Int),5,2,3][c]?=some s->∀h:5+4*j+c<r.length,0<=r[5+4*j+c]/\r[5+4*j+c]<s:=λj c s hc hj hs h=>by
  refine hv (5+4*j+c) _ s (by simp[h]) ?_
  rw[List.getElem?_append_right (by simp;omega)]
  simp only[List.length_cons,List.length_nil]
  rw[show 5+4*j+c-(0+1+1+1+1+1)=4*j+c by omega,hrg hc hj]
  exact hs
 have v0:=hv 0 r[0] _ (by simp) rfl
 have v1:=hv 1 r[1] _ (by simp) rfl
 have v2:=hv 2 r[2] _ (by simp) rfl
 have v3:=hv 3 r[3] _ (by simp) rfl
 have v4:=hv 4 r[4] _ (by simp) rfl
 rw[Yv (r:=r) (k:=0) (n:=0) rfl (by omega),Yv (r:=r) (k:=1) (n:=1) rfl (by omega),Yv (r:=r) (k:=2) (n:=2) rfl (by omega),Yv (r:=r) (k:=3) (n:=3) rfl (by omega),Yv (r:=r) (k:=4) (n:=4) rfl (by omega)]
 simp only[Rs.okb]
 obtain⟨m0,hm0⟩:∃m0:Nat,r[0]=m0:=⟨r[0].toNat,by omega⟩
 rw[hm0] at v0⊢
 rw[Yo (by omega),Hu (by decide) (by decide) (by decide) (by decide)]
 simp only[Rs.okb]
 rw[Xr (sz (by simp))]
 simp only[Rs.okb]
 have hz:∃z,atR [0,1,(10:Int)^(9:Int).toNat] r[3]= .ok z/\0<=z/\z<=1000000000:=by
  rcases(by omega:r[3]=0∨r[3]=1∨r[3]=2) with h |h |h<;> rw[h]
  ·exact⟨0,rfl,by decide,by decide⟩
  ·exact⟨1,rfl,by decide,by decide⟩
  ·exact⟨1000000000,rfl,by decide,by decide⟩
 obtain⟨z,hz,hz0,hz1⟩:=hz
 rw[hz]
 simp only[Rs.okb]
 refine Ok.bind (Ok.forN (λi (g:Int×List (Int×Int)×List Int)=>g.2.1.map Prod.fst=g.2.2/\g.2.2.length=i/\0<=g.1/\g.1<=(i:Int)*3000000000/\g.2.2.Pairwise (· < ·)/\(∀x∈g.2.2,1<=x/\x<=g.1)/\∀e∈g.2.1,e.2=1∨e.2= -1) ⟨rfl,rfl,Int.le_refl _,by decide,List.Pairwise.nil,λx hx=>(by cases hx),λx hx=>(by cases hx)⟩ λi a g ha hg=>?_) λg hg=>?_
 ·obtain⟨rfl,hi⟩:=XZ ha
  obtain⟨h1,h2,h3,h4,h5,h6,h7⟩:=hg
  have hA:5+4*(2*i)+3<r.length:=by omega
  have hB:5+4*(2*i)+2<r.length:=by omega
  have kA:=hv5 (2*i) 3 3 (by omega) (by omega) rfl hA
  have kB:=hv5 (2*i) 2 2 (by omega) (by omega) rfl hB
  rw[YW (a:=8) (by decide) (by decide)]
  simp only[Rs.okb]
  rw[Yv (r:=r) (k:=8*(i:Int)+8) (n:=5+4*(2*i)+3) (by omega) hA,Yv (r:=r) (k:=8*(i:Int)+7) (n:=5+4*(2*i)+2) (by omega) hB]
  simp only[Rs.okb]
  generalize r[5+4*(2*i)+3]=y at kA
  generalize r[5+4*(2*i)+2]=y2 at kB
  rw[YW (a:=y) (by omega) (by omega),YW (a:=2) (by decide) (by decide)]
  simp only[Rs.okb]
  have hd1:g.2.1.length=i:=by rw[←h2, ←h1,List.length_map]
  rw[Xr (FK (by omega)),Xr (FK (by omega))]
  have q0:0<=y*z:=Int.mul_nonneg kA.1 hz0
  have q1:y*z<=2*1000000000:=Int.mul_le_mul (by omega) hz1 hz0 (by decide)
  generalize y*z=st at q0 q1
  have hnew:∀x∈g.2.1.map Prod.fst,x≠g.1+1+st:=λx hx e=>by
   rw[h1] at hx
   have:=(h6 x hx).2
   omega
  rw[Ic hnew]
  refine⟨_,rfl,?_,?_,?_,?_,?_,?_,?_⟩
  ·show(g.2.1++[(g.1+1+st,2*y2-1)]).map Prod.fst=g.2.2++[g.1+1+st]
   rw[List.map_append,h1];rfl
  ·show(g.2.2++[g.1+1+st]).length=_
   simp[h2]
  ·show 0<=g.1+1+st
   omega
  ·show g.1+1+st<=_
   omega
  ·show(g.2.2++[g.1+1+st]).Pairwise (· < ·)
   rw[List.pairwise_append]
   refine⟨h5,by simp,λx hx w hw=>?_⟩
   rw[List.mem_singleton] at hw
   have:=(h6 x hx).2
   omega
  ·intro x hx
   show 1<=x/\x<=g.1+1+st
   rcases List.mem_append.mp hx with h |h
   ·have:=h6 x h;omega
   ·rw[List.mem_singleton] at h;omega
  ·intro e he
   rcases List.mem_append.mp he with h |h
   ·exact h7 e h
   ·rw[List.mem_singleton] at h
    subst h
    show 2*y2-1=1∨2*y2-1= -1
    omega
 obtain⟨h1,h2,h3,h4,h5,h6,h7⟩:=hg
 rw[XS] at h2 h4
 generalize hN:g.2.2=names at*
 generalize hD:g.2.1=d at*
 have hsg:∀x∈names,Y9 d x=some ((Y9 d x).getD 1)/\((Y9 d x).getD 1=1∨(Y9 d x).getD 1= -1):=λx hx=>by
  obtain⟨v,e1,e2⟩:=Bq (d:=d) (x:=x) (by rw[h1];exact hx)
  rw[e1]
  exact⟨rfl,h7 _ e2⟩
 have hmap:Le names (λa=>(GN d a).bind λx=>.ok (a,x))= .ok (names.map λa=>(a,(Y9 d a).getD 1)):=Zh (sz (by omega)) λa ha=>by
  unfold GN
  rw[(hsg a ha).1];rfl
 refine Ok.bind (R:=λws:List (List Int)=>ws.length<=5/\ws.flatten.Perm (names.flatMap λx=>[x,-x])) (Ok.ite (λ_=>?_) λ_=>?_) λws hws=>?_
 ·refine Ok.bind (R:=λws:List (List Int)=>ws.length<=5/\ws.flatten.Perm (names.flatMap λx=>[x,-x])) ?_ λws hws=>⟨_,rfl,hws⟩
  refine Ok.bind (Ok.noE (Ik (by omega) (by omega))) λl hl2=>?_
  rw[show(2:Int)+r[4]=((2+r[4].toNat:Nat):Int) by omega]
  have hln:=hl2.length_eq
  refine Ok.noE (Ok.imp (CQ (sg:=λx=>(Y9 d x).getD 1) (by omega) (by omega) (λx hx=>(hsg x (hl2.mem_iff.mp hx)).1) (λx hx=>(hsg x (hl2.mem_iff.mp hx)).2) (by omega) (by omega)) λws hw=>⟨by omega,hw.2.trans (Zr _ hl2)⟩)
 ·refine Ok.bind (R:=λws:List (List Int)=>ws.length<=5/\ws.flatten.Perm (names.flatMap λx=>[x,-x])) ?_ λws hws=>⟨_,rfl,hws⟩
  obtain⟨rings,hrings⟩:∃k:Nat,max r[1] (min (names.length:Int) 1)=(k:Int):=⟨(max r[1] (min (names.length:Int) 1)).toNat,by omega⟩
  rw[hrings]
  refine Ok.noE (Ok.imp (OA (by omega) (by omega) (λhne=>?_) (by omega)) λws hw=>⟨by omega,hw.2⟩)
  have:0<names.length:=List.length_pos_iff.mpr hne
  omega
 ·rw[hmap]
  simp only[Rs.okb]
  have hfst:(names.map λa=>(a,(Y9 d a).getD 1)).map Prod.fst=names:=by rw[List.map_map];exact List.map_id' _
  refine⟨_,rfl,?_,?_,?_,?_,hws.1⟩
  ·show(names.map λa=>(a,(Y9 d a).getD 1)).length<=most
   simp;omega
  ·show((names.map λa=>(a,(Y9 d a).getD 1)).map Prod.fst).Pairwise _
   rw[hfst];exact h5
  ·intro e he
   obtain⟨x,hx,rfl⟩:=List.mem_map.mp he
   have:=h6 x hx
   refine⟨this.1,?_,(hsg x hx).2⟩
   show x<2^62
   omega
  ·show ws.flatten.Perm (((names.map λa=>(a,(Y9 d a).getD 1)).map Prod.fst).flatMap λx=>[x,-x])
   rw[hfst];exact hws.2
theorem Cd {r:List Int}{n:Nat}(hn:n<=1000)(hr:n<=r.length):Ok (QV r (n:Int)) λsp=>∃ p q,GB n sp p q:=by
 unfold QV V9;dsimp only
 simp only[Rs.okb]
 rw[Xr (by omega)]
 simp only[Rs.okb]
 rw[Yo (by omega)]
 simp only[Rs.okb]
 have e0:Qr 0 (n:Int)=(List.range n).map λ(i:Nat)=>(i:Int):=by
  unfold Qr
  rw[Int.sub_zero,Int.toNat_natCast]
  exact List.map_congr_left λi _=>by omega
 refine Ok.bind (Ok.forN (λi (g:List Int×List Int)=>g.1.length=i/\(g.1++g.2).Perm ((List.range n).map λ(i:Nat)=>(i:Int))) ⟨rfl,by rw[e0];exact List.Perm.refl _⟩ λi a g ha hg=>?_) λg hg=>?_
 ·obtain⟨rfl,hi⟩:=XZ ha
  obtain⟨h1,h2⟩:=hg
  have hl:=h2.length_eq
  simp only[List.length_append,List.length_map,List.length_range] at hl
  have hri:r[i]?=some r[i]:=by simp[show i<r.length by omega]
  have hpos:(0:Int)<(g.2.length:Int):=by omega
  have hm1:=Int.emod_nonneg r[i] (show(g.2.length:Int)≠0 by omega)
  have hm2:=Int.emod_lt_of_pos r[i] hpos
  rw[X9 hri,Rs.okb,X7 hpos,Rs.okb]
  generalize hk:r[i] % (g.2.length:Int)=k at hm1 hm2
  obtain⟨j,rfl⟩:∃j:Nat,k=j:=⟨k.toNat,by omega⟩
  have hj:j<g.2.length:=by omega
  rw[Ht hj (by omega),Rs.okb,Xr (FK (by omega))]
  refine⟨_,rfl,by simp[h1],?_⟩
  refine List.Perm.trans ?_ h2
  show((g.1++[g.2[j]])++g.2.eraseIdx j).Perm (g.1++g.2)
  rw[List.append_assoc]
  exact(Jh hj).append_left _
 ·obtain⟨h1,h2⟩:=hg
  rw[XS] at h1
  have hl:=h2.length_eq
  simp only[List.length_append,List.length_map,List.length_range] at hl
  have:g.2=[]:=List.length_eq_zero_iff.mp (by omega)
  rw[this,List.append_nil] at h2
  exact⟨_,rfl,IU h2⟩
theorem Hx {n:Nat}{f:Nat->Nat->Nat}{sp:List Int}{p q:Nat->Nat}(hn:n<=1000)(hf:∀a b,a<n->b<n->f a b<n)(hp:GB n sp p q):J7 (Yk n f) sp= .ok (Yk n λx y=>p (f (q x) (q y))):=by
 have P:=hp.1
 unfold J7 Ks;dsimp only
 simp only[Rs.okb]
 rw[Zh (h:=λa=>a) (sz (by rw[XB];omega)) λa _=>rfl,Rs.okb]
 simp only[List.map_id',XB]
 rw[Yo (by omega),Rs.okb]
 apply Ok.eq
 refine Ok.bind (Ok.forN (λi g=>g=Yk n λx y=>if q x<i then p (f (q x) (q y)) else f x y) (Zl λx y _ _=>by simp) λi a g ha hg=>?_) λg hg=>⟨g,rfl,?_⟩
 ·obtain⟨rfl,hi⟩:=XZ ha
  subst hg
  simp only[Rs.okb]
  refine Ok.bind (Ok.forN (λj g=>g=Yk n λx y=>if q x<i∨(q x=i/\q y<j) then p (f (q x) (q y)) else f x y) (Zl λx y _ _=>by simp) λj b g hb hg=>?_) λg hg=>⟨g,rfl,?_⟩
  ·obtain⟨rfl,hj⟩:=XZ hb
   subst hg
   have hv:=hf i j hi hj
   rw[Q7 hi,Rs.okb,Uy hj,Rs.okb,hp.get hv,Rs.okb,hp.get hi,Rs.okb,Q7 (P.lt i hi),Rs.okb,hp.get hj,Rs.okb,Vi (by rw[XD];exact P.lt j hj),Rs.okb,Vi (by rw[XB];exact P.lt i hi),Rs.okb]
   refine⟨_,rfl,?_⟩
   rw[ME (P.lt i hi)]
   refine Zl λx y hx hy=>?_
   by_cases e:x=p i/\y=p j
   ·rw[if_pos e,e.1,e.2,P.qp i hi,P.qp j hj,if_pos (by omega)]
   ·rw[if_neg e]
    have:¬(q x=i/\q y=j):=λ⟨e1,e2⟩=>e ⟨by rw[←e1,P.pq x hx],by rw[←e2,P.pq y hy]⟩
    by_cases c:q x<i∨(q x=i/\q y<j)
    ·rw[if_pos c,if_pos (by omega)]
    ·rw[if_neg c,if_neg (by omega)]
  ·subst hg
   rw[XS]
   refine Zl λx y hx hy=>?_
   have:=P.qlt y hy
   by_cases c:q x<i+1
   ·rw[if_pos c,if_pos (by omega)]
   ·rw[if_neg c,if_neg (by omega)]
 ·subst hg
  rw[XS]
  exact Zl λx y hx hy=>by rw[if_pos (P.qlt x hx)]
theorem VL (a b:Bool):NO (.ok a) (.ok b)= .ok (a&&b):=Ly λ_=>rfl
theorem CF {way k:Int}{n a b:Nat}(hn:0<n)(h1:n<=1000)(ha:a<n)(hb:b<n):Z0 way (n:Int) k (a:Int) (b:Int)= .ok (CJ way n k a b):=by
 unfold Z0 Vy;dsimp only;unfold CJ
 simp only[Rs.okb,VL,Bool.and_eq_true,decide_eq_true_eq,gt_iff_lt,ge_iff_le]
 rw[F3 (by decide) (by decide)]
 simp only[Rs.okb,VL,Bool.and_eq_true,decide_eq_true_eq]
 rw[YW (a:=2) (by decide) (by decide),Zb (a:=k) (by omega) (by omega),Zb (a:=1-k) (by omega) (by omega)]
 simp only[Rs.okb]
 by_cases c1:way=1
 ·rw[if_pos c1,if_pos c1];exact X7 (by omega)
 rw[if_neg c1,if_neg c1]
 by_cases c2:way=2
 ·rw[if_pos c2,if_pos c2];exact X7 (by omega)
 rw[if_neg c2,if_neg c2]
 by_cases c3:way=3/\2<(n:Int)/\(a:Int)<2/\(b:Int)=(n:Int)-1
 ·rw[if_pos c3,if_pos c3]
 rw[if_neg c3,if_neg c3]
 by_cases c4:way=6/\(a:Int)<(n:Int)-1/\(b:Int)=(n:Int)-1
 ·rw[if_pos c4,if_pos c4];exact X7 (by omega)
 rw[if_neg c4,if_neg c4]
 by_cases c5:way=4/\(a:Int)<(n:Int)/2/\(b:Int)<(n:Int)/2
 ·rw[if_pos c5,if_pos c5];exact X7 (by omega)
 rw[if_neg c5,if_neg c5]
 by_cases c6:way=4/\(n:Int)/2<=(a:Int)/\(n:Int)/2<=(b:Int)
 ·rw[if_pos c6,if_pos c6,X7 (by omega),Rs.okb]
 rw[if_neg c6,if_neg c6]
theorem KD (x y:Int):JW x y= .ok (Int.gcd x y:Int):=by
 unfold JW U5;dsimp only
 simp only[Rs.okb]
 apply Ok.eq
 refine Ok.bind (QN (λg:Int×Int=>∃ u v:Nat,g=((u:Int),(v:Int))/\Nat.gcd u v=Int.gcd x y) (λg=>g.2.toNat) (λg hg=>?_) _ ((x.natAbs:Int),(y.natAbs:Int)) ⟨x.natAbs,y.natAbs,rfl,rfl⟩ ?_) λg hg=>?_
 ·obtain⟨u,v,rfl,h⟩:=hg
  refine⟨_,rfl,λc=>?_⟩
  have c':(0:Int)<(v:Int):=of_decide_eq_true c
  show Ok ((Mg (u:Int) (v:Int)).bind _) _
  rw[X7 c',Rs.okb]
  refine⟨_,rfl,⟨v,u % v,by rw[Int.natCast_emod],?_⟩,?_⟩
  ·rw[←h,Nat.gcd_comm u v,Nat.gcd_rec v u,Nat.gcd_comm]
  ·show((u:Int) % (v:Int)).toNat<((v:Int)).toNat
   have:=Int.emod_lt_of_pos (u:Int) c'
   have:=Int.emod_nonneg (u:Int) (show(v:Int)≠0 by omega)
   omega
 ·show((y.natAbs:Int)).toNat<_
  omega
 ·obtain⟨⟨u,v,rfl,h⟩,hc⟩:=hg
  have hc':¬(0:Int)<(v:Int):=by
   have:=Rs.ok.inj hc
   simpa using this
  have:v=0:=by omega
  subst this
  rw[Nat.gcd_zero_right] at h
  exact⟨_,rfl,by show(u:Int)=_;rw[h]⟩
theorem LN {n:Nat}{t z:Int}(h:t=1+(n:Int)*z):Int.gcd t n=1:=by
 have h1:((Int.gcd t n:Nat):Int)∣t:=Int.gcd_dvd_left ..
 have h2:((Int.gcd t n:Nat):Int)∣(n:Int):=Int.gcd_dvd_right ..
 have h3:((Int.gcd t n:Nat):Int)∣1:=by
  have:(1:Int)=t-(n:Int)*z:=by omega
  rw[this]
  exact Int.dvd_sub h1 (Int.dvd_trans h2 (Int.dvd_mul_right ..))
 have h4:=Int.eq_one_of_dvd_one (by omega) h3
 omega
theorem LY {way k:Int}{n:Nat}(hn:0<n)(h1:n<=1000):Ok (DC way (n:Int) k) λt=>∃ f,GoodF n f/\t=Yk n f:=by
 unfold DC BF;dsimp only
 simp only[Rs.okb,VL,Bool.and_eq_true,decide_eq_true_eq]
 by_cases c5:way=5/\(n:Int)=4
 ·rw[if_pos c5]
  have hn:n=4:=by omega
  subst hn
  exact⟨[[0,3,1,2],[2,1,3,0],[3,0,2,1],[1,2,0,3]],rfl,JM,EV,HR.symm⟩
 rw[if_neg c5]
 have ht:=Int.emod_add_mul_ediv (1-k) (n:Int)
 have ht0:=Int.emod_nonneg (1-k) (show(n:Int)≠0 by omega)
 have ht1:=Int.emod_lt_of_pos (1-k) (show(0:Int)<(n:Int) by omega)
 generalize hq:(1-k) % (n:Int)=m at ht ht0 ht1
 have hcop:Int.gcd (k+m) n=1:=LN (z:=-((1-k)/(n:Int))) (by rw[Int.mul_neg];omega)
 refine Ok.bind (QN (λg:Int=>k<=g/\g<=k+m) (λg=>(k+m-g).toNat) (λg hg=>?_) _ k ⟨Int.le_refl _,by omega⟩ ?_) λg hg=>?_
 ·rw[KD,Xt,Rs.okb]
  refine⟨_,rfl,λc=>?_⟩
  have hne:g≠k+m:=λe=>by
   rw[e,hcop] at c
   exact absurd c (by decide)
  refine⟨_,rfl,⟨by omega,by omega⟩,?_⟩
  show(k+m-(g+1)).toNat<(k+m-g).toNat
  omega
 ·show(k+m-k).toNat<_
  omega
 ·obtain⟨_,hc⟩:=hg
  rw[KD,Xt,Rs.okb] at hc
  have hg1:Int.gcd g n=1:=by
   have:=Rs.ok.inj hc
   simp at this
   omega
  obtain⟨gd,hce⟩:=Bx (way:=way) (k:=g) (n:=n) hn hg1
  refine⟨Yk n (Gu way g n),?_,_,gd,rfl⟩
  rw[Yo (by omega),Rs.okb]
  have hrow:∀a:Nat,a<n->Le ((List.range n).map λ(i:Nat)=>(i:Int)) (λb=>noE (Z0 way (n:Int) g (a:Int) b))= .ok (Zd n (Gu way g n) a):=λa ha=>by
   rw[Zh (h:=λx=>((Gu way g n a x.toNat:Nat):Int)) (sz (by simp;omega)) λx hx=>?_]
   ·rw[List.map_map];rfl
   ·obtain⟨b,hb,rfl⟩:=Yy hx
    rw[CF hn h1 ha hb,Xt,Int.toNat_natCast,hce a b ha hb]
  rw[Y2 (h:=λx=>Zd n (Gu way g n) x.toNat) (sz (by simp;omega)) λl hl x hx=>?_]
  ·rw[Rs.okb,List.nil_append,List.map_map];rfl
  ·obtain⟨a,ha,rfl⟩:=Yy hx
   rw[Rs.okb,hrow a ha,Rs.okb,Xr hl,Int.toNat_natCast]
theorem QY (ns:List Int){p:Int}(hp:0<=p){most:Nat}(h0:0<most)(hm:most<=24):Ok (YF ns p (most:Int)) λt=>∃ n f,0<n/\n<=most/\GoodF n f/\t=Yk n f:=by
 unfold YF Z4;dsimp only
 simp only[Rs.okb]
 rw[Xr (sz (by simp))]
 simp only[Rs.okb]
 rw[Xr (sz (by simp))]
 simp only[Rs.okb]
 rw[show Bm [(24:Int)] 24= .ok (List.replicate 24 24) from rfl]
 simp only[Rs.okb]
 rw[show NL [(7:Int),24,6,2,6] (List.replicate 24 24)= .ok ([(7:Int),24,6,2,6]++List.replicate 24 24) from Xr (sz (by simp))]
 simp only[Rs.okb]
 refine Ok.bind (Ok.noE (Lp ns hp _ (by simp) λx hx=>?_)) λr hr=>?_
 ·rw[List.mem_append] at hx
  rcases hx with h |h
  ·simp only[List.mem_cons,List.not_mem_nil,or_false] at h
   rcases h with rfl |rfl |rfl |rfl |rfl<;> decide
  ·rw[(List.mem_replicate.mp h).2];decide
 obtain⟨hl,hv⟩:=hr
 have hl':r.length=29:=by rw[hl];simp
 clear hl hv
 rw[Yv (r:=r) (k:=0) (n:=0) rfl (by omega),Yv (r:=r) (k:=1) (n:=1) rfl (by omega),Yv (r:=r) (k:=2) (n:=2) rfl (by omega),Yv (r:=r) (k:=3) (n:=3) rfl (by omega),Yv (r:=r) (k:=4) (n:=4) rfl (by omega)]
 simp only[Rs.okb,VL]
 rw[X7 (by omega)]
 simp only[Rs.okb]
 have a0:=Int.emod_nonneg r[1] (show(most:Int)≠0 by omega)
 have a1:=Int.emod_lt_of_pos r[1] (show(0:Int)<(most:Int) by omega)
 refine Ok.bind (R:=λs:Int=>0<s/\s<=(most:Int)) (Ok.ite (λc=>?_) λ_=>?_) λs hs=>?_
 ·have c1:2<(most:Int):=by
   rw[Bool.and_eq_true,decide_eq_true_eq] at c
   exact c.1
  rw[X7 (by omega),Rs.okb]
  have b0:=Int.emod_nonneg r[1] (show(most:Int)-2≠0 by omega)
  have b1:=Int.emod_lt_of_pos r[1] (show(0:Int)<(most:Int)-2 by omega)
  refine⟨_,rfl,?_⟩
  omega
 ·exact⟨_,rfl,by omega⟩
 obtain⟨n,rfl⟩:∃n:Nat,s=(n:Int):=⟨s.toNat,by omega⟩
 refine Ok.bind (Ok.noE (LY (by omega) (by omega))) λt ht=>?_
 obtain⟨f,gd,rfl⟩:=ht
 refine Ok.ite (λ_=>⟨_,rfl,n,f,by omega,by omega,gd,rfl⟩) λ_=>?_
 rw[show CY r (some 5) none=r.drop 5 from IR r (k:=5) (by omega)]
 refine Ok.bind (Ok.noE (Cd (by omega) (by rw[List.length_drop];omega))) λsp hsp=>?_
 obtain⟨q,q',hq⟩:=hsp
 rw[Hx (by omega) gd.lt hq,Xt]
 exact⟨_,rfl,n,_,by omega,by omega,hq.1.good gd,rfl⟩
end My
namespace My
noncomputable def Yw (w:List Int):Nat:=(w.filter λx=>decide (x<0)).length
noncomputable def Jg (w:List Int):Nat:=max (Yw w) 1
noncomputable def ZX (w:List Int)(first:Int):List Int:=(List.range (max w.length 1)).map λk=>first+(Yw (w.take k):Int) % (Jg w:Int)
noncomputable def YA:List (List Int)->Int->List (List Int)
 | [],_=>[]
 |w::ws,f=>ZX w f::YA ws (f+Jg w)
noncomputable def XM (ws:List (List Int)):Int:=(ws.map λw=>(Jg w:Int)).sum
noncomputable def JN (ws:List (List Int)):Nat:=(ws.filter λw=>decide (Yw w=0)).length
theorem Q0 (a b:List Int):Yw (a++b)=Yw a+Yw b:=by unfold Yw;rw[List.filter_append,List.length_append]
theorem JZ {x:Int}(h:x<0):Yw [x]=1:=by simp[Yw,h]
theorem JT {x:Int}(h:¬x<0):Yw [x]=0:=by simp[Yw,h]
theorem YZ {w:List Int}{i:Nat}{x:Int}(h:w[i]?=some x):Yw (w.take (i+1))=Yw (w.take i)+Yw [x]:=by
 rw[List.take_add_one,h,Q0];rfl
theorem JC (w:List Int)(i j:Nat)(h:i<=j):Yw (w.take i)<=Yw (w.take j):=by
 have e:w.take j=w.take i++(w.take j).drop i:=by
  conv=>lhs;rw[←List.take_append_drop i (w.take j)]
  rw[List.take_take,Nat.min_eq_left h]
 rw[e,Q0];omega
theorem Mb (w:List Int)(i:Nat):Yw (w.take i)<=Yw w:=by
 by_cases h:i<=w.length
 ·have:=JC w i w.length h
  rw[List.take_length] at this;exact this
 ·rw[List.take_of_length_le (by omega)];exact Nat.le_refl _
theorem DP (w:List Int):0<Jg w:=by unfold Jg;omega
theorem Jf (w:List Int)(f:Int):(ZX w f).length=max w.length 1:=by simp[ZX]
theorem Cj (w:List Int)(f:Int){k:Nat}(h:k<max w.length 1):(ZX w f)[k]?=some (f+(Yw (w.take k):Int) % (Jg w:Int)):=by
 unfold ZX
 rw[List.getElem?_map,List.getElem?_range h];rfl
theorem Yr:∀(ws:List (List Int)) (f:Int),(YA ws f).length=ws.length
 | [],_=>rfl
 |_::ws,f=>by show(YA ws _).length+1=_;rw[Yr ws];rfl
theorem QJ (w:List Int)(ws:List (List Int)):XM (w::ws)=Jg w+XM ws:=by simp[XM]
theorem Ux (a b:List (List Int)):XM (a++b)=XM a+XM b:=by simp[XM,List.sum_append]
theorem Cz (w:List Int):XM [w]=Jg w:=by simp[XM]
theorem Jy:∀(a b:List (List Int)) (f:Int),YA (a++b) f=YA a f++YA b (f+XM a)
 | [],b,f=>by simp[YA,XM]
 |w::a,b,f=>by
  show ZX w f::YA (a++b) (f+Jg w)=ZX w f::(YA a (f+Jg w)++YA b (f+XM (w::a)))
  rw[Jy a b,QJ,Int.add_assoc]
theorem QC {ws:List (List Int)}{i:Nat}{w:List Int}(h:ws[i]?=some w)(f:Int):YA (ws.take (i+1)) f=YA (ws.take i) f++[ZX w (f+XM (ws.take i))]:=by
 rw[List.take_add_one,h,Jy];rfl
theorem QD {ws:List (List Int)}{i:Nat}{w:List Int}(h:ws[i]?=some w):XM (ws.take (i+1))=XM (ws.take i)+Jg w:=by
 rw[List.take_add_one,h,Ux]
 show _+XM [w]=_
 rw[Cz]
theorem Uk {ws:List (List Int)}{i:Nat}{w:List Int}(h:ws[i]?=some w)(f:Int):(YA ws f)[i]?=some (ZX w (f+XM (ws.take i))):=by
 have hl:i<ws.length:=(List.getElem?_eq_some_iff.mp h).1
 have e:ws=ws.take (i+1)++ws.drop (i+1):=(List.take_append_drop _ _).symm
 rw[e,Jy,QC h,List.getElem?_append_left (by rw[List.length_append,Yr,List.length_take];simp;omega),
  List.getElem?_append_right (by rw[Yr,List.length_take];omega),Yr,List.length_take,Nat.min_eq_left (by omega),Nat.sub_self,List.take_append_of_le_length (by rw[List.length_take];omega),List.take_take,Nat.min_eq_left (by omega)]
 rfl
theorem JG:∀ws:List (List Int),XM ws=(Yw ws.flatten:Int)+(JN ws:Int)
 | []=>rfl
 |w::ws=>by
  rw[QJ,JG ws,List.flatten_cons,Q0]
  unfold JN
  rw[List.filter_cons]
  by_cases h:Yw w=0
  ·simp[h,Jg];omega
  ·simp[h,Jg];omega
theorem Cm {ws:List (List Int)}{i:Nat}{w:List Int}(h:ws[i]?=some w):JN (ws.take (i+1))=JN (ws.take i)+(if Yw w=0 then 1 else 0):=by
 unfold JN
 rw[List.take_add_one,h,List.filter_append,List.length_append]
 by_cases e:Yw w=0<;> simp[e]
theorem E5 {a b:List Int}(h:a.Perm b):Yw a=Yw b:=(h.filter _).length_eq
theorem E1:∀{xs:List Int},(∀x∈xs,1<=x)->Yw (xs.flatMap λx=>[x,-x])=xs.length
 | [],_=>rfl
 |x::xs,h=>by
  have hx:=h x List.mem_cons_self
  rw[List.flatMap_cons,Q0,E1 λy hy=>h y (List.mem_cons_of_mem _ hy)]
  have e:Yw [x,-x]=1:=by
   show Yw ([x]++[-x])=1
   rw[Q0,JT (by omega),JZ (by omega)]
  rw[e,List.length_cons];omega
structure LastIs (w:List Int)(i:Nat)(last:Int):Prop where
 lo: -1<=last
 hi:last<(i:Int)
 none:∀j:Nat,last<(j:Int)->j<i->∀x,w[j]?=some x->¬x<0
 at':0<=last->∃x,w[last.toNat]?=some x/\x<0
theorem LastIs.zero (w:List Int):LastIs w 0 (-1):=⟨by omega,by omega,λj _ h=>by omega,λh=>by omega⟩
theorem LastIs.neg {w:List Int}{i:Nat}{x:Int}(e:w[i]?=some x)(hx:x<0):LastIs w (i+1) (i:Int):=
 ⟨by omega,by omega,λj h1 h2=>by omega,λ_=>⟨x,by simpa using e,hx⟩⟩
theorem LastIs.pos {w:List Int}{i:Nat}{x last:Int}(h:LastIs w i last)(e:w[i]?=some x)(hx:¬x<0):LastIs w (i+1) last:=by
 have:=h.hi
 refine⟨h.lo,by omega,λj h1 h2 y hy=>?_,h.at'⟩
 by_cases hj:j=i
 ·subst hj;rw[e] at hy;cases hy;exact hx
 ·exact h.none j h1 (by omega) y hy
theorem Qv {w:List Int}{last:Int}(h:LastIs w w.length last):∀j:Nat,last<(j:Int)->Yw (w.take j)=Yw w:=by
 intro j hj
 have key:∀d:Nat,Yw (w.take (j+d))=Yw (w.take j):=λd=>by
  induction d with
  |zero=>rfl
  |succ d ih=>
   cases e:w[j+d]? with
   |none=>
    have:=List.getElem?_eq_none_iff.mp e
    rw[←ih,List.take_of_length_le (by omega),List.take_of_length_le (by omega)]
   |some x=>
    have hl:=(List.getElem?_eq_some_iff.mp e).1
    show Yw (w.take ((j+d)+1))=_
    rw[YZ e,ih,JT (h.none (j+d) (by omega) hl x e)];rfl
 by_cases hl:j<=w.length
 ·rw[←key (w.length-j),show j+(w.length-j)=w.length by omega,List.take_length]
 ·rw[List.take_of_length_le (by omega)]
theorem KL {w:List Int}{last:Int}(h:LastIs w w.length last)(h0:0<=last):Yw (w.take last.toNat)+1=Yw w:=by
 obtain⟨x,e,hx⟩:=h.at' h0
 have:=YZ e
 rw[JZ hx] at this
 rw[←this,Qv h (last.toNat+1) (by omega)]
theorem Ep {w:List Int}{last:Int}(h:LastIs w w.length last)(h0:¬0<=last):Yw w=0:=by
 have:=h.lo
 rw[←Qv h 0 (by omega)];simp[Yw]
theorem Ek {w:List Int}{last f:Int}(h:LastIs w w.length last){j:Nat}(hj:(j:Int)<=last):f+(Yw (w.take j):Int) % (Jg w:Int)=f+(Yw (w.take j):Int):=by
 have h0:0<=last:=by omega
 have h1:=KL h h0
 have h2:=JC w j last.toNat (by omega)
 rw[Int.emod_eq_of_lt (by omega) (by unfold Jg;omega)]
theorem IY {w:List Int}{last f:Int}(h:LastIs w w.length last){j:Nat}(hj:last<(j:Int)):f+(Yw (w.take j):Int) % (Jg w:Int)=f:=by
 rw[Qv h j hj]
 by_cases e:Yw w=0
 ·rw[e];simp
 ·have:(Jg w:Int)=(Yw w:Int):=by unfold Jg;omega
  rw[this,Int.emod_self];omega
theorem EH {w:List Int}{last:Int}(h:LastIs w w.length last):(Yw (w.take last.toNat):Int)+1=(Jg w:Int):=by
 by_cases h0:0<=last
 ·have:=KL h h0
  unfold Jg;omega
 ·have e:=Ep h h0
  have:=Mb w last.toNat
  unfold Jg;omega
end My
namespace My
structure Spot (ws:List (List Int))(x:Int)(i j:Nat)(w:List Int):Prop where
 wi:ws[i]?=some w
 xj:w[j]?=some x
 first:∀m:Nat,m<j->w[m]?≠some x
 none:∀(i':Nat) (w':List Int),i'<i->ws[i']?=some w'->x∉w'
theorem Spot.row {ws:List (List Int)}{x:Int}{i j:Nat}{w:List Int}(h:Spot ws x i j w):∃r,(YA ws 0)[i]?=some r/\r.length=w.length/\j<w.length:=by
 have hj:=(List.getElem?_eq_some_iff.mp h.xj).1
 exact⟨_,Uk h.wi 0,by rw[Jf];omega,hj⟩
theorem Dn:∀{w:List Int}{x:Int},x∈w->∃j:Nat,w[j]?=some x/\∀m:Nat,m<j->w[m]?≠some x
 | [],x,h=>by simp at h
 |y::t,x,h=>by
  by_cases e:y=x
  ·subst e
   exact⟨0,rfl,λm hm=>by omega⟩
  ·rcases List.mem_cons.mp h with z |z
   ·exact absurd z.symm e
   ·obtain⟨j,h1,h2⟩:=Dn z
    refine⟨j+1,by simpa using h1,λm hm=>?_⟩
    cases m with
    |zero=>simpa using e
    |succ m=>simpa using h2 m (by omega)
end My
namespace My
open PySem L2
section
variable {α β γ ρ:Type}
theorem Ve {f:γ->α->Rs (Ctl ρ γ)}{g:γ}{v:ρ}:∀{as:List α}{i:Nat}{a:α},as[i]?=some a->(∀(k:Nat) b,k<i->as[k]?=some b->f g b= .ok (.nx g))->f g a= .ok (.ret v)->Uc as g f= .ok (.ret v)
 | [],i,a,h,_,_=>by simp at h
 |b::as,0,a,h,_,hf=>by
  have:b=a:=by simpa using h
  subst this
  show(f g b).bind _=_
  rw[hf,Rs.okb]
 |b::as,i+1,a,h,hb,hf=>by
  show(f g b).bind _=_
  rw[hb 0 b (by omega) rfl,Rs.okb]
  exact Ve (i:=i) (by simpa using h) (λk c hk hc=>hb (k+1) c (by omega) (by simpa using hc)) hf
theorem Ii {as:List α}{i:Nat}{a:α}(h:as[i]?=some a):(G7 as)[i]?=some ((i:Int),a):=by
 have hi:=(List.getElem?_eq_some_iff.mp h).1
 unfold G7
 rw[List.getElem?_zip_eq_some]
 exact⟨by rw[List.getElem?_map,List.getElem?_range hi];rfl,h⟩
theorem Gx {w:List Int}{x:Int}{j:Nat}(h:w[j]?=some x)(hf:∀m:Nat,m<j->w[m]?≠some x):Ml w x= .ok (j:Int):=by
 obtain⟨hj,e⟩:=List.getElem?_eq_some_iff.mp h
 have:w.findIdx? (λb=>decide (b=x))=some j:=by
  rw[List.findIdx?_eq_some_iff_getElem]
  refine⟨hj,by simp[e],λm hm=>?_⟩
  have hml:m<w.length:=by omega
  have:=hf m hm
  rw[List.getElem?_eq_getElem hml] at this
  simpa using this
 unfold Ml
 rw[this]
theorem Hr {N k:Nat}{F G:Nat->α}{v:α}(hk:k<N)(hv:G k=v)(h:∀j,j<N->j≠k->F j=G j):((List.range N).map F).set k v=(List.range N).map G:=by
 refine List.ext_getElem (by simp) λj h1 h2=>?_
 have hj:j<N:=by simpa using h1
 rw[List.getElem_set]
 by_cases e:k=j
 ·subst e;rw[if_pos rfl];simp[hv]
 ·rw[if_neg e];simp[h j hj (λz=>e z.symm)]
theorem IE (w:List α):CY w none (some (-1))=w.take (w.length-1):=by
 unfold CY
 rw[HT.sIx_none]
 have:HT.sIx w.length w.length (some (-1))=w.length-1:=by
  unfold HT.sIx
  simp
  omega
 rw[this];simp
end
theorem Zc {w:List Int}(hl:w.length<=1000):Yh w= .ok (Jg w:Int):=by
 unfold Yh ZA;dsimp only
 simp only[Rs.okb]
 rw[UK (p:=λx=>decide (x<0)) (h:=λx=>x) (sz (by omega)) (λ_ _=>rfl) λ_ _ _=>rfl,Rs.okb,List.map_id']
 congr 1
 show max ((Yw w:Nat):Int) 1=((max (Yw w) 1:Nat):Int)
 omega
theorem VV {w:List Int}{f:Int}(hl:w.length<=1000):Y0 w f= .ok (ZX w f):=by
 unfold Y0 ZB;dsimp only
 simp only[Rs.okb]
 rw[Zc hl,Xt]
 simp only[Rs.okb]
 rw[Xr (sz (by simp)),IE]
 simp only[Rs.okb]
 apply Ok.eq
 refine Ok.bind (Ok.forN (λi (g:Int×List Int)=>g=((Yw (w.take i):Int),(List.range (i+1)).map λk=>f+(Yw (w.take k):Int) % (Jg w:Int))) ?_ λi a g ha hg=>?_) λg hg=>?_
 ·simp[Yw]
 ·have hi:=(List.getElem?_eq_some_iff.mp ha).1
  rw[List.length_take] at hi
  have ha':w[i]?=some a:=by
   rw[List.getElem?_take_of_lt (by omega)] at ha
   exact ha
  subst hg
  have hn:=YZ ha'
  have hp:=DP w
  have hlen:((List.range (i+1)).map λk=>f+(Yw (w.take k):Int) % (Jg w:Int)).length<sizeLine:=FK (by simp;omega)
  refine Ok.bind (R:=λu=>u=(Yw (w.take (i+1)):Int)) (Ok.ite (λc=>⟨_,rfl,?_⟩) λc=>⟨_,rfl,?_⟩) λu hu=>?_
  ·rw[hn,JZ (of_decide_eq_true c)]
   show(Yw (w.take i):Int)+1=_
   omega
  ·rw[hn,JT (of_decide_eq_false c)]
   show(Yw (w.take i):Int)=_
   omega
  ·subst hu
   rw[X7 (by omega),Rs.okb,Rs.okb,Xr hlen]
   refine⟨_,rfl,?_⟩
   rw[List.range_succ (n:=i+1),List.map_append];rfl
 ·subst hg
  refine⟨_,rfl,?_⟩
  rw[List.length_take,show min (w.length-1) w.length+1=max w.length 1 by omega]
  rfl
theorem LX {D:List (List Int)×List (Int×Int)}(hd:D.1.length<=1000)(hw:∀w∈D.1,w.length<=1000):FU D= .ok (YA D.1 0):=by
 unfold FU Hb;dsimp only
 simp only[Rs.okb]
 apply Ok.eq
 refine Ok.bind (Ok.forN (λi (g:Int×List (List Int))=>g=(XM (D.1.take i),YA (D.1.take i) 0)) rfl λi a g ha hg=>?_) λg hg=>?_
 ·have hi:=(List.getElem?_eq_some_iff.mp ha).1
  subst hg
  have hal:=hw a (List.mem_of_getElem? ha)
  rw[VV hal,Xt,Rs.okb,Zc hal,Xt]
  rw[Xr (FK (by rw[Yr,List.length_take];omega))]
  simp only[Rs.okb]
  refine⟨_,rfl,?_⟩
  rw[QC ha,QD ha,Int.zero_add]
 ·subst hg
  rw[List.take_length]
  exact⟨_,rfl,rfl⟩
theorem KF {D:List (List Int)×List (Int×Int)}(hd:D.1.length<=1000)(hw:∀w∈D.1,w.length<=1000):ZQ D= .ok (XM D.1):=by
 unfold ZQ QF;dsimp only
 simp only[Rs.okb]
 rw[Zh (h:=λw=>(Jg w:Int)) (sz (by omega)) λw h=>by rw[Zc (hw w h),Xt],Rs.okb]
 rfl
theorem B0 {D:List (List Int)×List (Int×Int)}{x:Int}{i j:Nat}{w:List Int}(h:Spot D.1 x i j w):Do D x= .ok ((i:Int),(j:Int)):=by
 unfold Do EJ;dsimp only
 simp only[Rs.okb]
 rw[Ve (v:=((i:Int),(j:Int))) (Ii h.wi) (λk b hk hb=>?_) ?_]
 ·rw[Rs.okb,V0]
 ·rw[if_pos (decide_eq_true (List.mem_of_getElem? h.xj)),Gx h.xj h.first]
  simp only[Rs.okb]
 ·obtain⟨_,h2⟩:=KN hb
  rw[if_neg]
  rw[decide_eq_true_eq]
  exact h.none k b.2 hk h2
theorem K5 {ws:List (List Int)}{x:Int}{i j:Nat}{w:List Int}(hl:ws.length<=1000)(h:Spot ws x i j w):J6 ws x= .ok ((i:Int),(j:Int)):=by
 have hi:=(List.getElem?_eq_some_iff.mp h.wi).1
 unfold J6 UC;dsimp only
 simp only[Rs.okb]
 rw[Yo (by omega),Rs.okb]
 rw[Ve (v:=((i:Int),(j:Int))) (i:=i) (a:=(i:Int)) (by rw[List.getElem?_map,List.getElem?_range hi];rfl) (λk b hk hb=>?_) ?_]
 ·rw[Rs.okb,V0]
 ·rw[X9 h.wi]
  simp only[Rs.okb]
  rw[if_pos (decide_eq_true (List.mem_of_getElem? h.xj)),Gx h.xj h.first]
  simp only[Rs.okb]
 ·obtain⟨rfl,hkl⟩:=XZ hb
  have hks:ws[k]?=some ws[k]:=by simp[hkl]
  rw[X9 hks]
  simp only[Rs.okb]
  rw[if_neg]
  rw[decide_eq_true_eq]
  exact h.none k _ hk hks
theorem Kx {D:List (List Int)×List (Int×Int)}(hw:∀w∈D.1,w.length<=1000):ZZ D= .ok ((D.2.length:Int)+(JN D.1:Int)):=by
 unfold ZZ FC;dsimp only
 simp only[Rs.okb]
 apply Ok.eq
 refine Ok.bind (Ok.forN (λi (g:Int)=>g=(D.2.length:Int)+(JN (D.1.take i):Int)) (by simp[JN]) λi a g ha hg=>?_) λg hg=>?_
 ·have hal:=hw a (List.mem_of_getElem? ha)
  rw[UK (p:=λx=>decide (x<0)) (h:=λx=>x) (sz (by omega)) (λ_ _=>rfl) λ_ _ _=>rfl,List.map_id']
  simp only[Rs.okb]
  have hz:=Cm ha
  have hnn:((a.filter λx=>decide (x<0)).length:Int)=(Yw a:Int):=rfl
  rw[hnn]
  by_cases c:Yw a=0
  ·rw[if_pos c] at hz
   rw[if_pos (decide_eq_true (by omega))]
   simp only[Rs.okb]
   exact⟨_,rfl,by omega⟩
  ·rw[if_neg c] at hz
   rw[if_neg (by rw[decide_eq_true_eq];omega)]
   simp only[Rs.okb]
   exact⟨_,rfl,by omega⟩
 ·subst hg
  rw[List.take_length]
  exact⟨_,rfl,rfl⟩
theorem RP (f:Int)(n:Nat):(List.replicate n [f]).flatten=(List.range n).map λ_=>f:=by
 induction n with
 |zero=>rfl
 |succ n ih=>rw[List.replicate_succ,List.flatten_cons,ih,List.range_succ_eq_map,List.map_cons,List.map_map];rfl
theorem Bd {ws:List (List Int)}(hd:ws.length<=1000)(hw:∀w∈ws,w.length<=1000):JV ws= .ok (YA ws 0):=by
 unfold JV U3;dsimp only
 simp only[Rs.okb]
 apply Ok.eq
 refine Ok.bind (Ok.forN (λi (g:Int×List (List Int))=>g=(XM (ws.take i),YA (ws.take i) 0)) rfl λi w g ha hg=>?_) λg hg=>?_
 ·have hi:=(List.getElem?_eq_some_iff.mp ha).1
  subst hg
  have hal:=hw w (List.mem_of_getElem? ha)
  generalize hf:XM (ws.take i)=f
  rw[Yo (by omega),Rs.okb]
  refine Ok.bind (Ok.forN (λk (l:Int)=>LastIs w k l) (LastIs.zero w) λk b l hb hl=>?_) λlast hlast=>?_
  ·obtain⟨rfl,hk⟩:=XZ hb
   have hks:w[k]?=some w[k]:=by simp[hk]
   rw[X9 hks]
   simp only[Rs.okb]
   by_cases c:w[k]<0
   ·rw[if_pos (decide_eq_true c),Rs.okb]
    exact⟨_,rfl,LastIs.neg hks c⟩
   ·rw[if_neg (by rw[decide_eq_true_eq];exact c),Rs.okb]
    exact⟨_,rfl,hl.pos hks c⟩
  rw[XS] at hlast
  rw[Xr (sz (by simp))]
  simp only[Rs.okb]
  rw[show max (w.length:Int) 1=((max w.length 1:Nat):Int) by omega]
  rw[show Bm [f] ((max w.length 1:Nat):Int)= .ok ((List.range (max w.length 1)).map λ_=>f) from by
   unfold Bm
   rw[Xr ⟨by omega,by omega,sz (by simp;omega)⟩,Int.toNat_natCast,RP]]
  simp only[Rs.okb]
  have hlb: -1<=last/\last<(w.length:Int):=⟨hlast.lo,hlast.hi⟩
  rw[show last+1=(((last+1).toNat:Nat):Int) by omega,Yo (by omega),Rs.okb]
  refine Ok.bind (Ok.forN (λk (h:List Int×Int×Int)=>h.1=((List.range (max w.length 1)).map λj=>if j<k then f+(Yw (w.take j):Int) else f)/\h.2.1=f+(Yw (w.take (min k last.toNat)):Int)/\h.2.2=f+(Yw (w.take (min k last.toNat)):Int)) ⟨by simp,by simp[Yw],by simp[Yw]⟩ λk b h hb hh=>?_) λh hh=>?_
  ·obtain⟨rfl,hk⟩:=XZ hb
   obtain⟨h1,h2,h3⟩:=hh
   have hkl:k<w.length:=by omega
   have hks:w[k]?=some w[k]:=by simp[hkl]
   rw[Nat.min_eq_left (by omega)] at h2 h3
   rw[h1,Vi (by simp;omega),Rs.okb,X9 hks]
   simp only[Rs.okb,VL]
   have hset:(((List.range (max w.length 1)).map λj=>if j<k then f+(Yw (w.take j):Int) else f).set k h.2.2)=(List.range (max w.length 1)).map λj=>if j<k+1 then f+(Yw (w.take j):Int) else f:=Hr (by omega) (by rw[if_pos (by omega),h3]) λj hj hne=>by
    by_cases c:j<k
    ·rw[if_pos c,if_pos (by omega)]
    ·rw[if_neg c,if_neg (by omega)]
   rw[hset]
   have hn:=YZ hks
   by_cases c:w[k]<0/\(k:Int)<last
   ·rw[if_pos (by rw[Bool.and_eq_true,decide_eq_true_eq,decide_eq_true_eq];exact c),Rs.okb]
    rw[JZ c.1] at hn
    refine⟨_,rfl,rfl,?_,?_⟩
    ·show h.2.1+1=_
     rw[Nat.min_eq_left (by omega),hn,h2];omega
    ·show h.2.1+1=_
     rw[Nat.min_eq_left (by omega),hn,h2];omega
   ·rw[if_neg (by rw[Bool.and_eq_true,decide_eq_true_eq,decide_eq_true_eq];exact c),Rs.okb]
    have hst:Yw (w.take (min (k+1) last.toNat))=Yw (w.take k):=by
     by_cases c2:(k:Int)<last
     ·have c3:¬w[k]<0:=λz=>c ⟨z,c2⟩
      rw[JT c3] at hn
      rw[Nat.min_eq_left (by omega),hn,Nat.add_zero]
     ·rw[Nat.min_eq_right (by omega),show last.toNat=k by omega]
    refine⟨_,rfl,rfl,?_,?_⟩
    ·show h.2.1=_
     rw[hst,h2]
    ·show h.2.2=_
     rw[hst,h3]
  ·rw[XS] at hh
   obtain⟨h1,h2,_⟩:=hh
   rw[Xr (FK (by rw[Yr,List.length_take];omega))]
   have hce:=EH hlast
   rw[Nat.min_eq_right (by omega)] at h2
   refine⟨_,rfl,?_⟩
   rw[QC ha,QD ha,Int.zero_add,hf,h1,h2]
   have e1:f+(Yw (w.take last.toNat):Int)+1=f+(Jg w:Int):=by omega
   have e2:((List.range (max w.length 1)).map λj=>if j<(last+1).toNat then f+(Yw (w.take j):Int) else f)=ZX w f:=by
    unfold ZX
    refine List.map_congr_left λj _=>?_
    by_cases c:j<(last+1).toNat
    ·rw[if_pos c,Ek hlast (by omega)]
    ·rw[if_neg c,IY hlast (by omega)]
   rw[e1,e2]
 ·subst hg
  rw[List.take_length]
  exact⟨_,rfl,rfl⟩
theorem Fq:∀{ws:List (List Int)}{x:Int},x∈ws.flatten->∃i j w,Spot ws x i j w
 | [],x,h=>by simp at h
 |w::ws,x,h=>by
  by_cases c:x∈w
  ·obtain⟨j,h1,h2⟩:=Dn c
   exact⟨0,j,w,rfl,h1,h2,λi' w' hi _=>by omega⟩
  ·have hx:x∈ws.flatten:=by
    rw[List.flatten_cons,List.mem_append] at h
    exact h.resolve_left c
   obtain⟨i,j,v,s⟩:=Fq hx
   refine⟨i+1,j,v,by simpa using s.wi,s.xj,s.first,λi' w' hi hw=>?_⟩
   cases i' with
   |zero=>
    have:w=w':=by simpa using hw
    exact this▸c
   |succ i'=>exact s.none i' w' (by omega) (by simpa using hw)
theorem VS (ws:List (List Int)):0<=XM ws:=by
 induction ws with
 |nil=>exact Int.le_refl _
 |cons w ws ih=>rw[QJ];omega
theorem Hl {ws:List (List Int)}{i j:Nat}{w r:List Int}{o:Int}(hw:ws[i]?=some w)(hr:(YA ws 0)[i]?=some r)(ho:r[j]?=some o):0<=o/\o<XM ws:=by
 rw[Uk hw] at hr
 cases hr
 have hj:=(List.getElem?_eq_some_iff.mp ho).1
 rw[Jf] at hj
 rw[Cj w _ hj] at ho
 have ho':=Option.some.inj ho
 have hp:=DP w
 have m0:=Int.emod_nonneg (Yw (w.take j):Int) (show(Jg w:Int)≠0 by omega)
 have m1:=Int.emod_lt_of_pos (Yw (w.take j):Int) (show(0:Int)<(Jg w:Int) by omega)
 have t0:=VS (ws.take i)
 have t1:XM ws=XM (ws.take (i+1))+XM (ws.drop (i+1)):=by rw[←Ux,List.take_append_drop]
 have t2:=VS (ws.drop (i+1))
 rw[QD hw] at t1
 omega
structure DG (D:List (List Int)×List (Int×Int)):Prop where
 few:D.1.length<=1000
 short:∀w∈D.1,w.length<=1000
 le:D.2.length<=1000
 mem:∀e∈D.2,e.1∈D.1.flatten/\ -e.1∈D.1.flatten
 sg:∀e∈D.2,e.2=1∨e.2= -1
 count:XM D.1=(D.2.length:Int)+(JN D.1:Int)
noncomputable def MG (N:Int)(m:Int×Int×Int×Int×Int):Prop:=(m.2.1=1∨m.2.1= -1)/\(0<=m.2.2.1/\m.2.2.1<N)/\(0<=m.2.2.2.1/\m.2.2.2.1<N)/\(0<=m.2.2.2.2/\m.2.2.2.2<N)
theorem Cl {D:List (List Int)×List (Int×Int)}(h:DG D):∃ms,Z7 D= .ok ms/\Y1 D= .ok ms/\ms.length=D.2.length/\∀m∈ms,MG (XM D.1) m:=by
 have key:∀e:Int×Int,∃v:Int×Int×Int×Int×Int,e∈D.2->∃(i j k l:Nat) (w w' r r':List Int),Spot D.1 e.1 i j w/\Spot D.1 (-e.1) k l w'/\(YA D.1 0)[i]?=some r/\r[j]?=some v.2.2.1/\(YA D.1 0)[k]?=some r'/\r'.length=w'.length/\0<w'.length/\r'[l]?=some v.2.2.2.1/\r'[(l+1) % w'.length]?=some v.2.2.2.2/\v.1=e.1/\v.2.1=e.2:=λe=>by
  by_cases he:e∈D.2
  ·obtain⟨i,j,w,s1⟩:=Fq (h.mem e he).1
   obtain⟨k,l,w',s2⟩:=Fq (h.mem e he).2
   obtain⟨r,hr,hrl,hj⟩:=s1.row
   obtain⟨r',hr',hrl',hl⟩:=s2.row
   have hm:(l+1) % w'.length<r'.length:=by rw[hrl'];exact Nat.mod_lt _ (by omega)
   exact⟨(e.1,e.2,r[j],r'[l],r'[(l+1) % w'.length]),λ_=>⟨i,j,k,l,w,w',r,r',s1,s2,hr,by simp,hr',hrl',by omega,by simp,by simp,rfl,rfl⟩⟩
  ·exact⟨(0,0,0,0,0),λz=>absurd z he⟩
 obtain⟨v,hv⟩:=Classical.axiomOfChoice key
 refine⟨D.2.map v,?_,?_,by simp,λm hm=>?_⟩
 ·unfold Z7 G3;dsimp only
  simp only[Rs.okb]
  rw[LX h.few h.short,Xt]
  simp only[Rs.okb]
  rw[Y2 (h:=v) (sz (by have:=h.le;simp;omega)) λg hg e he=>?_]
  ·rw[Rs.okb,List.nil_append]
  ·obtain⟨i,j,k,l,w,w',r,r',s1,s2,h1,h2,h3,h4,h5,h6,h7,h8,h9⟩:=hv e he
   have hm:((l:Int)+1) % (r'.length:Int)=(((l+1) % w'.length:Nat):Int):=by rw[h4,Int.natCast_emod];rfl
   rw[B0 s1,B0 s2,Xt,Xt]
   simp only[Rs.okb]
   rw[X9 h1,X9 h3]
   simp only[Rs.okb]
   rw[X9 h2,X9 h6]
   simp only[Rs.okb]
   rw[X7 (by omega),hm]
   simp only[Rs.okb]
   rw[X9 h7]
   simp only[Rs.okb]
   rw[Xr hg]
   congr 2
   rw[←h8, ←h9]
 ·unfold Y1 V3;dsimp only
  simp only[Rs.okb]
  rw[Bd h.few h.short,Xt]
  simp only[Rs.okb]
  rw[Y2 (h:=v) (sz (by have:=h.le;simp;omega)) λg hg e he=>?_]
  ·rw[Rs.okb,List.nil_append]
  ·obtain⟨i,j,k,l,w,w',r,r',s1,s2,h1,h2,h3,h4,h5,h6,h7,h8,h9⟩:=hv e he
   have hm:((l:Int)+1) % (w'.length:Int)=(((l+1) % w'.length:Nat):Int):=by rw[Int.natCast_emod];rfl
   rw[K5 h.few s1,K5 h.few s2,Xt,Xt]
   simp only[Rs.okb]
   rw[X9 s2.wi]
   simp only[Rs.okb]
   rw[X7 (by omega),hm]
   simp only[Rs.okb]
   rw[X9 h1,X9 h3]
   simp only[Rs.okb]
   rw[X9 h2,X9 h6]
   simp only[Rs.okb]
   rw[X9 h7]
   simp only[Rs.okb]
   rw[Xr hg]
   congr 2
   rw[←h8, ←h9]
 ·obtain⟨e,he,rfl⟩:=List.mem_map.mp hm
  obtain⟨i,j,k,l,w,w',r,r',s1,s2,h1,h2,h3,h4,h5,h6,h7,h8,h9⟩:=hv e he
  exact⟨by rw[h9];exact h.sg e he,Hl s1.wi h1 h2,Hl s2.wi h3 h6,Hl s2.wi h3 h7⟩
theorem Gb {α γ ρ:Type}{F:γ->α->Rs (Ctl ρ γ)}{p:α->Bool}{v:ρ}{g:γ}:∀{as:List α},(∀a∈as,F g a= .ok (if p a=true then .ret v else .nx g))->Uc as g F= .ok (if as.any p=true then .ret v else .nx g)
 | [],_=>rfl
 |a::as,h=>by
  show(F g a).bind _=_
  rw[h a (by simp),Rs.okb,List.any_cons]
  cases hp:p a with
  |true=>rw[if_pos rfl];rfl
  |false=>
   rw[if_neg Bool.false_ne_true,Bool.false_or]
   exact Gb λb hb=>h b (by simp[hb])
noncomputable def QB (f:Nat->Nat->Nat)(cn:Int->Nat)(m:Int×Int×Int×Int×Int):Bool:=if m.2.1=1 then decide ((f (cn m.2.2.2.1) (cn m.2.2.1):Int)=cn m.2.2.2.2) else decide ((f (cn m.2.2.2.2) (cn m.2.2.1):Int)=cn m.2.2.2.1)
section
variable {n:Nat}{f:Nat->Nat->Nat}{c:List Int}{cn:Int->Nat}{N:Int}
theorem Dc {ms:List (Int×Int×Int×Int×Int)}(hc:∀k,0<=k->k<N->atR c k= .ok (cn k:Int)/\cn k<n)(hm:∀m∈ms,MG N m):ZU ms (Yk n f) c= .ok (ms.all (QB f cn)):=by
 unfold ZU Fa;dsimp only
 simp only[Rs.okb]
 rw[Gb (p:=λm=>!(QB f cn m)) (v:=false) λm h=>?_]
 ·rw[Rs.okb]
  have e:ms.any (λm=>!(QB f cn m))=!ms.all (QB f cn):=by
   rw[List.not_all_eq_any_not]
  rw[e]
  cases ms.all (QB f cn) with
  |true=>rw[show(!true)=false from rfl,if_neg Bool.false_ne_true,Q3]
  |false=>rw[show(!false)=true from rfl,if_pos rfl,V0]
 ·obtain⟨s,⟨o0,o1⟩,⟨a0,a1⟩,b0,b1⟩:=hm m h
  rw[(hc _ a0 a1).1,(hc _ b0 b1).1]
  simp only[Rs.okb]
  unfold QB
  rcases s with s |s
  ·rw[if_neg (show ¬decide (m.2.1<0)=true by rw[decide_eq_true_eq];omega),if_pos s]
   simp only[Rs.okb]
   rw[Q7 (hc _ a0 a1).2]
   simp only[Rs.okb]
   rw[(hc _ o0 o1).1]
   simp only[Rs.okb]
   rw[Uy (hc _ o0 o1).2]
   simp only[Rs.okb]
   cases(!decide ((f (cn m.2.2.2.1) (cn m.2.2.1):Int)=cn m.2.2.2.2))<;> rfl
  ·rw[if_pos (decide_eq_true (show m.2.1<0 by omega)),if_neg (show ¬m.2.1=1 by omega)]
   simp only[Rs.okb]
   rw[Q7 (hc _ b0 b1).2]
   simp only[Rs.okb]
   rw[(hc _ o0 o1).1]
   simp only[Rs.okb]
   rw[Uy (hc _ o0 o1).2]
   simp only[Rs.okb]
   cases(!decide ((f (cn m.2.2.2.2) (cn m.2.2.1):Int)=cn m.2.2.2.1))<;> rfl
noncomputable def QS (m:Int×Int×Int×Int×Int):Int×Int×Int:=if m.2.1=1 then(m.2.2.2.1,m.2.2.1,m.2.2.2.2) else(m.2.2.2.2,m.2.2.1,m.2.2.2.1)
theorem NK {D:List (List Int)×List (Int×Int)}{ms:List (Int×Int×Int×Int×Int)}(h:Z7 D= .ok ms)(hl:ms.length<=1000):Dj D= .ok (ms.map QS):=by
 unfold Dj Ho;dsimp only
 simp only[Rs.okb]
 rw[h,Xt]
 simp only[Rs.okb]
 rw[Y2 (h:=QS) (sz (by simp;omega)) λg hg e he=>?_]
 ·rw[Rs.okb,List.nil_append]
 ·unfold QS
  by_cases s:e.2.1=1
  ·rw[if_pos (decide_eq_true s),if_pos s]
   simp only[Rs.okb]
   exact Xr hg
  ·rw[if_neg (by rw[decide_eq_true_eq];exact s),if_neg s]
   simp only[Rs.okb]
   exact Xr hg
theorem GX {ms:List (Int×Int×Int×Int×Int)}(hl:ms.length<=1000)(hc:∀k,0<=k->k<N->atR c k= .ok (cn k:Int)/\cn k<n)(hm:∀m∈ms,MG N m):ZH (Yk n f) c (ms.map QS)= .ok (ms.all (QB f cn)):=by
 unfold ZH
 simp only[Rs.okb]
 rw[Zh (h:=λt:Int×Int×Int=>decide ((f (cn t.1) (cn t.2.1):Int)=cn t.2.2)) (sz (by simp;omega)) λt ht=>?_]
 ·rw[Rs.okb,List.map_map]
  congr 1
  rw[List.all_map]
  refine congrArg (λF=>ms.all F) (funext λm=>?_)
  show decide _=QB f cn m
  unfold QB QS
  by_cases s:m.2.1=1
  ·simp only[if_pos s]
  ·simp only[if_neg s]
 ·obtain⟨m,h,rfl⟩:=List.mem_map.mp ht
  obtain⟨s,⟨o0,o1⟩,⟨a0,a1⟩,b0,b1⟩:=hm m h
  have key:∀x y z:Int,0<=x->x<N->0<=y->y<N->0<=z->z<N->((((atR c x).bind λx9=>atR (Yk n f) x9).bind λx12=>(atR c y).bind λx13=>atR x12 x13).bind λx16=>(atR c z).bind λx17=>(Rs.ok (decide (x16=x17)):Rs Bool))= .ok (decide ((f (cn x) (cn y):Int)=cn z)):=λx y z x0 x1 y0 y1 z0 z1=>by
   rw[(hc x x0 x1).1,(hc y y0 y1).1,(hc z z0 z1).1]
   simp only[Rs.okb]
   rw[Q7 (hc x x0 x1).2]
   simp only[Rs.okb]
   rw[Uy (hc y y0 y1).2]
   simp only[Rs.okb]
  unfold QS
  by_cases s:m.2.1=1
  ·rw[if_pos s];exact key _ _ _ a0 a1 o0 o1 b0 b1
  ·rw[if_neg s];exact key _ _ _ b0 b1 o0 o1 a0 a1
end
theorem NA {c:List Int}{n:Nat}{N:Int}(hN:(c.length:Int)=N)(hc:∀x∈c,0<=x/\x<(n:Int)):∀k,0<=k->k<N->atR c k= .ok (((c.getD k.toNat 0).toNat:Nat):Int)/\(c.getD k.toNat 0).toNat<n:=λk k0 k1=>by
 have hk:k.toNat<c.length:=by omega
 have hx:=hc c[k.toNat] (List.getElem_mem hk)
 have e:c.getD k.toNat 0=c[k.toNat]:=by simp[hk]
 rw[e]
 refine⟨?_,by omega⟩
 rw[Yv (n:=k.toNat) (by omega) hk]
 congr 1
 omega
theorem HZ {n K:Nat}(h24:n<=100)(hK:K<=3000):Kg (n:Int) (K:Int)= .ok ((n^K:Nat):Int):=by
 unfold Kg Fv;dsimp only
 simp only[Rs.okb]
 rw[Yo (by omega)]
 simp only[Rs.okb]
 apply Ok.eq
 refine Ok.bind (Ok.forN (λi (g:Int)=>g=((n^i:Nat):Int)) rfl λi a g ha hg=>?_) λg hg=>?_
 ·subst hg
  rw[Zb (by omega) (by omega),Rs.okb]
  refine⟨_,rfl,?_⟩
  rw[Nat.pow_succ]
  exact(Int.natCast_mul _ _).symm
 ·rw[XS] at hg
  exact⟨_,rfl,hg⟩
theorem DG.of {most:Nat}{D:List (List Int)×List (Int×Int)}(h:Drawn most D)(hm:most<=100):DG D where
 few:=by have:=h.few;omega
 short:=λw hw=>by
  have h1:=h.perm.length_eq
  rw[Qc,List.length_map] at h1
  have h2:=(List.sublist_flatten_of_mem hw).length_le
  have:=h.le
  omega
 le:=by have:=h.le;omega
 mem:=λe he=>by
  have hm:e.1∈D.2.map Prod.fst:=List.mem_map.mpr ⟨e,he,rfl⟩
  exact⟨h.perm.mem_iff.mpr (List.mem_flatMap.mpr ⟨_,hm,by simp⟩),h.perm.mem_iff.mpr (List.mem_flatMap.mpr ⟨_,hm,by simp⟩)⟩
 sg:=λe he=>(h.pos e he).2.2
 count:=by
  rw[JG,E5 h.perm,E1 λx hx=>?_,List.length_map]
  obtain⟨e,he,rfl⟩:=List.mem_map.mp hx
  exact(h.pos e he).1
theorem L3 (o a b:Int):K0 [o,a,b]=max (max o a) b:=rfl
theorem Hk {n i j:Nat}(hn:0<n)(h:i<=j):n^i<=n^j:=Nat.pow_le_pow_right hn h
theorem V4 {c:List Int}{n k:Nat}(hl:c.length=k)(hc:∀x∈c,0<=x/\x<(n:Int)):∀j,0<=j->j<(k:Int)->atR c j= .ok (((c.getD j.toNat 0).toNat:Nat):Int)/\(c.getD j.toNat 0).toNat<n:=NA (by omega) hc
theorem Jd {α β:Type}{F:List β->α->Rs (List β)}{p:α->Bool}{h:α->β}:∀{as:List α}{g:List β},g.length+as.length<=100000->(∀(g:List β) a,a∈as->g.length<100000->F g a= .ok (if p a=true then g++[h a] else g))->forN as g F= .ok (g++(as.filter p).map h)
 | [],g,_,_=>by rw[List.filter_nil,List.map_nil,List.append_nil];rfl
 |a::as,g,hl,hf=>by
  show(F g a).bind _=_
  rw[List.length_cons] at hl
  rw[hf g a List.mem_cons_self (by omega),Rs.okb]
  cases hp:p a with
  |true=>
   rw[if_pos rfl,List.filter_cons_of_pos hp,List.map_cons]
   refine(Jd (by simp;omega) λg b hb=>hf g b (List.mem_cons_of_mem _ hb)).trans ?_
   rw[List.append_assoc];rfl
  |false=>
   rw[if_neg Bool.false_ne_true,List.filter_cons_of_neg (by rw[hp];exact Bool.false_ne_true)]
   exact Jd (by omega) λg b hb=>hf g b (List.mem_cons_of_mem _ hb)
noncomputable abbrev M5:=Int×Int×Int×Int×Int
noncomputable def Ja (c:List Int)(i:Int):Nat:=(c.getD i.toNat 0).toNat
noncomputable def Vn (n:Nat)(f:Nat->Nat->Nat)(ms:List M5)(c:List Int):List (List Int):=((((List.range n).map λ(i:Nat)=>(i:Int))).filter λj=>ms.all (QB f (Ja (c++[j])))).map λj=>c++[j]
noncomputable def G5 (n:Nat)(f:Nat->Nat->Nat)(ms:List M5)(T:List (List Int)):List (List Int):=T.flatMap (Vn n f ms)
noncomputable def KB (k:Nat)(m:M5):Bool:=decide (K0 [m.2.2.1,m.2.2.2.1,m.2.2.2.2]=(k:Int))
noncomputable def TT (n:Nat)(f:Nat->Nat->Nat)(ms:List M5):Nat->List (List Int)
 |0=>[[]]
 |k+1=>G5 n f (ms.filter (KB k)) (TT n f ms k)
noncomputable def Ps (n k:Nat)(T:List (List Int)):Prop:=T.length<=n^k/\∀c∈T,c.length=k/\∀x∈c,0<=x/\x<(n:Int)
section
variable {n:Nat}{f:Nat->Nat->Nat}{ms:List M5}
theorem FR (c:List Int):(Vn n f ms c).length<=n:=by
 unfold Vn
 rw[List.length_map]
 exact Nat.le_trans (List.length_filter_le ..) (by simp)
theorem F7:∀T:List (List Int),(G5 n f ms T).length<=T.length*n
 | []=>by simp[G5]
 |c::T=>by
  have h:=F7 T
  have h2:=FR (n:=n) (f:=f) (ms:=ms) c
  unfold G5 at h⊢
  rw[List.flatMap_cons,List.length_append,List.length_cons,Nat.succ_mul]
  omega
theorem EQ {k:Nat}{T:List (List Int)}(h:Ps n k T):Ps n (k+1) (G5 n f ms T):=by
 refine⟨Nat.le_trans (F7 T) (by rw[Nat.pow_succ];exact Nat.mul_le_mul_right n h.1),λd hd=>?_⟩
 obtain⟨c,hc,hd⟩:=List.mem_flatMap.mp hd
 unfold Vn at hd
 obtain⟨j,hj,rfl⟩:=List.mem_map.mp hd
 obtain⟨i,hi,rfl⟩:=Yy (List.mem_filter.mp hj).1
 obtain⟨h1,h2⟩:=h.2 c hc
 refine⟨by simp[h1],λx hx=>?_⟩
 rcases List.mem_append.mp hx with z |z
 ·exact h2 x z
 ·rw[List.mem_singleton] at z;omega
theorem Zz:∀k,Ps n k (TT n f ms k)
 |0=>⟨by simp[TT],λc hc=>by
  have:c=[]:=by simpa[TT] using hc
  subst this
  exact⟨rfl,λx hx=>by cases hx⟩⟩
 |k+1=>EQ (Zz k)
theorem outer {F:List (List Int)->List Int->Rs (List (List Int))}{T:List (List Int)}(hT:T.length*n<=90000)(hF:∀(g:List (List Int)) c,c∈T->g.length+n<=90000->F g c= .ok (g++Vn n f ms c)):forN T [] F= .ok (G5 n f ms T):=by
 obtain⟨r,e,h⟩:=U1 (f:=F) (λi (g:List (List Int))=>g=(T.take i).flatMap (Vn n f ms)/\g.length<=i*n) (as:=T) (g:=[]) ⟨by simp,by simp⟩ λi c g hc hg=>by
  have hi:=(List.getElem?_eq_some_iff.mp hc).1
  obtain⟨h1,h2⟩:=hg
  have h3:(i+1)*n<=T.length*n:=Nat.mul_le_mul_right n (by omega)
  rw[Nat.succ_mul] at h3
  refine⟨_,hF g c (List.mem_of_getElem? hc) (by omega),?_,?_⟩
  ·rw[List.take_add_one,hc,List.flatMap_append, ←h1]
   simp
  ·rw[List.length_append,Nat.succ_mul]
   have:=FR (n:=n) (f:=f) (ms:=ms) c
   omega
 rw[e,h.1,List.take_length]
 rfl
theorem LI {N:Int}(hm:∀m∈ms,MG N m)(k:Nat):∀m∈ms.filter (KB k),MG ((k+1:Nat):Int) m:=λm h=>by
 obtain⟨h1,h2⟩:=List.mem_filter.mp h
 unfold KB at h2
 rw[decide_eq_true_eq,L3] at h2
 obtain⟨s,o,a,b⟩:=hm m h1
 exact⟨s,⟨o.1,by omega⟩,⟨a.1,by omega⟩,b.1,by omega⟩
theorem Oz {c:List Int}{k:Nat}(h1:c.length=k)(h2:∀x∈c,0<=x/\x<(n:Int)){j:Nat}(hj:j<n):∀i,0<=i->i<((k+1:Nat):Int)->atR (c++[(j:Int)]) i= .ok (Ja (c++[(j:Int)]) i:Int)/\Ja (c++[(j:Int)]) i<n:=
 V4 (k:=k+1) (by simp[h1]) λx hx=>by
  rcases List.mem_append.mp hx with z |z
  ·exact h2 x z
  ·rw[List.mem_singleton] at z;omega
theorem RA {c:List Int}{j:Int}(h:c.length<=1000):((chk ([j].length<=sizeLine) (Rs.ok [j])).bind λx=>NL c x)= .ok (c++[j]):=by
 rw[Xr (sz (by simp)),Rs.okb]
 exact Xr (sz (by simp;omega))
theorem Hc {N:Int}{k:Nat}{T:List (List Int)}(hk:k<=900)(hl:ms.length<=1000)(hm:∀m∈ms,MG N m)(hT:Ps n k T)(hb:T.length*n<=90000)(hn:n<=1000):YJ T (Yk n f) ((ms.filter (KB k)).map QS)= .ok (G5 n f (ms.filter (KB k)) T):=by
 unfold YJ Zj;dsimp only
 simp only[Rs.okb,XB]
 rw[outer (n:=n) (f:=f) (ms:=ms.filter (KB k)) hb,Rs.okb]
 intro g c hc hg
 obtain⟨h1,h2⟩:=hT.2 c hc
 rw[Yo (by omega),Rs.okb,Jd (p:=λj=>(ms.filter (KB k)).all (QB f (Ja (c++[j])))) (h:=λj=>c++[j]) (by simp;omega),Rs.okb]
 ·rfl
 intro g' a ha hg'
 obtain⟨j,hj,rfl⟩:=Yy ha
 rw[RA (by omega),Rs.okb,GX (cn:=Ja (c++[(j:Int)])) (Nat.le_trans (List.length_filter_le ..) hl) (Oz h1 h2 hj) (LI hm k),Xt,Rs.okb]
 cases(ms.filter (KB k)).all (QB f (Ja (c++[(j:Int)]))) with
 |true=>rw[if_pos rfl,Xr (FK (by omega))];rfl
 |false=>rw[if_neg Bool.false_ne_true];rfl
theorem MQ (k:Nat):(ms.map QS).filter (λt=>decide (K0 [t.1,t.2.1,t.2.2]=(k:Int)))=(ms.filter (KB k)).map QS:=by
 induction ms with
 |nil=>rfl
 |cons m t ih=>
  have e:decide (K0 [(QS m).1,(QS m).2.1,(QS m).2.2]=(k:Int))=KB k m:=by
   unfold QS KB
   rw[L3]
   by_cases s:m.2.1=1
   ·rw[if_pos s,L3]
    congr 1
    rw[Int.max_comm m.2.2.2.1 m.2.2.1]
   ·rw[if_neg s,L3]
    congr 1
    rw[Int.max_comm m.2.2.2.2 m.2.2.1,Int.max_assoc,Int.max_comm m.2.2.2.2, ←Int.max_assoc]
  rw[List.map_cons,List.filter_cons,List.filter_cons,e,ih]
  cases KB k m<;> rfl
end
section
variable {D:List (List Int)×List (Int×Int)}{n K:Nat}{f:Nat->Nat->Nat}
theorem LJ (h:DG D)(hn:0<n)(h24:n<=100)(hK:XM D.1=(K:Int))(hp:n^K<=65000)(hK2:K<=900){ms:List M5}(e1:Z7 D= .ok ms)(hl:ms.length<=1000)(hm:∀m∈ms,MG (XM D.1) m):YE D (Yk n f)= .ok (TT n f ms K):=by
 unfold YE Z3;dsimp only
 simp only[Rs.okb,XB]
 rw[KF h.few h.short,Xt,Rs.okb,hK]
 have er:Yu (n:Int) (K:Int)= .ok ():=by
  unfold Yu YU;dsimp only
  simp only[Rs.okb]
  rw[Yo (by omega),Rs.okb]
  apply Ok.eq
  refine Ok.bind (Ok.forN (λi (g:Int)=>g=((n^i:Nat):Int)) rfl λi a g ha hg=>?_) λg hg=>?_
  ·subst hg
   rw[Zb (by omega) (by omega),Rs.okb]
   refine⟨_,rfl,?_⟩
   rw[Nat.pow_succ]
   exact(Int.natCast_mul _ _).symm
  ·rw[XS] at hg
   subst hg
   rw[if_neg (by simp only[decide_eq_true_eq];omega)]
   exact⟨_,rfl,rfl⟩
 rw[er,Xt,Rs.okb,NK e1 hl,Xt,Rs.okb,Xr (sz (by simp)),Rs.okb,Yo (by omega),Rs.okb]
 apply Ok.eq
 refine Ok.bind (Ok.forN (λk (T:List (List Int))=>T=TT n f ms k) rfl λk a T ha hT=>?_) λT hT=>?_
 ·obtain⟨rfl,hk⟩:=XZ ha
  subst hT
  have hc:=Zz (n:=n) (f:=f) (ms:=ms) k
  have hpk:n^(k+1)<=65000:=Nat.le_trans (Hk hn (by omega)) hp
  have hb:(TT n f ms k).length*n<=90000:=by
   have:=Nat.mul_le_mul_right n hc.1
   have e:n^(k+1)=n^k*n:=Nat.pow_succ ..
   omega
  rw[UK (as:=ms.map QS) (f:=λt=>Rs.ok t) (p:=λt:Int×Int×Int=>decide (K0 [t.1,t.2.1,t.2.2]=(k:Int))) (h:=λt=>t) (sz (by rw[List.length_map];omega)) (λt _=>(by rw[show Rq [t.1,t.2.1,t.2.2]= .ok (K0 [t.1,t.2.1,t.2.2]) from rfl];rfl)) λ_ _ _=>rfl,List.map_id',Rs.okb,MQ,Hc (by omega) hl hm hc hb (by omega),Xt]
  exact⟨_,rfl,rfl⟩
 ·rw[XS] at hT
  exact⟨_,rfl,hT⟩
theorem Bl (l:List Int):Zi l= .ok true:=by
 unfold Zi QI;dsimp only
 simp only[Rs.okb]
 rw[if_neg (by decide),Jc]
 ·rfl
 intro a _
 rfl
theorem Hm (h:D.1.length<=1000):VU D= .ok D:=by
 unfold VU EF;dsimp only
 simp only[Rs.okb]
 rw[Zh (h:=λa=>a) (sz (by omega)) λ_ _=>rfl,List.map_id',Rs.okb]
end
theorem HE (ws:List (List Int)):JN ws<=ws.length:=by
 unfold JN
 exact List.length_filter_le ..
section
variable {n:Nat}{f:Nat->Nat->Nat}{ms:List M5}
noncomputable def mx (m:M5):Int:=K0 [m.2.2.1,m.2.2.2.1,m.2.2.2.2]
theorem Jk {cn cn':Int->Nat}{m:M5}(h1:cn m.2.2.1=cn' m.2.2.1)(h2:cn m.2.2.2.1=cn' m.2.2.2.1)(h3:cn m.2.2.2.2=cn' m.2.2.2.2):QB f cn m=QB f cn' m:=by
 unfold QB
 rw[h1,h2,h3]
theorem Hw {c:List Int}{j:Int}{i:Int}(h0:0<=i)(h:i<(c.length:Int)):Ja (c++[j]) i=Ja c i:=by
 unfold Ja
 rw[List.getD_eq_getElem?_getD,List.getD_eq_getElem?_getD,List.getElem?_append_left (by omega)]
theorem F4 {c:List Int}{j:Int}{N:Int}{m:M5}(hm:MG N m)(hk:mx m<(c.length:Int)):QB f (Ja (c++[j])) m=QB f (Ja c) m:=by
 have e:mx m=max (max m.2.2.1 m.2.2.2.1) m.2.2.2.2:=L3 ..
 obtain⟨_,h1,h2,h3⟩:=hm
 exact Jk (Hw h1.1 (by omega)) (Hw h2.1 (by omega)) (Hw h3.1 (by omega))
noncomputable def Ka (f:Nat->Nat->Nat)(ms:List M5)(k:Nat)(c:List Int):Prop:=∀ m∈ms,mx m<(k:Int)->QB f (Ja c) m=true
theorem J9 {c d:List Int}:d∈Vn n f ms c↔∃j:Nat,j<n/\(∀m∈ms,QB f (Ja (c++[(j:Int)])) m=true)/\d=c++[(j:Int)]:=by
 unfold Vn
 rw[List.mem_map]
 constructor
 ·rintro⟨j,hj,rfl⟩
  obtain⟨h1,h2⟩:=List.mem_filter.mp hj
  obtain⟨i,hi,rfl⟩:=Yy h1
  exact⟨i,hi,List.all_eq_true.mp h2,rfl⟩
 ·rintro⟨j,hj,h,rfl⟩
  exact⟨(j:Int),List.mem_filter.mpr ⟨List.mem_map.mpr ⟨j,List.mem_range.mpr hj,rfl⟩,List.all_eq_true.mpr h⟩,rfl⟩
theorem JD {N:Int}(hm:∀m∈ms,MG N m):∀(k:Nat) (c:List Int),c∈TT n f ms k↔c.length=k/\(∀x∈c,0<=x/\x<(n:Int))/\Ka f ms k c:=by
 intro k
 induction k with
 |zero=>
  intro c
  constructor
  ·intro h
   have:c=[]:=by simpa[TT] using h
   subst this
   refine⟨rfl,(λx hx=>nomatch hx),λm hmm hk=>?_⟩
   have e:mx m=max (max m.2.2.1 m.2.2.2.1) m.2.2.2.2:=L3 ..
   obtain⟨_,h1,_⟩:=hm m hmm
   omega
  ·rintro⟨h,_⟩
   rw[List.length_eq_zero_iff.mp h]
   simp[TT]
 |succ k ih=>
  intro d
  show d∈(TT n f ms k).flatMap (Vn n f (ms.filter (KB k)))↔_
  rw[List.mem_flatMap]
  constructor
  ·rintro⟨c,hc,hd⟩
   obtain⟨hl,hx,hh⟩:=(ih c).mp hc
   obtain⟨j,hj,hj2,rfl⟩:=J9.mp hd
   refine⟨by simp[hl],λx h=>?_,λm hmm hk=>?_⟩
   ·rcases List.mem_append.mp h with h |h
    ·exact hx x h
    ·rw[List.mem_singleton.mp h];omega
   ·by_cases e:mx m=(k:Int)
    ·exact hj2 m (List.mem_filter.mpr ⟨hmm,decide_eq_true e⟩)
    ·rw[F4 (hm m hmm) (by omega)]
     exact hh m hmm (by omega)
  ·rintro⟨hl,hx,hh⟩
   have hne:d≠ []:=λz=>by rw[z] at hl;cases hl
   have hd:=List.dropLast_concat_getLast hne
   have hlast:=hx _ (List.getLast_mem hne)
   obtain⟨j,hj⟩:∃j:Nat,d.getLast hne=(j:Int):=⟨(d.getLast hne).toNat,by omega⟩
   rw[hj] at hd hlast
   have hcl:d.dropLast.length=k:=by rw[List.length_dropLast];omega
   refine⟨d.dropLast,(ih _).mpr ⟨hcl,λx h=>hx x ((List.dropLast_sublist d).mem h),λm hmm hk=>?_⟩,J9.mpr ⟨j,by omega,λm hmm=>?_,hd.symm⟩⟩
   ·have:=hh m hmm (by omega)
    rw[←hd,F4 (hm m hmm) (by omega)] at this
    exact this
   ·obtain⟨h1,h2⟩:=List.mem_filter.mp hmm
    have h2:mx m=(k:Int):=of_decide_eq_true h2
    rw[hd]
    exact hh m h1 (by omega)
end
section
variable {n:Nat}
theorem DH {α β:Type}{f:α->β}:∀{l:List α},(∀a b,a∈l->b∈l->f a=f b->a=b)->l.Nodup->(l.map f).Nodup
 | [],_,_=>List.nodup_nil
 |x::l,h,hn=>by
  have h2:=List.nodup_cons.mp hn
  refine List.nodup_cons.mpr ⟨λhm=>?_,DH (λa b ha hb=>h a b (.tail _ ha) (.tail _ hb)) h2.2⟩
  obtain⟨y,hy,e⟩:=List.mem_map.mp hm
  exact h2.1 ((h y x (.tail _ hy) (.head _) e)▸hy)
end
theorem OY {β:Type}{k:Nat}{m:Rs β}(h:k<=100):chk (k<=sizeLine) m=m:=Xr (sz (by omega))
noncomputable def sdF (n:Nat)(f g:Nat->Nat->Nat)(a b:Nat):Nat:=if a<n then(if b<n then f a b else a) else if b<n then a else g (a-n) (b-n)+n
noncomputable def prF (m:Nat)(f g:Nat->Nat->Nat)(x y:Nat):Nat:=f (x/m) (y/m)*m+g (x % m) (y % m)
section
variable {n m:Nat}{f g:Nat->Nat->Nat}
theorem V6 {N:Nat}{G:Nat->List Int}{F:List (List Int)->Int->Rs (List (List Int))}{l0:List (List Int)}(hN:N<=1000)(h0:l0.length<=1000)(hF:∀(i:Nat) (l:List (List Int)),i<N->l.length<sizeLine->F l (i:Int)= .ok (l++[G i])):forN ((List.range N).map λ(i:Nat)=>(i:Int)) l0 F= .ok (l0++(List.range N).map G):=by
 rw[Y2 (h:=λa:Int=>G a.toNat) (sz (by simp;omega)) λl hl a ha=>?_]
 ·rw[List.map_map];rfl
 ·obtain⟨i,hi,rfl⟩:=Yy ha
  rw[hF i l hi hl,Int.toNat_natCast]
theorem IW (hm:0<m)(hn:n<=24)(hm2:m<=24):YL (Yk n f) (Yk m g)= .ok (Yk (n*m) (prF m f g)):=by
 have hN:n*m<=1000:=Nat.le_trans (Nat.mul_le_mul hn hm2) (by decide)
 have hmp:(0:Int)<(m:Int):=by omega
 have small:((m:Nat):Int)<2^250:=Int.lt_of_le_of_lt (show((m:Nat):Int)<=1000 by omega) (by decide)
 have dm:∀i:Nat,i<n*m->i/m<n/\i % m<m:=λi hi=>⟨Nat.div_lt_of_lt_mul (by rw[Nat.mul_comm];exact hi),Nat.mod_lt _ hm⟩
 unfold YL ZT;dsimp only
 simp only[Rs.okb,XB]
 rw[YW (by omega) (by omega),Rs.okb,show(n:Int)*(m:Int)=((n*m:Nat):Int) by rw[Int.natCast_mul],Yo (by omega),Rs.okb]
 rw[V6 (G:=Zd (n*m) (prF m f g)) hN (by simp) λi l hi hl=>?_,Rs.okb,List.nil_append]
 ·rfl
 ·obtain⟨i1,i2⟩:=dm i hi
  rw[Rs.okb,Y2 (h:=λb:Int=>((prF m f g i b.toNat:Nat):Int)) (sz (by simp;omega)) λr hr b hb=>?_,Rs.okb,List.nil_append,Xr hl,List.map_map]
  ·rfl
  ·obtain⟨j,hj,rfl⟩:=Yy hb
   obtain⟨j1,j2⟩:=dm j hj
   have d1:∀k:Nat,Pm (k:Int) (m:Int)= .ok ((k/m:Nat):Int):=λk=>by rw[F3 hmp small];rfl
   have d2:∀k:Nat,Mg (k:Int) (m:Int)= .ok ((k % m:Nat):Int):=λk=>by rw[X7 hmp];rfl
   rw[d1,d1,d2,d2]
   simp only[Rs.okb]
   rw[Q7 i1,Rs.okb,Uy j1,Rs.okb,Q7 i2,Zb (by omega) (by omega)]
   simp only[Rs.okb]
   rw[Uy j2,Rs.okb,Rs.okb,Xr hr,Int.toNat_natCast]
   unfold prF
   rw[Int.natCast_add,Int.natCast_mul]
theorem Pd {a:Int}{k:Nat}(h:k<=1000):Bm [a] (k:Int)= .ok (List.replicate k a):=by
 unfold Bm
 rw[Xr ⟨by omega,by omega,sz (by simp;omega)⟩,Int.toNat_natCast]
 congr 1
 induction k with
 |zero=>rfl
 |succ k ih=>rw[List.replicate_succ,List.flatten_cons,ih (by omega),List.replicate_succ];rfl
theorem LQ (hn:n<=24)(hm:m<=24):Y5 (Yk n f) (Yk m g)= .ok (Yk (n+m) (sdF n f g)):=by
 unfold Y5 Z8;dsimp only
 simp only[Rs.okb,XB]
 rw[Yo (by omega),Rs.okb,V6 (G:=λa=>Zd n f a++List.replicate m (a:Int)) (by omega) (by simp) λi l hi hl=>?_,Rs.okb,Yo (by omega),Rs.okb,List.nil_append,
  V6 (G:=λa=>List.replicate n ((a+n:Nat):Int)++(Zd m g a).map λx=>x+(n:Int)) (by omega) (by simp;omega) λi l hi hl=>?_,Rs.okb]
 ·congr 1
  apply List.ext_getElem?
  intro a
  by_cases ha:a<n+m
  ·rw[QX ha]
   by_cases c:a<n
   ·rw[List.getElem?_append_left (by simp;exact c),List.getElem?_map,List.getElem?_range c]
    show some (Zd n f a++List.replicate m (a:Int))=some _
    congr 1
    apply List.ext_getElem?
    intro b
    by_cases hb:b<n+m
    ·rw[Za hb,sdF,if_pos c]
     by_cases c2:b<n
     ·rw[List.getElem?_append_left (by rw[XD];exact c2),Za c2,if_pos c2]
     ·rw[List.getElem?_append_right (by rw[XD];omega),XD,List.getElem?_replicate,if_pos (by omega),if_neg c2]
    ·rw[List.getElem?_eq_none (by simp[XD];omega),List.getElem?_eq_none (by rw[XD];omega)]
   ·rw[List.getElem?_append_right (by simp;omega)]
    simp only[List.length_map,List.length_range]
    rw[List.getElem?_map,List.getElem?_range (by omega)]
    show some (List.replicate n ((a-n+n:Nat):Int)++(Zd m g (a-n)).map λx=>x+(n:Int))=some _
    congr 1
    apply List.ext_getElem?
    intro b
    by_cases hb:b<n+m
    ·rw[Za hb,sdF,if_neg c]
     by_cases c2:b<n
     ·rw[List.getElem?_append_left (by simp;exact c2),List.getElem?_replicate,if_pos c2,if_pos c2,show a-n+n=a by omega]
     ·rw[List.getElem?_append_right (by simp;omega),List.length_replicate,List.getElem?_map,Za (by omega),if_neg c2]
      show some ((g (a-n) (b-n):Int)+(n:Int))=some _
      congr 1
    ·rw[List.getElem?_eq_none (by simp[XD];omega),List.getElem?_eq_none (by rw[XD];omega)]
  ·rw[List.getElem?_eq_none (by simp;omega),List.getElem?_eq_none (by rw[XB];omega)]
 ·rw[OY (by simp),Rs.okb,show((i:Int)+(n:Int))=((i+n:Nat):Int) by omega,Pd (by omega),Rs.okb,Q7 hi,Rs.okb,Zh (h:=λx=>x+(n:Int)) (sz (by rw[XD];omega)) λ_ _=>rfl,Rs.okb]
  rw[show NL (List.replicate n ((i+n:Nat):Int)) ((Zd m g i).map λx=>x+(n:Int))= .ok _ from Xr (sz (by simp[XD];omega)),Rs.okb,Xr hl]
 ·rw[Q7 hi,Rs.okb,Rs.okb,OY (by simp),Rs.okb,Pd (by omega),Rs.okb]
  rw[show NL (Zd n f i) (List.replicate m (i:Int))= .ok _ from Xr (sz (by simp[XD];omega)),Rs.okb,Xr hl]
end
theorem NJ {K q n m:Nat}(hK:K<=12)(hn:0<n)(hq:n<=q)(hm:m<=q)(h:q^K<=81):(n+m)^K<=65000:=by
 have h1:(n+m)^K<=(2*q)^K:=Nat.pow_le_pow_left (by omega) K
 rw[Nat.mul_pow] at h1
 by_cases c:q=1
 ·subst c
  rw[Nat.one_pow,Nat.mul_one] at h1
  have:2^K<=2^12:=Nat.pow_le_pow_right (by decide) hK
  exact Nat.le_trans h1 (Nat.le_trans this (by decide))
 ·have h2:2^K<=q^K:=Nat.pow_le_pow_left (by omega) K
  exact Nat.le_trans h1 (Nat.le_trans (Nat.mul_le_mul (Nat.le_trans h2 h) h) (by decide))
section
variable {n K:Nat}{f:Nat->Nat->Nat}{ms:List M5}{D:List (List Int)×List (Int×Int)}
theorem Eh {α:Type}(d:List (List Int×α))(x:List Int):(JR d x).isSome=true↔x∈d.map λkx=>kx.1:=by
 unfold JR
 rw[Option.isSome_map,List.find?_isSome,List.mem_map]
 simp
theorem Nv (h:DG D)(hK:XM D.1=(K:Int))(hK2:K<=900):Ok (Vz D 81) λs=>∃ q:Nat,s=(q:Int)/\1<=q/\q<=6/\q^K<=81:=by
 unfold Vz GI;dsimp only
 simp only[Rs.okb]
 rw[Kx h.short,Xt, ←h.count,hK,Rs.okb]
 refine Ok.bind (Ok.imp (QN (λg:Int=>∃ q:Nat,g=(q:Int)/\1<=q/\q<=6/\q^K<=81) (λg=>6-g.toNat) (λg hg=>?_) 8 1 ⟨1,rfl,by decide,by decide,by rw[Nat.one_pow];decide⟩ (by decide)) λg hg=>hg.1) λs hs=>⟨_,rfl,hs⟩
 obtain⟨q,rfl,q1,q6,qp⟩:=hg
 have e:(q:Int)+1=((q+1:Nat):Int):=by omega
 refine⟨decide ((q:Int)<6)&&decide ((((q+1)^K:Nat):Int)<=81),?_,λc=>?_⟩
 ·rw[e,HZ (by omega) (by omega),Xt,Rs.okb]
  exact Ly λ_=>rfl
 ·rw[Bool.and_eq_true,decide_eq_true_eq,decide_eq_true_eq] at c
  refine⟨_,rfl,⟨q+1,e,by omega,by omega,by omega⟩,?_⟩
  show 6-((q:Int)+1).toNat<6-((q:Int)).toNat
  omega
theorem Lu (h:DG D)(hn:0<n)(h24:n<=100)(hK:XM D.1=(K:Int))(hp:n^K<=7000)(hK2:K<=900){ms:List M5}(e2:Y1 D= .ok ms)(hl:ms.length<=1000)(hm:∀m∈ms,MG (XM D.1) m):DV D (Yk n f)= .ok (TT n f ms K):=by
 unfold DV Mu;dsimp only
 simp only[Rs.okb]
 rw[e2,Xt]
 simp only[Rs.okb]
 rw[Xr (sz (by simp)),Kx h.short,Xt, ←h.count,hK,XB]
 simp only[Rs.okb]
 rw[Yo (by omega),Yo (by omega)]
 simp only[Rs.okb]
 apply Ok.eq
 refine Ok.bind (Ok.forN (λk (T:List (List Int))=>T=TT n f ms k) rfl λk a T ha hT=>?_) λT hT=>?_
 ·obtain⟨rfl,hk⟩:=XZ ha
  subst hT
  have hc:=Zz (n:=n) (f:=f) (ms:=ms) k
  have hpk:n^(k+1)<=7000:=Nat.le_trans (Hk hn (by omega)) hp
  have hb:(TT n f ms k).length*n<=90000:=by
   have:=Nat.mul_le_mul_right n hc.1
   have e:n^(k+1)=n^k*n:=Nat.pow_succ ..
   omega
  rw[UK (p:=KB k) (h:=λm=>m) (sz (by omega)) (λm _=>?_) λ_ _ _=>rfl,List.map_id',Rs.okb]
  ·rw[outer (n:=n) (f:=f) (ms:=ms.filter (KB k)) hb,Rs.okb]
   ·exact⟨_,rfl,rfl⟩
   intro g c hcm hg
   obtain⟨h1,h2⟩:=hc.2 c hcm
   rw[Jd (p:=λj=>(ms.filter (KB k)).all (QB f (Ja (c++[j])))) (h:=λj=>c++[j]) (by simp;omega),Rs.okb]
   ·rfl
   intro g' a ha hg'
   obtain⟨j,hj,rfl⟩:=Yy ha
   rw[RA (by omega),Rs.okb,Dc (cn:=Ja (c++[(j:Int)])) (Oz h1 h2 hj) (LI hm k),Xt,Rs.okb]
   cases(ms.filter (KB k)).all (QB f (Ja (c++[(j:Int)]))) with
   |true=>rw[if_pos rfl,Rs.okb,Xr (FK (by omega))];rfl
   |false=>rw[if_neg Bool.false_ne_true];rfl
  ·rw[Xr (by simp[HT.sIx])]
   rfl
 ·rw[XS] at hT
  exact⟨_,rfl,hT⟩
theorem N7:∀{c c':List Int}{j j':Int},c.length=c'.length->ltG ltI c c'=true->ltG ltI (c++[j]) (c'++[j'])=true:=by
 intro c
 induction c with
 |nil=>
  intro c' j j' h hl
  cases c' with
  |nil=>cases hl
  |cons=>cases h
 |cons a c ih=>
  intro c' j j' h hl
  cases c' with
  |nil=>cases h
  |cons b c'=>
   show(if a=b then ltG ltI (c++[j]) (c'++[j']) else ltI a b)=true
   have hl:(if a=b then ltG ltI c c' else ltI a b)=true:=hl
   by_cases e:a=b
   ·rw[if_pos e] at hl⊢
    exact ih (Nat.succ.inj h) hl
   ·rw[if_neg e] at hl⊢
    exact hl
theorem LW {c:List Int}{j j':Int}(h:j<j'):ltG ltI (c++[j]) (c++[j'])=true:=by
 induction c with
 |nil=>
  show(if j=j' then _ else decide (j<j'))=true
  rw[if_neg (by omega)]
  exact decide_eq_true h
 |cons a c ih=>
  show(if a=a then ltG ltI (c++[j]) (c++[j']) else _)=true
  rw[if_pos rfl]
  exact ih
theorem GA:∀k,(TT n f ms k).Pairwise λa b=>ltG ltI a b=true:=by
 intro k
 induction k with
 |zero=>exact List.pairwise_singleton ..
 |succ k ih=>
  show((TT n f ms k).flatMap (Vn n f (ms.filter (KB k)))).Pairwise _
  rw[List.pairwise_flatMap]
  refine⟨λc _=>?_,ih.imp_of_mem fun {a b} ha hb hab x hx y hy=>?_⟩
  ·unfold Vn
   rw[List.pairwise_map]
   refine List.Pairwise.filter _ ?_
   rw[List.pairwise_map]
   exact List.pairwise_lt_range.imp λh=>LW (by omega)
  ·obtain⟨j,_,_,rfl⟩:=J9.mp hx
   obtain⟨j',_,_,rfl⟩:=J9.mp hy
   exact N7 ((((Zz (n:=n) (f:=f) (ms:=ms) k).2 a ha).1).trans ((Zz (n:=n) (f:=f) (ms:=ms) k).2 b hb).1.symm) hab
theorem JX (k:Nat):(TT n f ms k).Nodup:=(GA k).imp fun {a b} h e=>by
 rw[e,(V1 Kt).irr] at h
 cases h
theorem U6 (h:DG D)(hn:0<n)(h24:n<=100)(hK:XM D.1=(K:Int))(hp:n^K<=65000)(hK2:K<=900)(e1:Z7 D= .ok ms)(hl:ms.length<=1000)(hm:∀m∈ms,MG (XM D.1) m):Qb D (Yk n f)= .ok (some (TT n f ms K)):=by
 unfold Qb
 simp only[Rs.okb]
 rw[Hm h.few,Xt,Rs.okb,Zh (h:=λa=>a) (by rw[XB];exact sz (by omega)) λ_ _=>rfl,List.map_id',Rs.okb,LJ h hn h24 hK hp hK2 e1 hl hm,Xt,Rs.okb,if_neg (by decide),Jc (g:=()) λc _=>?_,Rs.okb,Q3]
 rw[Bl,Xt]
 rfl
end
theorem KG {α β:Type}{F:List β->α->Rs (List β)}{h:α->List β}{B:Nat}:∀{as:List α}{g:List β},g.length+as.length*B<=90000->(∀a∈as,(h a).length=B)->(∀(g:List β) a,a∈as->g.length+B<=90000->F g a= .ok (g++h a))->forN as g F= .ok (g++as.flatMap h)
 | [],g,_,_,_=>by rw[List.flatMap_nil,List.append_nil];rfl
 |a::as,g,hl,hB,hf=>by
  show(F g a).bind _=_
  rw[List.length_cons,Nat.succ_mul] at hl
  have hb:=hB a List.mem_cons_self
  rw[hf g a List.mem_cons_self (by omega),Rs.okb,List.flatMap_cons, ←List.append_assoc]
  exact KG (by rw[List.length_append,hb];omega) (λb h=>hB b (List.mem_cons_of_mem _ h)) λg b h=>hf g b (List.mem_cons_of_mem _ h)
section
variable {n m K:Nat}{f g:Nat->Nat->Nat}{ms:List M5}{D:List (List Int)×List (Int×Int)}
noncomputable def zp (m:Nat)(a b:List Int):List Int:=List.zipWith (λx y=>x*(m:Int)+y) a b
theorem Ll:∀{a b:List Int},a.length=b.length->(∀y∈b,0<=y/\y<(m:Int))->(zp m a b).map (λx=>x/(m:Int))=a
 | [],_,_,_=>rfl
 |x::a,[],h,_=>nomatch h
 |x::a,y::b,h,hb=>by
  obtain⟨h0,h1⟩:=hb y List.mem_cons_self
  show(x*(m:Int)+y)/(m:Int)::(zp m a b).map _=_
  rw[Ll (Nat.succ.inj h) λy h=>hb y (List.mem_cons_of_mem _ h),Int.add_comm,Int.add_mul_ediv_right _ _ (by omega),Int.ediv_eq_zero_of_lt h0 h1,Int.zero_add]
theorem LG:∀{a b:List Int},a.length=b.length->(∀y∈b,0<=y/\y<(m:Int))->(zp m a b).map (λx=>x % (m:Int))=b
 | [],[],_,_=>rfl
 | [],_::_,h,_=>nomatch h
 |x::a,[],h,_=>nomatch h
 |x::a,y::b,h,hb=>by
  obtain⟨h0,h1⟩:=hb y List.mem_cons_self
  show(x*(m:Int)+y) % (m:Int)::(zp m a b).map _=_
  rw[LG (Nat.succ.inj h) λy h=>hb y (List.mem_cons_of_mem _ h),Int.add_comm,Int.add_mul_emod_self_right,Int.emod_eq_of_lt h0 h1]
theorem N5:∀c:List Int,zp m (c.map λx=>x/(m:Int)) (c.map λx=>x % (m:Int))=c
 | []=>rfl
 |x::c=>by
  show(x/(m:Int)*(m:Int)+x % (m:Int))::zp m _ _=_
  rw[N5 c,Int.mul_comm,Int.mul_ediv_add_emod]
theorem VW {c:List Int}{u:Int->Int}{v:Nat->Nat}(hc:∀x∈c,0<=x)(hu:∀k:Nat,u (k:Int)=(v k:Int)){i:Int}(h:0<=i)(h1:i<(c.length:Int)):Ja (c.map u) i=v (Ja c i):=by
 unfold Ja
 have hi:i.toNat<c.length:=by omega
 rw[List.getD_eq_getElem?_getD,List.getElem?_map,List.getElem?_eq_getElem hi,List.getD_eq_getElem?_getD (l:=c),List.getElem?_eq_getElem hi]
 show(u c[i.toNat]).toNat=v (c[i.toNat]).toNat
 have:=hc c[i.toNat] (List.getElem_mem hi)
 obtain⟨k,hk⟩:∃k:Nat,c[i.toNat]=(k:Int):=⟨(c[i.toNat]).toNat,by omega⟩
 rw[hk,hu,Int.toNat_natCast,Int.toNat_natCast]
theorem Fz (hm:0<m)(hg:∀a b,a<m->b<m->g a b<m)(cn:Int->Nat)(e:M5):QB (prF m f g) cn e=true↔QB f (λi=>cn i/m) e=true/\QB g (λi=>cn i % m) e=true:=by
 have key:∀x y z:Nat,(((prF m f g x y:Nat):Int)=(z:Int))↔((f (x/m) (y/m):Nat):Int)=((z/m:Nat):Int)/\((g (x % m) (y % m):Nat):Int)=((z % m:Nat):Int):=λx y z=>by
  have hlt:=hg _ _ (Nat.mod_lt x hm) (Nat.mod_lt y hm)
  rw[Int.natCast_inj,Int.natCast_inj,Int.natCast_inj]
  unfold prF
  generalize g (x % m) (y % m)=q at hlt
  generalize f (x/m) (y/m)=p
  constructor
  ·rintro rfl
   rw[Nat.add_comm,Nat.add_mul_div_right _ _ hm,Nat.div_eq_of_lt hlt,Nat.add_mul_mod_self_right,Nat.mod_eq_of_lt hlt]
   exact⟨(Nat.zero_add _).symm,rfl⟩
  ·rintro⟨rfl,rfl⟩
   rw[Nat.mul_comm];exact Nat.div_add_mod z m
 unfold QB
 split
 ·rw[decide_eq_true_eq,decide_eq_true_eq,decide_eq_true_eq];exact key _ _ _
 ·rw[decide_eq_true_eq,decide_eq_true_eq,decide_eq_true_eq];exact key _ _ _
theorem NX (hm:0<m)(hg:∀a b,a<m->b<m->g a b<m)(he:∀e∈ms,MG (K:Int) e)(c:List Int):c∈TT (n*m) (prF m f g) ms K↔c.length=K/\(∀x∈c,0<=x)/\(c.map λx=>x/(m:Int))∈TT n f ms K/\(c.map λx=>x % (m:Int))∈TT m g ms K:=by
 have hmp:(0:Int)<(m:Int):=by omega
 rw[JD he,JD he,JD he]
 have hh:c.length=K->(∀x∈c,0<=x)->(Ka (prF m f g) ms K c↔Ka f ms K (c.map λx=>x/(m:Int))/\Ka g ms K (c.map λx=>x % (m:Int))):=λhl hc=>by
  have k1:∀e∈ms,QB f (Ja (c.map λx=>x/(m:Int))) e=QB f (λi=>Ja c i/m) e:=λe h=>by
   obtain⟨_,h1,h2,h3⟩:=he e h
   exact Jk (VW hc (v:=λk=>k/m) (λk=>rfl) h1.1 (by omega)) (VW hc (v:=λk=>k/m) (λk=>rfl) h2.1 (by omega)) (VW hc (v:=λk=>k/m) (λk=>rfl) h3.1 (by omega))
  have k2:∀e∈ms,QB g (Ja (c.map λx=>x % (m:Int))) e=QB g (λi=>Ja c i % m) e:=λe h=>by
   obtain⟨_,h1,h2,h3⟩:=he e h
   exact Jk (VW hc (v:=λk=>k % m) (λk=>rfl) h1.1 (by omega)) (VW hc (v:=λk=>k % m) (λk=>rfl) h2.1 (by omega)) (VW hc (v:=λk=>k % m) (λk=>rfl) h3.1 (by omega))
  constructor
  ·intro h
   exact⟨λe h1 h2=>by rw[k1 e h1];exact((Fz hm hg _ e).mp (h e h1 h2)).1,λe h1 h2=>by rw[k2 e h1];exact((Fz hm hg _ e).mp (h e h1 h2)).2⟩
  ·rintro⟨p,q⟩ e h1 h2
   exact(Fz hm hg _ e).mpr ⟨by rw[←k1 e h1];exact p e h1 h2,by rw[←k2 e h1];exact q e h1 h2⟩
 constructor
 ·rintro⟨hl,hx,hd⟩
  have hc:∀x∈c,0<=x:=λx h=>(hx x h).1
  obtain⟨p,q⟩:=(hh hl hc).mp hd
  refine⟨hl,hc,⟨by rw[List.length_map];exact hl,λx h=>?_,p⟩,⟨by rw[List.length_map];exact hl,λx h=>?_,q⟩⟩
  ·obtain⟨y,hy,rfl⟩:=List.mem_map.mp h
   obtain⟨y0,y1⟩:=hx y hy
   exact⟨Int.ediv_nonneg y0 (by omega),Int.ediv_lt_of_lt_mul hmp (by rw[Int.natCast_mul] at y1;exact y1)⟩
  ·obtain⟨y,hy,rfl⟩:=List.mem_map.mp h
   exact⟨Int.emod_nonneg y (by omega),Int.emod_lt_of_pos y hmp⟩
 ·rintro⟨hl,hc,⟨_,p1,p2⟩,⟨_,q1,q2⟩⟩
  refine⟨hl,λx h=>⟨hc x h,?_⟩,(hh hl hc).mpr ⟨p2,q2⟩⟩
  have:=(p1 _ (List.mem_map.mpr ⟨x,h,rfl⟩)).2
  rw[Int.natCast_mul]
  exact(Int.ediv_lt_iff_lt_mul hmp).mp this
noncomputable def MB (m:Nat)(A B:List (List Int)):List (List Int):=A.flatMap λa=>B.map (zp m a)
theorem Ot (hm:0<m)(hg:∀a b,a<m->b<m->g a b<m)(he:∀e∈ms,MG (K:Int) e):(MB m (TT n f ms K) (TT m g ms K)).Nodup/\TT (n*m) (prF m f g) ms K=UJ (ltG ltI) (MB m (TT n f ms K) (TT m g ms K)):=by
 have tA:=Zz (n:=n) (f:=f) (ms:=ms) K
 have tB:=Zz (n:=m) (f:=g) (ms:=ms) K
 have dv:∀a∈TT n f ms K,∀b∈TT m g ms K,(zp m a b).map (λx=>x/(m:Int))=a:=λa ha b hb=>Ll ((tA.2 a ha).1.trans (tB.2 b hb).1.symm) (tB.2 b hb).2
 have md:∀a∈TT n f ms K,∀b∈TT m g ms K,(zp m a b).map (λx=>x % (m:Int))=b:=λa ha b hb=>LG ((tA.2 a ha).1.trans (tB.2 b hb).1.symm) (tB.2 b hb).2
 have nd:(MB m (TT n f ms K) (TT m g ms K)).Nodup:=by
  unfold MB List.Nodup
  rw[List.pairwise_flatMap]
  refine⟨λa ha=>?_,List.Pairwise.imp_of_mem (fun {a a'} ha ha' ne x hx y hy e=>?_) (JX (n:=n) (f:=f) (ms:=ms) K)⟩
  ·exact DH (λb b' hb hb' e=>by rw[←md a ha b hb,e,md a ha b' hb']) (JX K)
  ·obtain⟨b,hb,rfl⟩:=List.mem_map.mp hx
   obtain⟨b',hb',rfl⟩:=List.mem_map.mp hy
   exact ne (by rw[←dv a ha b hb,e,dv a' ha' b' hb'])
 refine⟨nd,Df (V1 Kt) nd ((List.perm_ext_iff_of_nodup (JX K) nd).mpr λc=>?_) (GA K)⟩
 rw[NX hm hg he]
 constructor
 ·rintro⟨_,_,h1,h2⟩
  exact List.mem_flatMap.mpr ⟨_,h1,List.mem_map.mpr ⟨_,h2,N5 c⟩⟩
 ·intro h
  obtain⟨a,ha,h⟩:=List.mem_flatMap.mp h
  obtain⟨b,hb,rfl⟩:=List.mem_map.mp h
  have la:=(tA.2 a ha).1
  have lb:=(tB.2 b hb).1
  refine⟨by unfold zp;rw[List.length_zipWith,la,lb,Nat.min_self],λx hx=>?_,by rw[dv a ha b hb];exact ha,by rw[md a ha b hb];exact hb⟩
  unfold zp at hx
  obtain⟨i,hi,rfl⟩:=List.mem_iff_getElem.mp hx
  rw[List.getElem_zipWith]
  rw[List.length_zipWith] at hi
  have h1:=(tA.2 a ha).2 a[i] (List.getElem_mem (by omega))
  have h2:=(tB.2 b hb).2 b[i] (List.getElem_mem (by omega))
  have:=Int.mul_nonneg h1.1 (show(0:Int)<=(m:Int) by omega)
  omega
theorem Ij (hm:0<m)(hm2:m<=100)(hg:∀a b,a<m->b<m->g a b<m)(he:∀e∈ms,MG (K:Int) e)(hK:K<=900)(hb:n^K<=81)(hb2:m^K<=81):Vr (TT n f ms K) (TT m g ms K) (m:Int)= .ok (TT (n*m) (prF m f g) ms K):=by
 have tA:=Zz (n:=n) (f:=f) (ms:=ms) K
 have tB:=Zz (n:=m) (f:=g) (ms:=ms) K
 have lA:=Nat.le_trans tA.1 hb
 have lB:=Nat.le_trans tB.1 hb2
 have hlen:(TT n f ms K).length*(TT m g ms K).length<=6561:=Nat.le_trans (Nat.mul_le_mul lA lB) (by decide)
 obtain⟨nd,ed⟩:=Ot (n:=n) (f:=f) hm hg he
 have hdl:(MB m (TT n f ms K) (TT m g ms K)).length<=6561:=by
  refine Nat.le_trans (Nat.le_of_eq ?_) hlen
  unfold MB
  generalize TT n f ms K=A
  induction A with
  |nil=>rw[List.flatMap_nil,List.length_nil,Nat.zero_mul]
  |cons a A ih=>rw[List.flatMap_cons,List.length_append,ih,List.length_map,List.length_cons,Nat.succ_mul,Nat.add_comm]
 unfold Vr Fs;dsimp only
 simp only[Rs.okb]
 rw[KG (h:=λa=>(TT m g ms K).map (zp m a)) (B:=(TT m g ms K).length) (by rw[List.length_nil,Nat.zero_add];omega) (λa _=>List.length_map _) λl a ha hl=>?_,Rs.okb,List.nil_append]
 ·show chk ((MB m _ _).length<=100000/\_) _=_
  refine(Xr ⟨Nat.le_trans hdl (by decide),nd⟩).trans ?_
  rw[ed]
  rfl
 ·rw[Y2 (h:=zp m a) (sz (by omega)) λl' hl' b hb'=>?_,Rs.okb]
  have la:=(tA.2 a ha).1
  have lb:=(tB.2 b hb').1
  rw[Yo (by omega),Rs.okb,Zh (h:=λi=>a.getD i.toNat 0*(m:Int)+b.getD i.toNat 0) (sz (by rw[XS];omega)) λi hi=>?_,Rs.okb,Xr hl']
  ·congr 3
   unfold zp
   apply List.ext_getElem?
   intro i
   rw[List.map_map,List.getElem?_map,List.getElem?_zipWith]
   by_cases hi:i<a.length
   ·rw[List.getElem?_range hi,List.getElem?_eq_getElem hi,List.getElem?_eq_getElem (by omega)]
    show some (a.getD i 0*(m:Int)+b.getD i 0)=_
    rw[List.getD_eq_getElem?_getD,List.getD_eq_getElem?_getD,List.getElem?_eq_getElem hi,List.getElem?_eq_getElem (by omega)]
    rfl
   ·rw[List.getElem?_eq_none (by rw[List.length_range];omega),List.getElem?_eq_none (by omega)]
    rfl
  ·obtain⟨i,hj,rfl⟩:=Yy hi
   rw[X9 (List.getElem?_eq_getElem hj),Rs.okb,Zb (by omega) (by omega),Rs.okb,X9 (List.getElem?_eq_getElem (show i<b.length by omega)),Rs.okb,Int.toNat_natCast,List.getD_eq_getElem?_getD,List.getD_eq_getElem?_getD,List.getElem?_eq_getElem hj,List.getElem?_eq_getElem (by omega)]
   rfl
end
section
variable {n m K:Nat}{f g:Nat->Nat->Nat}{ms:List M5}{D:List (List Int)×List (Int×Int)}
theorem Pt (he:∀e∈ms,MG (K:Int) e){c:List Int}(h:c∈TT n f ms K):c∈TT (n+m) (sdF n f g) ms K:=by
 obtain⟨hl,hx,hh⟩:=(JD he K c).mp h
 refine(JD he K c).mpr ⟨hl,λx h=>?_,λe h hk=>?_⟩
 ·have:=hx x h
  omega
 ·have q:=hh e h hk
  obtain⟨_,h1,h2,h3⟩:=he e h
  have c1:Ja c _<n:=(V4 hl hx _ h1.1 h1.2).2
  have c2:Ja c _<n:=(V4 hl hx _ h2.1 h2.2).2
  have c3:Ja c _<n:=(V4 hl hx _ h3.1 h3.2).2
  have k:∀a b,a<n->b<n->sdF n f g a b=f a b:=λa b ha hb=>by rw[sdF,if_pos ha,if_pos hb]
  unfold QB at q⊢
  rw[k _ _ c2 c1,k _ _ c3 c1]
  exact q
theorem Pw (he:∀e∈ms,MG (K:Int) e){c:List Int}(h:c∈TT m g ms K):(c.map λx=>x+(n:Int))∈TT (n+m) (sdF n f g) ms K:=by
 obtain⟨hl,hx,hh⟩:=(JD he K c).mp h
 refine(JD he K _).mpr ⟨by rw[List.length_map];exact hl,λx h=>?_,λe h hk=>?_⟩
 ·obtain⟨y,hy,rfl⟩:=List.mem_map.mp h
  have:=hx y hy
  omega
 ·have q:=hh e h hk
  obtain⟨_,h1,h2,h3⟩:=he e h
  have cn:∀i:Int,0<=i->i<(K:Int)->Ja (c.map λx=>x+(n:Int)) i=Ja c i+n:=λi i0 i1=>VW (v:=λk=>k+n) (λx h=>(hx x h).1) (λk=>rfl) i0 (by omega)
  have k:∀a b:Nat,sdF n f g (a+n) (b+n)=g a b+n:=λa b=>by rw[sdF,if_neg (by omega),if_neg (by omega),Nat.add_sub_cancel,Nat.add_sub_cancel]
  unfold QB at q⊢
  rw[cn _ h1.1 h1.2,cn _ h2.1 h2.2,cn _ h3.1 h3.2,k,k]
  split at q
  ·rename_i z
   rw[if_pos z,decide_eq_true_eq]
   rw[decide_eq_true_eq] at q
   omega
  ·rename_i z
   rw[if_neg z,decide_eq_true_eq]
   rw[decide_eq_true_eq] at q
   omega
theorem Nz {d:List (List Int×Bool)}{k:List Int}(h:k∉d.map λkx=>kx.1):Gk d k true=d++[(k,true)]:=by
 unfold Gk
 rw[if_neg]
 intro c
 obtain⟨y,hy,e⟩:=List.any_eq_true.mp c
 exact h (List.mem_map.mpr ⟨y,hy,of_decide_eq_true e⟩)
theorem Ci (d:DG D)(hn:0<n)(hn2:n<=24)(hm2:m<=24)(hK:XM D.1=(K:Int))(hK2:K<=900)(hp:(n+m)^K<=65000)(e1:Z7 D= .ok ms)(e2:Y1 D= .ok ms)(hl:ms.length<=1000)(he:∀e∈ms,MG (XM D.1) e):ZI D (Yk n f) (Yk m g) (TT n f ms K) (TT m g ms K)= .ok true:=by
 have hcol:=LJ (n:=n+m) (f:=sdF n f g) d (by omega) (by omega) hK hp hK2 e1 hl he
 have hlist:=U6 (n:=n+m) (f:=sdF n f g) d (by omega) (by omega) hK hp hK2 e1 hl he
 have hcnt:ZZ D= .ok (K:Int):=by rw[Kx d.short, ←d.count,hK]
 rw[hK] at he
 have tc:=Zz (n:=n+m) (f:=sdF n f g) (ms:=ms) K
 have nd:=JX (n:=n+m) (f:=sdF n f g) (ms:=ms) K
 have s1:∀c∈TT n f ms K,c∈TT (n+m) (sdF n f g) ms K:=λc h=>Pt he h
 have s2:∀c∈TT m g ms K,(c.map λx=>x+(n:Int))∈TT (n+m) (sdF n f g) ms K:=λc h=>Pw he h
 have hmany:Gw D (Yk (n+m) (sdF n f g))= .ok ((TT (n+m) (sdF n f g) ms K).length:Int):=by
  unfold Gw Hg;dsimp only
  simp only[Rs.okb]
  rw[hcol,Xt,Rs.okb]
 have hkeep:∀c∈TT (n+m) (sdF n f g) ms K,ZU ms (Yk (n+m) (sdF n f g)) c= .ok true:=λc h=>by
  obtain⟨cl,cx,ch⟩:=(JD he K c).mp h
  rw[Dc (n:=n+m) (f:=sdF n f g) (N:=(K:Int)) (cn:=Ja c) (λj h0 h1=>V4 cl cx j h0 h1) he]
  congr 1
  refine List.all_eq_true.mpr λe h=>ch e h ?_
  obtain⟨_,k1,k2,k3⟩:=he e h
  show K0 _<_
  rw[L3];omega
 have hlen:(TT (n+m) (sdF n f g) ms K).length<=65000:=Nat.le_trans tc.1 hp
 unfold ZI
 simp only[Rs.okb,XB]
 rw[LQ hn2 hm2,Xt,Rs.okb,hlist,Xt,Rs.okb,Hm d.few,Xt,Rs.okb,hmany,Xt,Rs.okb]
 generalize TT (n+m) (sdF n f g) ms K=T at tc nd s1 s2 hkeep hlen
 have ho:orR (Rs.ok (Option.isNone (some T))) (((HA (some T)).bind λx17=>Rs.ok (x17.length:Int)).bind λx19=>Rs.ok !decide ((T.length:Int)=x19))= .ok false:=by
  rw[show HA (some T)= .ok T from rfl,Rs.okb,Rs.okb,decide_eq_true rfl]
  rfl
 rw[ho,Rs.okb,if_neg (by decide),e2,Xt,Rs.okb,hcnt,Xt,Rs.okb,show HA (some T)= .ok T from rfl,Rs.okb]
 have step:∀(i:Nat) (a:List Int) (dg:List (List Int×Bool)),T[i]?=some a->dg=(T.take i).map (λc=>(c,true))->∃g',((orR (Rs.ok !decide ((a.length:Int)=(K:Int))) ((noE (ZU ms (Yk (n+m) (sdF n f g)) a)).bind λx45=>Rs.ok !x45)).bind λx46=>if x46=true then(Rs.ok (Ctl.ret false):Rs (Ctl Bool (List (List Int×Bool)))) else chk (dg.length<sizeLine) (Rs.ok (Ctl.nx (Gk dg a true))))= .ok (.nx g')/\g'=(T.take (i+1)).map (λc=>(c,true)):=λi a dg ha hd=>by
  have hi:=(List.getElem?_eq_some_iff.mp ha).1
  have hmem:=List.mem_of_getElem? ha
  rw[hkeep a hmem,Xt,Rs.okb,(tc.2 a hmem).1,decide_eq_true rfl,show orR (Rs.ok !true) (Rs.ok !true)= .ok false from rfl,Rs.okb,if_neg (by decide),Xr (FK (by rw[hd,List.length_map,List.length_take];omega))]
  refine⟨_,rfl,?_⟩
  rw[List.take_add_one,ha,List.map_append, ←hd]
  refine Nz λhz=>?_
  rw[hd,List.map_map] at hz
  obtain⟨c,hc,ec⟩:=List.mem_map.mp hz
  have ec:c=a:=ec
  subst ec
  obtain⟨j,hj,ej⟩:=List.mem_iff_getElem.mp hc
  rw[List.length_take] at hj
  rw[List.getElem_take] at ej
  have:=(List.getElem?_eq_some_iff.mp ha).2
  exact List.pairwise_iff_getElem.mp nd j i (by omega) hi (by omega) (ej.trans this.symm)
 obtain⟨dd,ed,hd⟩:=HS (f:=λg34 a36=>(orR (Rs.ok !decide ((a36.length:Int)=(K:Int))) ((noE (ZU ms (Yk (n+m) (sdF n f g)) a36)).bind λx45=>Rs.ok !x45)).bind λx46=>if x46=true then Rs.ok (Ctl.ret false) else chk (g34.length<sizeLine) (Rs.ok (Ctl.nx (Gk g34 a36 true)))) (λi dg=>dg=(T.take i).map (λc=>(c,true))) (as:=T) (g:=([]:List (List Int×Bool))) rfl step
 rw[List.take_length] at hd
 have hin:∀c∈T,(JR dd c).isSome=true:=λc h=>(Eh _ _).mpr (by rw[hd,List.map_map];exact List.mem_map.mpr ⟨c,h,rfl⟩)
 rw[ed,Rs.okb,Q3,Jc (g:=()) λc h=>?_,Rs.okb,Q3,Jc (g:=()) λc h=>?_,Rs.okb,Q3,Rs.okb,Rs.okb,hd,List.length_map,decide_eq_true rfl]
 ·have hc:=s2 c h
  have hcl:=(tc.2 _ hc).1
  rw[List.length_map] at hcl
  rw[Zh (h:=λx=>x+(n:Int)) (sz (by omega)) λ_ _=>rfl,Rs.okb,Rs.okb,hin _ hc]
  rfl
 ·rw[hin c (s1 c h)]
  rfl
end
theorem Ie (ns:List Int)(_:ns.length<=63):Fx ns= .ok true:=by
 refine Ok.eq ?_
 unfold Fx
 simp only[Rs.okb]
 obtain⟨D,eD,hD⟩:=IH ns (p:=0) (by decide) (most:=5) (by decide)
 have eD:Jv ns 0 5= .ok D:=eD
 have d:=DG.of hD (by decide)
 rw[eD,Xt,Rs.okb]
 obtain⟨K,hK⟩:∃K:Nat,XM D.1=(K:Int):=⟨(XM D.1).toNat,by have:=VS D.1;omega⟩
 have hK2:K<=12:=by
  have h1:=d.count
  have h2:=hD.le
  have h3:=hD.few
  have h4:JN D.1<=D.1.length:=HE D.1
  omega
 obtain⟨s,es,q,rfl,q1,q6,qp⟩:=Nv d hK (by omega)
 rw[es,Xt,Rs.okb,Rs.okb,show min (4:Int) (q:Int)=((min 4 q:Nat):Int) by omega]
 have qp':(min 4 q)^K<=81:=Nat.le_trans (Nat.pow_le_pow_left (Nat.min_le_right 4 q) K) qp
 refine Ok.bind (Ok.noE (QY ns (p:=1) (by decide) (most:=min 4 q) (by omega) (by omega))) λt1 ht1=>?_
 obtain⟨n,f,n0,nq,F,rfl⟩:=ht1
 refine Ok.bind (Ok.noE (QY ns (p:=2) (by decide) (most:=min 4 q) (by omega) (by omega))) λt2 ht2=>?_
 obtain⟨m,g,m0,mq,G,rfl⟩:=ht2
 obtain⟨ms,e1,e2,e3,e4⟩:=Cl d
 have hl:ms.length<=1000:=by rw[e3];exact d.le
 have pn:n^K<=81:=Nat.le_trans (Nat.pow_le_pow_left nq K) qp'
 have pm:m^K<=81:=Nat.le_trans (Nat.pow_le_pow_left mq K) qp'
 have pp:(n*m)^K<=65000:=by
  rw[Nat.mul_pow]
  exact Nat.le_trans (Nat.mul_le_mul pn pm) (by decide)
 have nm:n*m<=16:=Nat.le_trans (Nat.mul_le_mul (show n<=4 by omega) (show m<=4 by omega)) (by decide)
 have l1:=U6 (f:=f) d n0 (by omega) hK (by omega) (by omega) e1 hl e4
 have l2:=U6 (f:=g) d m0 (by omega) hK (by omega) (by omega) e1 hl e4
 have l3:=U6 (n:=n*m) (f:=prF m f g) d (Nat.mul_pos n0 m0) (by omega) hK pp (by omega) e1 hl e4
 have bs:=Ci (f:=f) (g:=g) d n0 (by omega) (by omega) hK (by omega) (NJ hK2 n0 nq mq qp') e1 e2 hl e4
 have a1:=Lu (f:=f) d n0 (by omega) hK (by omega) (by omega) e2 hl e4
 have a2:=Lu (f:=g) d m0 (by omega) hK (by omega) (by omega) e2 hl e4
 rw[hK] at e4
 have pe:=Ij (n:=n) (f:=f) (g:=g) m0 (by omega) G.lt e4 (by omega) pn pm
 refine Ok.of ?_
 rw[a1,Xt,Rs.okb,a2,Xt,Rs.okb,l1,Xt,Rs.okb,l2,Xt,Rs.okb,decide_eq_true rfl,decide_eq_true rfl,show orR (Rs.ok !true) (Rs.ok !true)= .ok false from rfl,Rs.okb,if_neg (by decide),IW m0 (by omega) (by omega),Xt,Rs.okb,l3,Xt,Rs.okb,XB,pe,Xt,Rs.okb,Rs.okb,decide_eq_true rfl,show orR (Rs.ok (Option.isNone (some (TT (n*m) (prF m f g) ms K)))) (Rs.ok !true)= .ok false from rfl,Rs.okb,if_neg (by decide),bs,Xt,Rs.okb,Rs.okb,if_neg (by decide),Rs.okb,decide_eq_true rfl]
theorem BW {K:PySem.W.Frag}{mg:Str->Option Value}{h:Heap}(X:K.In h)(G:h.Ns mainGlobals mg){x p0:Str}{st:Stmt}{f:Addr}{oc:Value}{od an:Option Addr}{osl:Array (Option Value)}{kV doc pm cdv ct:Value}(hb:∀(kV doc pm:Value) (an:Option Addr) (cdv ct u0:Value),bindArgs (PySem.W.fnOf x x (Yx st) (XV st) (Xg st) .none kV doc pm an cdv ct) ⟨[u0],[]⟩=pure ([p0].zip [u0]))(a:PySem.W.nsIn K mainGlobals x=some (some (.ref f)))(l:K.lookup f=some ⟨oc,od, .func (PySem.W.fnOf x x (Yx st) (XV st) (Xg st) .none kV doc pm an cdv ct),osl⟩)(c:PySem.W.codeIn K cdv x=true)(k:PySem.W.keepIn K (.ref f)=true):Def K mg x st [p0]:=⟨f,_,Z6 l c k,(Z6 l c k).binds λ_ _ _ _ _ _ us hl=>(by obtain⟨_,rfl⟩:=OX hl;exact hb ..),PySem.W.mg_of X G a⟩
theorem KA {K:PySem.W.Frag}{mg:Str->Option Value}{h:Heap}(X:K.In h)(G:h.Ns mainGlobals mg){x p0 p1:Str}{st:Stmt}{f:Addr}{oc:Value}{od an:Option Addr}{osl:Array (Option Value)}{kV doc pm cdv ct:Value}(hb:∀(kV doc pm:Value) (an:Option Addr) (cdv ct u0 u1:Value),bindArgs (PySem.W.fnOf x x (Yx st) (XV st) (Xg st) .none kV doc pm an cdv ct) ⟨[u0,u1],[]⟩=pure ([p0,p1].zip [u0,u1]))(a:PySem.W.nsIn K mainGlobals x=some (some (.ref f)))(l:K.lookup f=some ⟨oc,od, .func (PySem.W.fnOf x x (Yx st) (XV st) (Xg st) .none kV doc pm an cdv ct),osl⟩)(c:PySem.W.codeIn K cdv x=true)(k:PySem.W.keepIn K (.ref f)=true):Def K mg x st [p0,p1]:=⟨f,_,Z6 l c k,(Z6 l c k).binds λ_ _ _ _ _ _ us hl=>(by obtain⟨_,_,rfl⟩:=O0 hl;exact hb ..),PySem.W.mg_of X G a⟩
theorem HM {K:PySem.W.Frag}{mg:Str->Option Value}{h:Heap}(X:K.In h)(G:h.Ns mainGlobals mg){x p0 p1 p2:Str}{st:Stmt}{f:Addr}{oc:Value}{od an:Option Addr}{osl:Array (Option Value)}{kV doc pm cdv ct:Value}(hb:∀(kV doc pm:Value) (an:Option Addr) (cdv ct u0 u1 u2:Value),bindArgs (PySem.W.fnOf x x (Yx st) (XV st) (Xg st) .none kV doc pm an cdv ct) ⟨[u0,u1,u2],[]⟩=pure ([p0,p1,p2].zip [u0,u1,u2]))(a:PySem.W.nsIn K mainGlobals x=some (some (.ref f)))(l:K.lookup f=some ⟨oc,od, .func (PySem.W.fnOf x x (Yx st) (XV st) (Xg st) .none kV doc pm an cdv ct),osl⟩)(c:PySem.W.codeIn K cdv x=true)(k:PySem.W.keepIn K (.ref f)=true):Def K mg x st [p0,p1,p2]:=⟨f,_,Z6 l c k,(Z6 l c k).binds λ_ _ _ _ _ _ us hl=>(by obtain⟨_,_,_,rfl⟩:=Oa hl;exact hb ..),PySem.W.mg_of X G a⟩
theorem RS {K:PySem.W.Frag}{mg:Str->Option Value}{h:Heap}(X:K.In h)(G:h.Ns mainGlobals mg){x p0 p1 p2 p3:Str}{st:Stmt}{f:Addr}{oc:Value}{od an:Option Addr}{osl:Array (Option Value)}{kV doc pm cdv ct:Value}(hb:∀(kV doc pm:Value) (an:Option Addr) (cdv ct u0 u1 u2 u3:Value),bindArgs (PySem.W.fnOf x x (Yx st) (XV st) (Xg st) .none kV doc pm an cdv ct) ⟨[u0,u1,u2,u3],[]⟩=pure ([p0,p1,p2,p3].zip [u0,u1,u2,u3]))(a:PySem.W.nsIn K mainGlobals x=some (some (.ref f)))(l:K.lookup f=some ⟨oc,od, .func (PySem.W.fnOf x x (Yx st) (XV st) (Xg st) .none kV doc pm an cdv ct),osl⟩)(c:PySem.W.codeIn K cdv x=true)(k:PySem.W.keepIn K (.ref f)=true):Def K mg x st [p0,p1,p2,p3]:=⟨f,_,Z6 l c k,(Z6 l c k).binds λ_ _ _ _ _ _ us hl=>(by obtain⟨_,_,_,_,rfl⟩:=Os hl;exact hb ..),PySem.W.mg_of X G a⟩
theorem Ru {K:PySem.W.Frag}{mg:Str->Option Value}{h:Heap}(X:K.In h)(G:h.Ns mainGlobals mg){x p0 p1 p2 p3 p4:Str}{st:Stmt}{f:Addr}{oc:Value}{od an:Option Addr}{osl:Array (Option Value)}{kV doc pm cdv ct:Value}(hb:∀(kV doc pm:Value) (an:Option Addr) (cdv ct u0 u1 u2 u3 u4:Value),bindArgs (PySem.W.fnOf x x (Yx st) (XV st) (Xg st) .none kV doc pm an cdv ct) ⟨[u0,u1,u2,u3,u4],[]⟩=pure ([p0,p1,p2,p3,p4].zip [u0,u1,u2,u3,u4]))(a:PySem.W.nsIn K mainGlobals x=some (some (.ref f)))(l:K.lookup f=some ⟨oc,od, .func (PySem.W.fnOf x x (Yx st) (XV st) (Xg st) .none kV doc pm an cdv ct),osl⟩)(c:PySem.W.codeIn K cdv x=true)(k:PySem.W.keepIn K (.ref f)=true):Def K mg x st [p0,p1,p2,p3,p4]:=⟨f,_,Z6 l c k,(Z6 l c k).binds λ_ _ _ _ _ _ us hl=>(by obtain⟨_,_,_,_,_,rfl⟩:=PL hl;exact hb ..),PySem.W.mg_of X G a⟩
theorem OS {l:PySem.W.OpenLaw}{w:World}{K:PySem.W.Frag}{h:Heap}{mg:Str->Option Value}{fa f:Addr}{tk0:Tok}(X:K.In h)(G:h.Ns mainGlobals mg)(hfa:mg "law" =some (.ref fa)){od an:Option Addr}{sl:Array (Option Value)}{oc kV dc pm cd ct:Value}
  (D1:Def K mg "spot" Ha ["drawing","passage"])
  (D2:Def K mg "arcs" Es ["drawing"])
  (D3:Def K mg "arc_count" ZN ["drawing"])
  (D4:Def K mg "arcs_of_walk" YY ["walk"])
  (D5:Def K mg "arcs_of_ways" Zy ["walk","first"])
  (D6:Def K mg "meets" G4 ["drawing"])
  (D7:Def K mg "ties" EL ["drawing"])
  (D8:Def K mg "all_held" Qk ["table","colours","asked"])
  (D9:Def K mg "colourings" Zp ["drawing","table"])
  (D10:Def K mg "refuse_too_much" YX ["size","count"])
  (D11:Def K mg "longer_by_arc" Zm ["lists","table","asked"])
  (D12:Def K mg "many" BX ["drawing","table"])
  (D13:Def K mg "_law_cell" Bz ["_law_script","_law_place"])
  (D14:Def K mg "_law_mix" NH ["_law_cell_here","_law_k"])
  (D15:Def K mg "_law_row" MN ["_law_script","_law_place","_law_sizes"])
  (D16:Def K mg "_law_mixed" GJ ["_law_names","_law_some"])
  (D17:Def K mg "_law_any" IB ["_law_names","_law_some","_law_rings"])
  (D18:Def K mg "_law_plaited" VZ ["_law_names","_law_signs","_law_some","_law_strands"])
  (D19:Def K mg "_law_drawn" U7 ["_law_script","_law_place","_law_most"])
  (D20:Def K mg "_law_copy" FI ["_law_drawing"])
  (D21:Def K mg "_law_is_whole" Jx ["_law_one"])
  (D22:Def K mg "_law_is_wholes" QH ["_law_found"])
  (D23:Def K mg "_law_cell_of" V2 ["_law_way","_law_size","_law_factor","_law_a","_law_b"])
  (D24:Def K mg "_law_common" U4 ["_law_one","_law_other"])
  (D25:Def K mg "_law_made" Dg ["_law_way","_law_size","_law_factor"])
  (D26:Def K mg "_law_ordered" Vm ["_law_some","_law_count_here"])
  (D27:Def K mg "_law_relaid" J0 ["_law_some","_law_spots"])
  (D28:Def K mg "_law_good_table" Qg ["_law_script","_law_place","_law_most"])
  (D29:Def K mg "_law_arcs" Kc ["_law_walks"])
  (D30:Def K mg "_law_spot" Kq ["_law_walks","_law_passage"])
  (D31:Def K mg "_law_meets" Vj ["_law_drawing"])
  (D32:Def K mg "_law_count" Kw ["_law_drawing"])
  (D33:Def K mg "_law_keeps" GP ["_law_meetings","_law_table","_law_colours"])
  (D34:Def K mg "_law_all" Ip ["_law_drawing","_law_table"])
  (D35:Def K mg "_law_power" G1 ["_law_size","_law_count_here"])
  (D36:Def K mg "_law_limit" GO ["_law_drawing","_law_most"])
  (D37:Def K mg "_law_pairs_table" ZR ["_law_one","_law_other"])
  (D38:Def K mg "_law_side_table" Zs ["_law_one","_law_other"])
  (D39:Def K mg "_law_list" FQ ["_law_drawing","_law_table"])
  (D40:Def K mg "_law_pairs" Ke ["_law_first","_law_second","_law_size"])
  (D41:Def K mg "_law_by_side" Je ["_law_drawing","_law_one","_law_other","_law_first","_law_second"])
  (a:PySem.W.nsIn K mainGlobals "law" =some (some (.ref f)))(l0:K.lookup f=some ⟨oc,od, .func (PySem.W.fnOf "law" "law" (Yx UI) (XV UI) (Xg UI) .none kV dc pm an cd ct),sl⟩)(c:PySem.W.codeIn K cd "law" =true)(k:PySem.W.keepIn K (.ref f)=true)
  (z1:PySem.W.nsIn K mainGlobals "abs" =some none)
  (z2:PySem.W.nsIn K mainGlobals "all" =some none)
  (z3:PySem.W.nsIn K mainGlobals "bool" =some none)
  (z4:PySem.W.nsIn K mainGlobals "enumerate" =some none)
  (z5:PySem.W.nsIn K mainGlobals "int" =some none)
  (z6:PySem.W.nsIn K mainGlobals "isinstance" =some none)
  (z7:PySem.W.nsIn K mainGlobals "len" =some none)
  (z8:PySem.W.nsIn K mainGlobals "list" =some none)
  (z9:PySem.W.nsIn K mainGlobals "max" =some none)
  (z10:PySem.W.nsIn K mainGlobals "min" =some none)
  (z11:PySem.W.nsIn K mainGlobals "range" =some none)
  (z12:PySem.W.nsIn K mainGlobals "sorted" =some none)
  (z13:PySem.W.nsIn K mainGlobals "sum" =some none)
  (z14:PySem.W.nsIn K mainGlobals "tuple" =some none)
  (w0:PySem.W.nsIn K mainGlobals "MOST_LISTS" =some (some (.int 65536 tk0)))
  :∃fd:FuncData,(∀(s:Shared) (v:Value),BindsTo s fd ⟨[v],[]⟩ [("_law_script",v)])/\∀base:Heap,K.In base->base.Ns mainGlobals mg->FnOk l.prog w K mg base CX0 9 fa fd ["_law_script"] (sp1 (rL Xc) (oF XC) Fx K):=by
 have e:=hfa.symm.trans (PySem.W.mg_of X G a)
 cases e
 have N:∀{x:Str},PySem.W.nsIn K mainGlobals x=some none->mg x=none:=λz=>PySem.W.mg_none_of X G z
 have Z:Blt mg:=⟨N z1,N z2,N z3,N z4,N z5,N z6,N z7,N z8,N z9,N z10,N z11,N z12,N z13,N z14,⟨_,PySem.W.mg_of X G w0,_,rfl⟩⟩
 refine⟨PySem.W.fnOf "law" "law" (Yx UI) (XV UI) (Xg UI) .none kV dc pm an cd ct,λs v=>.of_eq rfl,λbase _ _=>?_⟩
 have g_cell:B9 FW l.prog w K mg base:=BS.2 D13 Z
 have g_mix:Mf IN l.prog w K mg base:=MW.2 D14 Z
 have g_row:Iz Bb l.prog w K mg base:=Mw.2 D15 g_cell g_mix Z
 have g_plaited:VO Jb l.prog w K mg base:=Vv.2 D18 Z
 have g_any:MD HN l.prog w K mg base:=M4.2 D17 Z
 have g_mixed:Fi Kp l.prog w K mg base:=GG.2 D16 Z
 have g_drawn:Ez Jv l.prog w K mg base:=Fy.2 D19 g_row g_plaited g_any g_mixed Z
 have g_common:Ki JW l.prog w K mg base:=U5.2 D24 Z
 have g_cell_of:Vf Z0 l.prog w K mg base:=Vy.2 D23 Z
 have g_made:Ed DC l.prog w K mg base:=BF.2 D25 g_common g_cell_of Z
 have g_relaid:UB J7 l.prog w K mg base:=Ks.2 D27 Z
 have g_ordered:Vk QV l.prog w K mg base:=V9.2 D26 Z
 have g_good_table:JB YF l.prog w K mg base:=Z4.2 D28 g_row g_made g_relaid g_ordered Z
 have g_l_arcs:UN JV l.prog w K mg base:=U3.2 D29 Z
 have g_l_spot:UP J6 l.prog w K mg base:=UC.2 D30 Z
 have g_l_meets:VE Y1 l.prog w K mg base:=V3.2 D31 g_l_arcs g_l_spot Z
 have g_count:UG ZZ l.prog w K mg base:=FC.2 D32 Z
 have g_keeps:GH ZU l.prog w K mg base:=Fa.2 D33 Z
 have g_all:NY DV l.prog w K mg base:=Mu.2 D34 g_l_meets g_count g_keeps Z
 have g_arcs_of_walk:Yz Yh l.prog w K mg base:=ZA.2 D4 Z
 have g_arc_count:Qw ZQ l.prog w K mg base:=QF.2 D3 g_arcs_of_walk Z
 have g_refuse_too_much:YV Yu l.prog w K mg base:=YU.2 D10 Z
 have g_arcs_of_ways:Zx Y0 l.prog w K mg base:=ZB.2 D5 g_arcs_of_walk Z
 have g_arcs:BI FU l.prog w K mg base:=Hb.2 D2 g_arcs_of_walk g_arcs_of_ways Z
 have g_spot:EB Do l.prog w K mg base:=EJ.2 D1 Z
 have g_meets:GZ Z7 l.prog w K mg base:=G3.2 D6 g_arcs g_spot Z
 have g_ties:EY Dj l.prog w K mg base:=Ho.2 D7 g_meets Z
 have g_all_held:=Fm (P:=l.prog) (w:=w) (base:=base) D8 Z
 have g_longer_by_arc:Zn YJ l.prog w K mg base:=Zj.2 D11 g_all_held Z
 have g_colourings:Z1 YE l.prog w K mg base:=Z3.2 D9 g_arc_count g_refuse_too_much g_ties g_longer_by_arc Z
 have g_copy:Lb VU l.prog w K mg base:=EF.2 D20 Z
 have g_is_whole:Jt Ug l.prog w K mg base:=Uo.2 D21 Z
 have g_is_wholes:VM Zi l.prog w K mg base:=QI.2 D22 g_is_whole Z
 have g_list:=L9 (P:=l.prog) (w:=w) (base:=base) D39 g_colourings g_copy g_is_wholes Z
 have g_power:Fp Kg l.prog w K mg base:=Fv.2 D35 Z
 have g_limit:EA Vz l.prog w K mg base:=GI.2 D36 g_count g_power Z
 have g_pairs_table:QR YL l.prog w K mg base:=ZT.2 D37 Z
 have g_side_table:JJ Y5 l.prog w K mg base:=Z8.2 D38 Z
 have g_many:Ls Gw l.prog w K mg base:=Hg.2 D12 g_colourings Z
 have g_by_side:=Cq (P:=l.prog) (w:=w) (base:=base) D41 g_side_table g_list g_l_meets g_count g_many g_copy g_keeps Z
 have g_pairs:E3 Vr l.prog w K mg base:=Fs.2 D40 Z
 exact O3 (P:=l.prog) (w:=w) (base:=base) (Z6 (st:=UI) l0 c k) g_drawn g_good_table g_all g_list g_limit g_pairs_table g_by_side g_pairs Z
theorem RY {l:PySem.W.OpenLaw}{q:Program}{loose:List Str}{XP:(Str->Option Value)->Heap->Prop}{YP:World->Heap->Prop}{d:DefRec}{K:Params->PySem.W.Frag}(hn:l.most=some 63)(hdf:d.params.defaults=[])
  (hY:∀(w:World) (h:Heap),YP w h->(K w.params).In h)
  (F:∀(w:World) (mg:Str->Option Value) (fa:Addr) (h:Heap),(K w.params).In h->h.Ns mainGlobals mg->mg d.name=some (.ref fa)->
   ∃fd:FuncData,(∀(s:Shared) (u:Value),BindsTo s fd ⟨[u],[]⟩ [("_law_script",u)])/\∀base:Heap,(K w.params).In base->base.Ns mainGlobals mg->FnOk l.prog w (K w.params) mg base CX0 9 fa fd ["_law_script"] (sp1 (rL Xc) (oF XC) Fx (K w.params))):
  PySem.W.WalkO q loose XP YP l.row.toRowW d [] (λf vs=>PySem.call f vs):=
 L2.Md (n:=63) (k:=9) (x:="_law_script") (CX:=λ_=>CX0) (sp:=λw=>sp1 (rL Xc) (oF XC) Fx (K w.params)) hn (by decide) hdf ⟨rfl,by decide,by decide⟩ hY F (λ_ _ a ns hl _ hS=>⟨.ref a,ns,true,rfl,⟨a,_,rfl,hS,Fu ns⟩,Ie ns hl,λv C H' w m ho=>ho.2⟩) λ_ _ _ _ _ z=>z
end My
open PySem PySem.W PyProof.Rows
set_option maxRecDepth 100000 in
set_option maxHeartbeats 0 in
theorem PySem.Challenge.cw_plait_k57_whole_joined_tables_holds : PySem.Challenge.rw_plait_k57_whole_joined_tables.Holds := by
  w_on; o_law; k_head; (case hw => w_witness2)
  k_fill
  refine My.RY (l := PySem.Challenge.rw_plait_k57_whole_joined_tables) rfl rfl (fun w h Y => PySem.W.kIn_of Y) ?F
  case F =>
    intro w mg fa h KX G hmg
    refine' My.OS KX G hmg (My.KA KX G (by intros; rfl) ?a1 ?l1 ?c1 ?k1) (My.BW KX G (by intros; rfl) ?a2 ?l2 ?c2 ?k2) (My.BW KX G (by intros; rfl) ?a3 ?l3 ?c3 ?k3) (My.BW KX G (by intros; rfl) ?a4 ?l4 ?c4 ?k4) (My.KA KX G (by intros; rfl) ?a5 ?l5 ?c5 ?k5) (My.BW KX G (by intros; rfl) ?a6 ?l6 ?c6 ?k6) (My.BW KX G (by intros; rfl) ?a7 ?l7 ?c7 ?k7) (My.HM KX G (by intros; rfl) ?a8 ?l8 ?c8 ?k8) (My.KA KX G (by intros; rfl) ?a9 ?l9 ?c9 ?k9) (My.KA KX G (by intros; rfl) ?a10 ?l10 ?c10 ?k10) (My.HM KX G (by intros; rfl) ?a11 ?l11 ?c11 ?k11) (My.KA KX G (by intros; rfl) ?a12 ?l12 ?c12 ?k12) (My.KA KX G (by intros; rfl) ?a13 ?l13 ?c13 ?k13) (My.KA KX G (by intros; rfl) ?a14 ?l14 ?c14 ?k14) (My.HM KX G (by intros; rfl) ?a15 ?l15 ?c15 ?k15) (My.KA KX G (by intros; rfl) ?a16 ?l16 ?c16 ?k16) (My.HM KX G (by intros; rfl) ?a17 ?l17 ?c17 ?k17) (My.RS KX G (by intros; rfl) ?a18 ?l18 ?c18 ?k18) (My.HM KX G (by intros; rfl) ?a19 ?l19 ?c19 ?k19) (My.BW KX G (by intros; rfl) ?a20 ?l20 ?c20 ?k20) (My.BW KX G (by intros; rfl) ?a21 ?l21 ?c21 ?k21) (My.BW KX G (by intros; rfl) ?a22 ?l22 ?c22 ?k22) (My.Ru KX G (by intros; rfl) ?a23 ?l23 ?c23 ?k23) (My.KA KX G (by intros; rfl) ?a24 ?l24 ?c24 ?k24) (My.HM KX G (by intros; rfl) ?a25 ?l25 ?c25 ?k25) (My.KA KX G (by intros; rfl) ?a26 ?l26 ?c26 ?k26) (My.KA KX G (by intros; rfl) ?a27 ?l27 ?c27 ?k27) (My.HM KX G (by intros; rfl) ?a28 ?l28 ?c28 ?k28) (My.BW KX G (by intros; rfl) ?a29 ?l29 ?c29 ?k29) (My.KA KX G (by intros; rfl) ?a30 ?l30 ?c30 ?k30) (My.BW KX G (by intros; rfl) ?a31 ?l31 ?c31 ?k31) (My.BW KX G (by intros; rfl) ?a32 ?l32 ?c32 ?k32) (My.HM KX G (by intros; rfl) ?a33 ?l33 ?c33 ?k33) (My.KA KX G (by intros; rfl) ?a34 ?l34 ?c34 ?k34) (My.KA KX G (by intros; rfl) ?a35 ?l35 ?c35 ?k35) (My.KA KX G (by intros; rfl) ?a36 ?l36 ?c36 ?k36) (My.KA KX G (by intros; rfl) ?a37 ?l37 ?c37 ?k37) (My.KA KX G (by intros; rfl) ?a38 ?l38 ?c38 ?k38) (My.KA KX G (by intros; rfl) ?a39 ?l39 ?c39 ?k39) (My.HM KX G (by intros; rfl) ?a40 ?l40 ?c40 ?k40) (My.Ru KX G (by intros; rfl) ?a41 ?l41 ?c41 ?k41) ?a42 ?l42 ?c42 ?k42 ?z1 ?z2 ?z3 ?z4 ?z5 ?z6 ?z7 ?z8 ?z9 ?z10 ?z11 ?z12 ?z13 ?z14 ?w0
    (case a1 => k_is); (case l1 => k_is); (case c1 => k_is); (case k1 => k_is); (case a2 => k_is); (case l2 => k_is); (case c2 => k_is); (case k2 => k_is); (case a3 => k_is); (case l3 => k_is); (case c3 => k_is); (case k3 => k_is); (case a4 => k_is); (case l4 => k_is); (case c4 => k_is); (case k4 => k_is); (case a5 => k_is); (case l5 => k_is); (case c5 => k_is); (case k5 => k_is); (case a6 => k_is); (case l6 => k_is); (case c6 => k_is); (case k6 => k_is); (case a7 => k_is); (case l7 => k_is); (case c7 => k_is); (case k7 => k_is); (case a8 => k_is); (case l8 => k_is); (case c8 => k_is); (case k8 => k_is); (case a9 => k_is); (case l9 => k_is); (case c9 => k_is); (case k9 => k_is); (case a10 => k_is); (case l10 => k_is); (case c10 => k_is); (case k10 => k_is); (case a11 => k_is); (case l11 => k_is); (case c11 => k_is); (case k11 => k_is); (case a12 => k_is); (case l12 => k_is); (case c12 => k_is); (case k12 => k_is); (case a13 => k_is); (case l13 => k_is); (case c13 => k_is); (case k13 => k_is); (case a14 => k_is); (case l14 => k_is); (case c14 => k_is); (case k14 => k_is); (case a15 => k_is); (case l15 => k_is); (case c15 => k_is); (case k15 => k_is); (case a16 => k_is); (case l16 => k_is); (case c16 => k_is); (case k16 => k_is); (case a17 => k_is); (case l17 => k_is); (case c17 => k_is); (case k17 => k_is); (case a18 => k_is); (case l18 => k_is); (case c18 => k_is); (case k18 => k_is); (case a19 => k_is); (case l19 => k_is); (case c19 => k_is); (case k19 => k_is); (case a20 => k_is); (case l20 => k_is); (case c20 => k_is); (case k20 => k_is); (case a21 => k_is); (case l21 => k_is); (case c21 => k_is); (case k21 => k_is); (case a22 => k_is); (case l22 => k_is); (case c22 => k_is); (case k22 => k_is); (case a23 => k_is); (case l23 => k_is); (case c23 => k_is); (case k23 => k_is); (case a24 => k_is); (case l24 => k_is); (case c24 => k_is); (case k24 => k_is); (case a25 => k_is); (case l25 => k_is); (case c25 => k_is); (case k25 => k_is); (case a26 => k_is); (case l26 => k_is); (case c26 => k_is); (case k26 => k_is); (case a27 => k_is); (case l27 => k_is); (case c27 => k_is); (case k27 => k_is); (case a28 => k_is); (case l28 => k_is); (case c28 => k_is); (case k28 => k_is); (case a29 => k_is); (case l29 => k_is); (case c29 => k_is); (case k29 => k_is); (case a30 => k_is); (case l30 => k_is); (case c30 => k_is); (case k30 => k_is); (case a31 => k_is); (case l31 => k_is); (case c31 => k_is); (case k31 => k_is); (case a32 => k_is); (case l32 => k_is); (case c32 => k_is); (case k32 => k_is); (case a33 => k_is); (case l33 => k_is); (case c33 => k_is); (case k33 => k_is); (case a34 => k_is); (case l34 => k_is); (case c34 => k_is); (case k34 => k_is); (case a35 => k_is); (case l35 => k_is); (case c35 => k_is); (case k35 => k_is); (case a36 => k_is); (case l36 => k_is); (case c36 => k_is); (case k36 => k_is); (case a37 => k_is); (case l37 => k_is); (case c37 => k_is); (case k37 => k_is); (case a38 => k_is); (case l38 => k_is); (case c38 => k_is); (case k38 => k_is); (case a39 => k_is); (case l39 => k_is); (case c39 => k_is); (case k39 => k_is); (case a40 => k_is); (case l40 => k_is); (case c40 => k_is); (case k40 => k_is); (case a41 => k_is); (case l41 => k_is); (case c41 => k_is); (case k41 => k_is); (case a42 => k_is); (case l42 => k_is); (case c42 => k_is); (case k42 => k_is); (case z1 => k_is); (case z2 => k_is); (case z3 => k_is); (case z4 => k_is); (case z5 => k_is); (case z6 => k_is); (case z7 => k_is); (case z8 => k_is); (case z9 => k_is); (case z10 => k_is); (case z11 => k_is); (case z12 => k_is); (case z13 => k_is); (case z14 => k_is); (case w0 => k_is)
