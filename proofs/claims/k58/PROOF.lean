import PyProof.Rows.All
import Wide.All
import OpenK.AllK
import Wide.FinOn
import Lean
import PyProof.EqAt
import PyProof.EqKinds
import PyProof.TupleCall
import PySem.Challenge.RW_plait_k58_whole_images_of_colours
set_option Elab.async false
set_option linter.all false
set_option maxRecDepth 100000
namespace PySem.W.Fast
def tw11088259576341654637:=0
def tw7194126867444677287:=0
def tw8748857016161370777:=0
def tw16340330182045359245:=0
def tw10771070299950295187:=0
def tw8177137033581991336:=0
def tw2617596620309060137:=0
def tw8593422518767884534:=0
def tw15194571755625717977:=0
def tw1412351395233757469:=0
def tw18352367677419510207:=0
def tw12263793867079973499:=0
def tw8741202107849853949:=0
def tw1500586801907421050:=0
def tw16387266420483337904:=0
def tw705083923100006231:=0
def tw17806996923424871324:=0
def tw510200263222786595:=0
def tw1735224733073574421:=0
def tw1463456917092034251:=0
def tw5070065793060353015:=0
def tw1479024311052424673:=0
def tw4756428784416042497:=0
def tw17705253176052321443:=0
def tw9886552926048886903:=0
def tw14882549334016188695:=0
def tw16841336680747768832:=0
def tw12314255446952821383:=0
def tw2849557548228615676:=0
def tw374738263229573818:=0
def tw18013966592613167334:=0
def tw6889691712571777526:=0
def tw3923095341852950988:=0
def tw16921621221075828582:=0
def tw917593545812771968:=0
def tw5143875274493896918:=0
def tw7928125230903596946:=0
def tw1998158985357779202:=0
def tw3018664853646388103:=0
def tw14651953968737396921:=0
def tw974546301049143929:=0
def tw6922839388359024967:=0
def tw7861909206389398005:=0
def tw5880281979114688016:=0
def tw10170504127492836224:=0
def tw3152182919724503649:=0
def tw998941248970304111:=0
def tw5648828502144102331:=0
def tw11483948903569086673:=0
def tw13421472364963713792:=0
def tw140377580142298539:=0
def tw1845068177446638519:=0
def tw2801036697260244029:=0
def tw8813024246266529045:=0
def tw389888112474959562:=0
def tw16316932675311359907:=0
def tw11186192047294411759:=0
def tw4086147782662796180:=0
def tw17774633788098653037:=0
def tw17447455229658870841:=0
def tw6245158089314101244:=0
def tw18367017213838262281:=0
def tw17650803974974522762:=0
def tw5698178696605379124:=0
def tw11393257593502971526:=0
def tw16555005362552875062:=0
def tw16070514743467142123:=0
def tw17724964841702385532:=0
def tw5517861836044545351:=0
def tw12127987236687294518:=0
def tw9256306512952133622:=0
def tw17052094217978311452:=0
def tw2324527857559906475:=0
def tw5089909476984873500:=0
def tw15896540622819191090:=0
def tw13111085052834887724:=0
def tw15273466073014492541:=0
def tw3995084753585415449:=0
def tw10571623434259207584:=0
def tw17205500380263857656:=0
def tw16982804488506391050:=0
def tw12628509219936260578:=0
def tw7652250751551895864:=0
def tw6908329873783897921:=0
def tw507779169183086074:=0
def tw12463575396295742904:=0
def tw17103254666927214155:=0
def tw11523739255604590004:=0
def tw8689598745468809986:=0
def tw13490253042672407874:=0
def tw10781330553699974701:=0
def tw3351941818575633516:=0
def tw14675782092407140320:=0
def tw3696147264745867775:=0
def tw14499223331985705977:=0
def tw2428397316529842529:=0
def tw17241968114548395684:=0
def tw7010365366907292468:=0
def tw18156460912934493152:=0
def tw15593612636562511413:=0
def tw1310778696490495219:=0
def tw16928999891641692381:=0
def tw4858027942297078673:=0
def tw5717761640221915899:=0
def tw9159599505083408615:=0
def tw3159548215242603906:=0
def tw6585821750033409090:=0
def tw6410969916385318449:=0
def tw10137019077120973935:=0
def tw10414846395744983572:=0
def tw16370919609477898283:=0
def tw13699333492834287733:=0
def tw16079065162499456397:=0
def tw6126483024061463233:=0
def tw8337943638999920115:=0
def tw12538525309335396262:=0
def tw4701526695597959072:=0
def tw15745999776649377977:=0
def tw5305485788260688088:=0
def tw5091858203070749665:=0
def tw6009111203644861868:=0
def tw5771455544965733971:=0
def tw15204112536903152776:=0
def tw7319263022640295960:=0
def tw6742861174702826470:=0
def tw1076972395909568368:=0
def tw17031132200896340670:=0
def tw7412230566339786774:=0
def tw15507741553513518921:=0
def tw4213211468076405153:=0
def tw4235722306699621436:=0
def tw14591254841123196051:=0
def tw17004780983795277690:=0
def tw9906044388476704273:=0
def tw11983860849552157330:=0
def tw17722025824824602056:=0
def tw11824570024354028930:=0
def tw10127441560897020203:=0
def tw5942210120336684320:=0
def tw556835749879690026:=0
def tw10301342548489309072:=0
def tw12740217975501862378:=0
def tw7099591279939507170:=0
def tw16352783908734131771:=0
def tw5954520309248096427:=0
def tw13261408762279090181:=0
def tw11677687147574830504:=0
def tw9539984407711872496:=0
def tw2912366556908149826:=0
def tw17554933680769847207:=0
def tw11552573728249503047:=0
def tw17692322154940095230:=0
def tw793472575647700922:=0
def tw1304674591993528651:=0
def tw14742875600124379551:=0
def tw623077236667747574:=0
def tw17933636772525980530:=0
def tw4159602323806208528:=0
def tw11213102785031239357:=0
def tw5091310066298485239:=0
def tw3032311140213177226:=0
def tw14165145077903282114:=0
def tw5099575049243314728:=0
def tw4962830993258977285:=0
def tw832052932386912821:=0
def tw7522291703780796893:=0
def tw6150784075857020308:=0
def tw4102155677251354537:=0
def tw15971587853546240839:=0
def tw163989041164204254:=0
def tw17325230230299167063:=0
def tw12742271480388079002:=0
def tw16511392747458473363:=0
def tw2447254751740383858:=0
def tw9379370065978467769:=0
def tw4340777457607881911:=0
def tw690974516195455904:=0
def tw18097464879263233762:=0
def tw11550912751144128364:=0
def tw15255686065137881554:=0
def tw12911875609790713150:=0
def tw17269017241720154110:=0
def tw9570659841676243554:=0
def tw3704183903052723652:=0
def tw6949851839758094152:=0
def tw3293932266248854013:=0
def tw5245932095764950211:=0
def tw1602351868675708272:=0
def tw10743051040443107236:=0
def tw1222884275791982204:=0
def tw11900343670445392012:=0
def tw13352147332926207645:=0
def tw9119910650767919727:=0
def tw6970405133117952019:=0
def tw14157349509323377458:=0
def tw2691875017115193014:=0
def tw8498322293101130963:=0
def tw470475982891051595:=0
def tw11424281409767979703:=0
def tw7162250928129914817:=0
def tw6075248210098225397:=0
def tw8230642797987383581:=0
def tw11937449406622371201:=0
def tw2344530418826063111:=0
def tw12777641006170696406:=0
def tw4405519802339127329:=0
def tw3540822581783190251:=0
def tw110394618863069716:=0
def tw4015456795079701767:=0
def tw14951454945024355606:=0
def tw3759651871547508835:=0
def tw15051277873471123952:=0
def tw9115454131817087012:=0
def tw14171626268985499521:=0
def tw3230257532548948260:=0
def tw15529994909738157701:=0
def tw17823627907185022291:=0
def tw4618365627716678979:=0
def tw12972368190770392987:=0
def tw16731538430362465002:=0
def tw1139108193642566137:=0
def tw36035763970180603:=0
def tw1950145250466868248:=0
def tw938943171808566080:=0
def tw8172287300680113024:=0
def tw11843920727474744492:=0
def tw11183697375703231095:=0
def tw10513469583444991905:=0
def tw13242331506836418675:=0
def tw10233775637604863282:=0
def tw15542818069860817894:=0
def tw11019068452423226465:=0
def tw6018674433175926787:=0
def tw5381175620765624572:=0
def tw13637928644737054015:=0
def tw10972856331312590522:=0
def tw2545384128263997541:=0
def tw1103139774465829737:=0
def tw5385390054069936122:=0
def tw7403743095884204860:=0
def tw13468803925210514074:=0
def tw9681559167069365243:=0
def tw4384613016427322382:=0
def tw8043139460592591335:=0
def tw10362693346372941155:=0
def tw10037245702108967525:=0
def tw15412006968189007178:=0
def tw9114701894405372106:=0
def tw16339757506782146474:=0
def tw3214857306249967349:=0
def tw5066297388725160610:=0
def tw4650753474766003967:=0
def tw16147811109911730532:=0
def tw11180706726975440502:=0
def tw2433599147678049523:=0
def tw8958823615876920904:=0
def tw7165766605207475811:=0
def tw13867256773623834556:=0
def tw4504606940160056527:=0
def tw4295607715330066087:=0
def tw10493872635101782646:=0
def tw6123762332248673630:=0
def tw2303178040417789718:=0
def tw15630777037019175159:=0
def tw1190718742076137435:=0
def tw12407874513035717365:=0
def tw9567914816211405244:=0
def tw6918999527302340664:=0
def tw14002420007314390603:=0
def tw334867000201430816:=0
def tw839113989717567222:=0
def tw14864574413103595825:=0
def tw12434032286786986345:=0
def tw11461692107470238088:=0
def tw1658694463731370647:=0
def tw4566331614904096807:=0
def tw2721824695938235666:=0
def tw15312421950907726901:=0
def tw12874479548278007555:=0
def tw365165374609249483:=0
def tw1246866568629344268:=0
def tw11889526640719883657:=0
def tw1846994477416627518:=0
def tw13434719181777564076:=0
def tw3941622869774748403:=0
def tw15617146691936683919:=0
def tw8158442896972238914:=0
def tw3006629829931527938:=0
def tw16422835833090588986:=0
def tw2132775032884594708:=0
def tw6612206042645735835:=0
def tw15178615162208780289:=0
def tw8634027801503988495:=0
def tw5894711367520261992:=0
def tw9215609512755996331:=0
def tw15160618304285935355:=0
def tw8462615027178277136:=0
def tw2790301177661568023:=0
def tw9650024392202000241:=0
def tw6802214309090063516:=0
def tw8220000870537522890:=0
def tw2402982461344356220:=0
end PySem.W.Fast
set_option maxHeartbeats 4000000
namespace L2
open PySem PySem.Spec PyProof.Rows
noncomputable abbrev Key:=Sum Int Str
noncomputable def Dw:Key->Value->Bool
 | .inl k,v=>Value.isInt k v
 | .inr x,v=>Value.isStrOf x v
noncomputable def NA (w:World):Key->Int
 | .inl k=>hashInt k
 | .inr x=>hashStr w x
theorem YJ:∀{k:Key}{v:Value},Dw k v=true->(∃i t,k=Sum.inl i/\v=Value.int i t)∨(∃x t,k=Sum.inr x/\v=Value.str x t)
 | .inl i,v,h=>by
  obtain⟨t,e⟩:=Value.isInt_shape (k:=i) (v:=v) h
  exact .inl ⟨i,t,rfl,e⟩
 | .inr x,v,h=>by
  obtain⟨t,e⟩:=Value.isStrOf_shape (x:=x) (v:=v) h
  exact .inr ⟨x,t,rfl,e⟩
theorem Ca (i:Int)(t:Tok):Dw (.inl i) (.int i t)=true:=by simp[Dw,Value.isInt]
theorem CH (x:Str)(t:Tok):Dw (.inr x) (.str x t)=true:=by simp[Dw,Value.isStrOf]
theorem Md (a b:Int):decide ((Sum.inl a:Key)=Sum.inl b)=(a==b):=by
 by_cases e:a=b
 ·subst e;simp
 ·have h:¬(Sum.inl a:Key)=Sum.inl b:=λq=>e (Sum.inl.inj q)
  rw[decide_eq_false h]
  exact(beq_eq_false_iff_ne.mpr e).symm
theorem LC (a b:Str):decide ((Sum.inr a:Key)=Sum.inr b)=decide (a=b):=by
 by_cases e:a=b
 ·subst e;simp
 ·have h:¬(Sum.inr a:Key)=Sum.inr b:=λq=>e (Sum.inr.inj q)
  rw[decide_eq_false h,decide_eq_false e]
theorem LR (a:Int)(b:Str):decide ((Sum.inl a:Key)=Sum.inr b)=false:=decide_eq_false (λq=>nomatch q)
theorem Mo (a:Str)(b:Int):decide ((Sum.inr a:Key)=Sum.inl b)=false:=decide_eq_false (λq=>nomatch q)
noncomputable def YY (prog:Program)(w:World):PySem.KeyKind prog w Key where
 is:=Dw
 hash:=NA w
 inj:=λv a b ha hb=>by
  rcases YJ ha with⟨i,t,rfl,rfl⟩ | ⟨x,t,rfl,rfl⟩
  ·rcases YJ hb with⟨j,u,rfl,e⟩ | ⟨y,u,rfl,e⟩
   ·injection e with e1 _;rw[e1]
   ·exact nomatch e
  ·rcases YJ hb with⟨j,u,rfl,e⟩ | ⟨y,u,rfl,e⟩
   ·exact nomatch e
   ·injection e with e1 _;rw[e1]
 byValue:=λk v h=>by
  rcases YJ h with⟨i,t,rfl,rfl⟩ | ⟨x,t,rfl,rfl⟩<;> rfl
 pyHash:=λhv h=>by
  rcases YJ hv with⟨i,t,rfl,rfl⟩ | ⟨x,t,rfl,rfl⟩
  ·exact wpAny_pyHash_int h
  ·exact wpAny_pyHash_str h
 eqBool:=λhu hv h=>by
  rcases YJ hu with⟨i,t,rfl,rfl⟩ | ⟨x,t,rfl,rfl⟩
  ·rcases YJ hv with⟨j,u,rfl,rfl⟩ | ⟨y,u,rfl,rfl⟩
   ·rw[Md] at h;exact wpAny_eqBool_int h
   ·rw[LR] at h;exact SeqAt.EqAt.int_str i t y u _ _ _ _ h
  ·rcases YJ hv with⟨j,u,rfl,rfl⟩ | ⟨y,u,rfl,rfl⟩
   ·rw[Mo] at h;exact SeqAt.EqAt.str_int x t j u _ _ _ _ h
   ·rw[LC] at h;exact wpAny_eqBool_str h
 «strs»:=λk x t v h=>by
  rcases YJ h with⟨i,u,rfl,e⟩ | ⟨y,u,rfl,e⟩
  ·exact nomatch e
  ·injection e with e1 _
   subst e1
   cases v<;> rfl
theorem GK (prog:Program)(w:World)(i:Int)(t:Tok):(YY prog w).is (.inl i) (.int i t)=true:=Ca i t
theorem GW (prog:Program)(w:World)(x:Str)(t:Tok):(YY prog w).is (.inr x) (.str x t)=true:=CH x t
inductive V where
 |non |bl (b:Bool) |int (i:Int) |str (x:Str) |byt (b:Array UInt8) |flt (b:UInt64) |ref (a:Addr) |ty (n:String)
 deriving DecidableEq
noncomputable def Yy:V->Value->Prop
 | .non,u=>u=Value.none
 | .bl b,u=>u=Value.bool b
 | .int i,u=>∃ t,u=Value.int i t
 | .str x,u=>∃ t,u=Value.str x t
 | .byt b,u=>∃ t,u=Value.bytes b t
 | .flt b,u=>∃ t,u=Value.float b t
 | .ref a,u=>u=Value.ref a
 | .ty n,u=>u=Value.type n
noncomputable abbrev Yv:List V->List Value->Prop:=Paired Yy
theorem Yv.length {xs:List V}{us:List Value}(r:Yv xs us):xs.length=us.length:=Paired.length r
theorem Yv.get:∀{xs:List V}{us:List Value}{i:Nat}{x:V},Yv xs us->xs[i]?=some x->∃u,us[i]?=some u/\Yy x u
 |_,_,_,_, .nil,e=>by simp at e
 |_,_,0,_, .cons r _,e=>by simp at e;subst e;exact⟨_,rfl,r⟩
 |_,_,i+1,x, .cons _ t,e=>by
  obtain⟨u,h1,h2⟩:=Yv.get (i:=i) (x:=x) t (by simpa using e)
  exact⟨u,by simpa using h1,h2⟩
theorem Yv.set {x:V}{u:Value}(r:Yy x u):∀{xs:List V}{us:List Value} (i:Nat),Yv xs us->Yv (xs.set i x) (us.set i u)
 |_,_,_, .nil=>.nil
 |_,_,0, .cons _ t=>.cons r t
 |_,_,i+1, .cons q t=>.cons q (Yv.set r i t)
theorem Yv.append:∀{xs ys:List V}{us ws:List Value},Yv xs us->Yv ys ws->Yv (xs++ys) (us++ws):=λp s=>by
 induction p with
 |nil=>exact s
 |cons r _ ih=>exact .cons r ih
theorem Yv.take:∀{xs:List V}{us:List Value} (n:Nat),Yv xs us->Yv (xs.take n) (us.take n)
 |_,_,0,_=>.nil
 |_,_,_+1, .nil=>.nil
 |_,_,n+1, .cons r t=>.cons r (Yv.take n t)
theorem Yv.drop:∀{xs:List V}{us:List Value} (n:Nat),Yv xs us->Yv (xs.drop n) (us.drop n)
 |_,_,0,r=>r
 |_,_,_+1, .nil=>.nil
 |_,_,n+1, .cons _ t=>Yv.drop n t
noncomputable def Df:Option V->Option Value->Prop
 |some v,some u=>Yy v u
 |none,none=>True
 |_,_=>False
noncomputable def KV {κ:Type}:List (κ×V)->List (κ×Value)->Prop:=Paired λ(p:κ×V) (q:κ×Value)=>p.1=q.1/\Yy p.2 q.2
noncomputable def kV:Key->V
 | .inl i=>.int i
 | .inr x=>.str x
inductive HO where
 /-- a list -/
 |lst (xs:List V)
 /-- a tuple (never changes) -/
 |tup (xs:List V)
 /-- a dict whose keys are ints and texts; one whose keys are tuples of ints and texts (the empty one is both) -/
 |dK (kvs:List (Key×V)) |dT (kvs:List (List Key×V))
 /-- a set of ints: its members, its size -/
 |set (S:Int->Bool) (n:Nat)
 /-- an instance of the class at C, its dict at dx, its attributes -/
 |ins (C dx:Addr) (fs:List (Str×V))
 /-- the dict of the instance at x -/
 |own (x:Addr)
 /-- the dict of an exception -/
 |xd (fs:List (Str×V))
 /-- a bound method, f of x -/
 |met (f x:Addr)
 /-- a range object lo, lo + 1, .. below hi -/
 |rng (lo hi:Int)
 /-- a thing that is known to the object (the script; a dict while a loop walks it): read, never written while it is so -/
 |frz (o:Obj) (u:HO)
 /-- a code object's table -/
 |tbl (ps:Array Value)
 /-- any other thing, by what is true of its one object (a def of one's own: SetO a S n:=HO.ext λh=>..) -/
 |ext (φ:Heap->Prop)
noncomputable abbrev Hp:=Addr->Option HO
noncomputable def upd (H:Hp)(a:Addr)(o:HO):Hp:=λb=>if b=a then some o else H b
theorem YV {H:Hp}{a:Addr}{o:HO}:upd H a o a=some o:=by unfold upd;rw[if_pos rfl]
theorem X3 {H:Hp}{a b:Addr}{o:HO}(h:b≠a):upd H a o b=H b:=by unfold upd;rw[if_neg h]
theorem ML {H:Hp}{a b:Addr}{o u:HO}(h:H a=some o)(h':H b=some u)(d:o≠u):a≠b:=by
 intro e;subst e;rw[h] at h';exact d (Option.some.inj h')
theorem Ya {H:Hp}{a b:Addr}{o:HO}(h:H a=some o)(h':H b=none):a≠b:=by
 intro e;subst e;rw[h] at h';cases h'
noncomputable def Uz (h:Heap)(a:Addr)(items:Array Value):Prop:=∃ o,h.get? a=some o/\(o.cls= .type "tuple" /\o.dict=none)/\∃n,o.data= .seq items n
theorem Uz.t {h:Heap}{a:Addr}{items:Array Value}(x:Uz h a items):IsTup h a items:=let ⟨o,ho,c,r⟩:=x;⟨o,ho,c.1,r⟩
theorem Uz.new (h:Heap)(items:Array Value):Uz (h.push {cls:=.type "tuple",data:=.seq items}) h.objs.size items:=⟨_,Heap.get?_push_size _ rfl,⟨rfl,rfl⟩,_,rfl⟩
section
variable (P:Program)(w:World)
noncomputable def Zg (H:Hp)(h:Heap)(a:Addr):HO->Prop
 | .lst xs=>xs.length<=sizeLine/\∃(its:List Value) (n:Nat),Yv xs its/\h.get? a=some {cls:=.type "list",data:=.seq its.toArray n}
 | .tup xs=>xs.length<=sizeLine/\∃its:List Value,Yv xs its/\Uz h a its.toArray
 | .dK kvs=>kvs.length<=sizeLine/\(a==sysModules)=false/\∃vs,KV kvs vs/\h.DictOf (YY P w) a vs
 | .dT kvs=>kvs.length<=sizeLine/\(a==sysModules)=false/\∃xs:List (List Key×Addr×Value),
   Paired (λ(p:List Key×V) (q:List Key×Addr×Value)=>p.1=q.1/\H q.2.1=some (.tup (p.1.map kV))/\Yy p.2 q.2.2) kvs xs/\
   ∃o es ep,h.get? a=some o/\o.ExactDict/\o.data= .dict es ep/\es.toList=xs.map (entryOfKey (tupleKind (YY P w)))/\(xs.map (·.1)).Nodup
 | .set S n=>h.SetOf (intKind P w) a S n
 | .ins C dx fs=>H dx=some (.own a)/\fs.length<=1000/\dx≠a/\h.get? a=some (PySem.W.instObj C dx)/\
   ∃mA,h.Ns1 dx mA/\(∀f,Df (fs.lookup f) (mA f))/\PySem.Within mA (fs.map (·.1))
 | .own _=>∃ o,h.get? a=some o
 | .xd fs=>∃ mA,h.Ns1 a mA/\∀f,Df (fs.lookup f) (mA f)
 | .rng lo hi=>∃ t u v,h.get? a=some {cls:=.type "range",data:=.fields #[.int lo t, .int hi u, .int 1 v]}
 | .frz o u=>h.get? a=some o/\Zg H h a u
 | .tbl ps=>h.get? a=some {cls:=.none,data:=.fields ps}
 | .met f x=>h.get? a=some (PySem.W.methodObj (.ref f) (.ref x))
 | .ext φ=>φ h/\(∃o,h.get? a=some o)/\∀h1 h2:Heap,φ h1->(∀o,h1.get? a=some o->h2.get? a=some o)->φ h2
noncomputable def HOk (H:Hp)(h:Heap):Prop:=∀ a o,H a=some o->Zg P w H h a o
end
section
variable {P:Program}{w:World}{H H':Hp}{h h':Heap}{a:Addr}{o:HO}
theorem Zg.lt (x:Zg P w H h a o):a<h.objs.size:=by
 cases o with
 |lst xs=>obtain⟨_,_,_,_,e⟩:=x;exact Heap.lt_size e
 |tup xs=>obtain⟨_,_,_,p⟩:=x;exact p.t.lt
 |dK kvs=>obtain⟨_,_,_,_,o,_,_,e,_⟩:=x;exact Heap.lt_size e
 |dT kvs=>obtain⟨_,_,_,_,o,_,_,e,_⟩:=x;exact Heap.lt_size e
 |set S n=>obtain⟨o,_,_,_,e,_⟩:=x;exact Heap.lt_size e
 |ins C dx fs=>obtain⟨_,_,_,e,_⟩:=x;exact Heap.lt_size e
 |own y=>obtain⟨_,e⟩:=x;exact Heap.lt_size e
 |xd fs=>obtain⟨_,⟨_,_,_,e,_⟩,_⟩:=x;exact Heap.lt_size e
 |rng lo hi=>obtain⟨_,_,_,e⟩:=x;exact Heap.lt_size e
 |frz ob u=>obtain⟨e,_⟩:=x;exact Heap.lt_size e
 |tbl ps=>exact Heap.lt_size (show h.get? a=some _ from x)
 |met f y=>exact Heap.lt_size (show h.get? a=some _ from x)
 |ext φ=>obtain⟨_,⟨_,e⟩,_⟩:=x;exact Heap.lt_size e
theorem Paired.mapP {α β:Type}{F G:α->β->Prop}:∀{l₁:List α}{l₂:List β},Paired F l₁ l₂->(∀a b,F a b->G a b)->Paired G l₁ l₂:=λp f=>by
 induction p with
 |nil=>exact .nil
 |cons r _ ih=>exact .cons (f _ _ r) ih
theorem Zg.stay (x:Zg P w H h a o)(k:∀b u,(b=a∨H b=some (.own a))->h.get? b=some u->h'.get? b=some u)
  (ho:∀b,H b=some (.own a)->H' b=some (.own a))(ht:∀b xs,H b=some (.tup xs)->H' b=some (.tup xs)):Zg P w H' h' a o:=by
 induction o with
 |lst xs=>obtain⟨z,its,n,r,e⟩:=x;exact⟨z,its,n,r,k _ _ (.inl rfl) e⟩
 |tup xs=>obtain⟨z,its,r,ob,e,c⟩:=x;exact⟨z,its,r,ob,k _ _ (.inl rfl) e,c⟩
 |dK kvs=>obtain⟨z,y,vs,r,ob,es,ep,e,c⟩:=x;exact⟨z,y,vs,r,ob,es,ep,k _ _ (.inl rfl) e,c⟩
 |dT kvs=>
  obtain⟨z,y,xs,r,ob,es,ep,e,c⟩:=x
  exact⟨z,y,xs,Paired.mapP r λp q z=>⟨z.1,ht _ _ z.2.1,z.2.2⟩,ob,es,ep,k _ _ (.inl rfl) e,c⟩
 |set S n=>obtain⟨ob,es,ep,t,e,c⟩:=x;exact⟨ob,es,ep,t,k _ _ (.inl rfl) e,c⟩
 |ins C dx fs=>
  obtain⟨d,z,ne,e,mA,⟨od,es,ep,e2,c⟩,r⟩:=x
  exact⟨ho _ d,z,ne,k _ _ (.inl rfl) e,mA,⟨od,es,ep,k _ _ (.inr d) e2,c⟩,r⟩
 |own y=>obtain⟨ob,e⟩:=x;exact⟨ob,k _ _ (.inl rfl) e⟩
 |xd fs=>obtain⟨mA,⟨od,es,ep,e,c⟩,r⟩:=x;exact⟨mA,⟨od,es,ep,k _ _ (.inl rfl) e,c⟩,r⟩
 |rng lo hi=>obtain⟨t,u,v,e⟩:=x;exact⟨t,u,v,k _ _ (.inl rfl) e⟩
 |frz ob u ih=>obtain⟨e,q⟩:=x;exact⟨k _ _ (.inl rfl) e,ih q⟩
 |tbl ps=>
  have e:h.get? a=some {cls:=.none,data:=.fields ps}:=x
  show h'.get? a=some {cls:=.none,data:=.fields ps}
  exact k a _ (.inl rfl) e
 |met f y=>
  have e:h.get? a=some (PySem.W.methodObj (.ref f) (.ref y)):=x
  show h'.get? a=some (PySem.W.methodObj (.ref f) (.ref y))
  exact k a _ (.inl rfl) e
 |ext φ=>obtain⟨p,⟨o,e⟩,st⟩:=x;exact⟨st _ _ p λo q=>k _ _ (.inl rfl) q,⟨o,k _ _ (.inl rfl) e⟩,st⟩
theorem HOk.lt (x:HOk P w H h)(e:H a=some o):a<h.objs.size:=(x a o e).lt
theorem HOk.fresh (x:HOk P w H h)(e:h.objs.size<=a):H a=none:=by
 cases q:H a with
 |none=>rfl
 |some u=>exact absurd (Nat.lt_of_lt_of_le (x.lt q) e) (Nat.lt_irrefl _)
theorem HOk.kept (x:HOk P w H h)(k:∀b u,h.get? b=some u->h'.get? b=some u):HOk P w H h':=λa o e=>
 (x a o e).stay (λb u _ q=>k b u q) (λ_ q=>q) λ_ _ q=>q
theorem HOk.laid (x:HOk P w H h)(k:∀b u,h.get? b=some u->h'.get? b=some u)(hp:h.objs.size<=a)(new:Zg P w (upd H a o) h' a o):HOk P w (upd H a o) h':=λb u e=>by
 have hn:=x.fresh hp
 by_cases hb:b=a
 ·subst hb;rw[YV] at e;cases e;exact new
 ·rw[X3 hb] at e
  exact(x b u e).stay (λc v _ q=>k c v q) (λc q=>by rw[X3 (Ya q hn)];exact q) λc xs q=>by rw[X3 (Ya q hn)];exact q
end
noncomputable def Rd (H:Hp)(a:Addr)(u:HO):Prop:=H a=some u∨∃o,H a=some (.frz o u)
theorem Rd.of {H:Hp}{a:Addr}{u:HO}(h:H a=some u):Rd H a u:=.inl h
theorem Rd.ok {P:Program}{w:World}{H:Hp}{h:Heap}{a:Addr}{u:HO}(r:Rd H a u)(x:HOk P w H h):Zg P w H h a u:=by
 rcases r with r | ⟨o,r⟩
 ·exact x a u r
 ·obtain⟨_,q⟩:=x a _ r
  exact q
noncomputable def Mut:Option HO->Prop
 |some (.lst _)=>True
 |some (.dK _)=>True
 |some (.dT _)=>True
 |some (.set _ _)=>True
 |some (.ins _ _ _)=>True
 |some (.ext _)=>True
 |_=>False
section
variable {P:Program}{w:World}{H:Hp}{h h':Heap}{x e:Addr}{o':HO}
theorem HOk.write (ok:HOk P w H h)(mu:Mut (H x))(he:e=x∨H e=some (.own x))(k:∀b u,b≠e->h.get? b=some u->h'.get? b=some u)(heo:∃u,h'.get? e=some u)
  (new:Zg P w (upd H x o') h' x o'):HOk P w (upd H x o') h':=λb u q=>by
 have nown:∀c y,H c=some (.own y)->c≠x:=λc y r z=>by subst z;rw[r] at mu;exact mu
 have ntup:∀c xs,H c=some (.tup xs)->c≠x:=λc xs r z=>by subst z;rw[r] at mu;exact mu
 by_cases hb:b=x
 ·subst hb;rw[YV] at q;cases q;exact new
 ·rw[X3 hb] at q
  by_cases hbe:b=e
  ·have q':H b=some (.own x):=by
    rcases he with z |z
    ·exact absurd (hbe.trans z) hb
    ·rw[hbe];exact z
   rw[q] at q';cases q'
   obtain⟨v,hv⟩:=heo
   exact⟨v,by rw[hbe];exact hv⟩
  ·refine(ok b u q).stay (λc v hc r=>k c v ?_ r) (λc r=>by rw[X3 (nown c b r)];exact r) λc xs r=>by rw[X3 (ntup c xs r)];exact r
   rcases hc with rfl |hc
   ·exact hbe
   ·rintro rfl
    rcases he with z |z
    ·exact nown c b hc z
    ·rw[hc] at z;cases z;exact hb rfl
end
structure Un (fs ex:List Addr)(H H':Hp)(h h':Heap):Prop where
 keep:∀b o,h.get? b=some o->H b=none->b∉fs->b∉ex->h'.get? b=some o
 slot:∀b o,h.get? b=some o->H b=none->b∈fs->b∉ex->∃sl,h'.get? b=some {o with slots:=sl}
 free:∀b o,h.get? b=some o->H b=none->b∉ex->H' b=none
 there:∀b o,h.get? b=some o->b∉ex->∃o',h'.get? b=some o'
 tups:∀b xs,H b=some (.tup xs)->H' b=some (.tup xs)
 frzs:∀b o u,H b=some (.frz o u)->H' b=some (.frz o u)
 tbls:∀b ps,H b=some (.tbl ps)->∃more,H' b=some (.tbl (ps++more))
section
variable {fs fs' ex ex':List Addr}{H H1 H2:Hp}{h h1 h2 h':Heap}{a x e:Addr}{o:HO}
theorem Un.any (u:Un fs ex H H1 h h1){b:Addr}{ob:Obj}(q:h.get? b=some ob)(n:H b=none)(hx:b∉ex):∃sl,h1.get? b=some {ob with slots:=sl}:=by
 by_cases hb:b∈fs
 ·exact u.slot b ob q n hb hx
 ·exact⟨ob.slots,u.keep b ob q n hb hx⟩
theorem Un.trans (a:Un fs ex H H1 h h1)(b:Un fs ex H1 H2 h1 h2):Un fs ex H H2 h h2 where
 keep:=λc ob q n hc hx=>b.keep c ob (a.keep c ob q n hc hx) (a.free c ob q n hx) hc hx
 slot:=λc ob q n hc hx=>by
  obtain⟨sl,e1⟩:=a.slot c ob q n hc hx
  obtain⟨sl',e2⟩:=b.slot c _ e1 (a.free c ob q n hx) hc hx
  exact⟨sl',e2⟩
 free:=λc ob q n hx=>by
  obtain⟨o',e1⟩:=a.there c ob q hx
  exact b.free c o' e1 (a.free c ob q n hx) hx
 there:=λc ob q hx=>by
  obtain⟨o',e1⟩:=a.there c ob q hx
  exact b.there c o' e1 hx
 tups:=λc xs q=>b.tups c xs (a.tups c xs q)
 frzs:=λc ob xs q=>b.frzs c ob xs (a.frzs c ob xs q)
 tbls:=λc ps q=>by
  obtain⟨m1,e1⟩:=a.tbls c ps q
  obtain⟨m2,e2⟩:=b.tbls c _ e1
  exact⟨m1++m2,by rw[e2,Array.append_assoc]⟩
theorem Un.kept (k:∀b u,h.get? b=some u->h'.get? b=some u):Un fs ex H H h h':=
 ⟨λb ob q _ _ _=>k b ob q,λb ob q _ _ _=>⟨ob.slots,k b ob q⟩,λ_ _ _ n _=>n,λb ob q _=>⟨ob,k b ob q⟩,λ_ _ q=>q,λ_ _ _ q=>q,λ_ ps q=>⟨#[],by rw[q];simp⟩⟩
theorem Un.refl:Un fs ex H H h h:=Un.kept λ_ _ q=>q
theorem Un.laid (k:∀b u,h.get? b=some u->h'.get? b=some u)(hp:h.objs.size<=a)(hn:H a=none):Un fs ex H (upd H a o) h h' where
 keep:=λb u q _ _ _=>k b u q
 slot:=λb u q _ _ _=>⟨u.slots,k b u q⟩
 free:=λb u q n _=>by rw[X3 (Nat.ne_of_lt (Nat.lt_of_lt_of_le (Heap.lt_size q) hp))];exact n
 there:=λb u q _=>⟨u,k b u q⟩
 tups:=λb xs q=>by rw[X3 (Ya q hn)];exact q
 frzs:=λb u xs q=>by rw[X3 (Ya q hn)];exact q
 tbls:=λb ps q=>⟨#[],by rw[X3 (Ya q hn),q];simp⟩
theorem Un.write (mu:Mut (H x))(he:e=x∨H e=some (.own x))(k:∀b u,b≠e->h.get? b=some u->h'.get? b=some u)(heo:∃u,h'.get? e=some u):Un fs ex H (upd H x o) h h':=by
 have hx:∀b,H b=none->b≠x:=λb n z=>by subst z;rw[n] at mu;exact mu
 have hb:∀b,H b=none->b≠e:=λb n z=>by
  subst z
  rcases he with r |r
  ·exact hx b n r
  ·rw[n] at r;cases r
 have hm:∀b u,H b=some u->¬Mut (some u)->b≠x:=λb u q nm z=>by subst z;rw[q] at mu;exact nm mu
 refine⟨λb u q n _ _=>k b u (hb b n) q,λb u q n _ _=>⟨u.slots,k b u (hb b n) q⟩,λb u q n _=>by rw[X3 (hx b n)];exact n,λb u q _=>?_,
  λb xs q=>by rw[X3 (hm b _ q λz=>z)];exact q,λb u xs q=>by rw[X3 (hm b _ q λz=>z)];exact q,λb ps q=>⟨#[],by rw[X3 (hm b _ q λz=>z),q];simp⟩⟩
 by_cases hbe:b=e
 ·subst hbe;exact heo
 ·exact⟨u,k b u hbe q⟩
theorem Un.mono (u:Un fs ex H H1 h h1)(hs:∀b∈fs,b∈fs')(hx:∀b∈ex,b∈ex'):Un fs' ex' H H1 h h1:=
 ⟨λb ob q n hb he=>u.keep b ob q n (λz=>hb (hs b z)) λz=>he (hx b z),λ_ _ q n _ he=>u.any q n λz=>he (hx _ z),λb ob q n he=>u.free b ob q n λz=>he (hx b z),λb ob q he=>u.there b ob q λz=>he (hx b z),u.tups,u.frzs,u.tbls⟩
end
noncomputable def trk (h:Heap)(H:Hp):List Addr:=(List.range h.objs.size).filter λa=>(H a).isSome
noncomputable def B9 (h:Heap)(H:Hp):Heap:=PySem.W.hideAll h (trk h H)
theorem CW (h:Heap)(H:Hp):(B9 h H).objs.size=h.objs.size:=PySem.W.hideAll_size _ _
theorem Fo {h:Heap}{H:Hp}{b:Addr}{o:Obj}(e:h.get? b=some o)(n:H b=none):(B9 h H).get? b=some o:=
 PySem.W.hideAll_get _ e λhm=>by
  have q:(H b).isSome=true:=(List.mem_filter.mp hm).2
  rw[n] at q;simp at q
theorem IV {h:Heap}{H:Hp}{b:Addr}{o:Obj}(e:(B9 h H).get? b=some o):h.get? b=some o/\H b=none:=by
 have e':h.get? b=some o:=PySem.W.of_hideAll (trk h H) e
 refine⟨e',?_⟩
 cases q:H b with
 |none=>rfl
 |some x=>
  have hm:b∈trk h H:=List.mem_filter.mpr ⟨List.mem_range.mpr (Heap.lt_size e'),by simp[q]⟩
  have z:(B9 h H).get? b=none:=PySem.W.hideAll_none (trk h H) hm
  rw[z] at e;cases e
noncomputable def Lj (g h:Heap)(L:Addr):List (Addr×Obj):=(List.range h.objs.size).filterMap λa=>if a=L∨(g.get? a).isSome=true then none else(h.get? a).map λo=>(a,o)
noncomputable def Qk (g h:Heap)(L d:Addr):List (Addr×Obj):=(Lj g h L).filter λp=>decide (p.1≠d)
structure Mod (K:PySem.W.Frag)(mg:Str->Option Value)(base:Heap):Prop where
 kin:K.In base
 glob:base.Ns mainGlobals mg
 blt:∃mb,base.Ns builtinsNs mb/\∀x:Str,x≠ "__name__" ->mb x=bootBuiltins x
 nolimit:base.NoLimit
structure Cx where
 prog:Program
 w:World
 K:PySem.W.Frag
 mg:Str->Option Value
 base:Heap
 A:Around
 N:List Str
 s₀:Shared
 H₀:Hp
 env:Env
 outer:List Env
 stack:List Env
 ex:List Addr
 fn:Str->Bool
 calm:Bool
 pn:List (Addr×Obj)
 xe:Value->Shared->Prop
noncomputable def frs (l:List Env):List Addr:=l.filterMap (·.frame)
noncomputable abbrev Cx.fs (X:Cx):List Addr:=frs X.outer
noncomputable def Vis (sc:Scope)(x:Str):Prop:=sc.names.lookup x=some .local∨sc.names.lookup x=some .cell∨sc.names.lookup x=some .free
noncomputable def Loc (sc:Scope)(x:Str):Prop:=sc.names.lookup x=some .local∨sc.names.lookup x=some .cell
noncomputable def Nw (env:Env)(h:Heap)(m:Str->Option Value)(x:Str)(u:Value):Prop:=
 (env.kindOf x=some .local/\m x=some u)∨((env.kindOf x=some .cell∨env.kindOf x=some .free)/\∃c,env.cells.lookup x=some c/\h.IsCell c (some u))
structure Cx.Ok (X:Cx):Prop where
 mod:Mod X.K X.mg X.base
 kind:X.env.scope.kind= .function
 glob:X.env.globals=mainGlobals
 blt:X.env.builtins=builtinsNs
 above:X.s₀.heap.objs.size<=X.env.locals
 inj:∀x y c,X.env.cells.lookup x=some c->X.env.cells.lookup y=some c->x=y
 has:∀x,(X.env.kindOf x=some .cell∨X.env.kindOf x=some .free)->∃c,X.env.cells.lookup x=some c
 cab:∀x c,X.fn x=true->X.env.cells.lookup x=some c->X.s₀.heap.objs.size<=c
 hd:X.calm=true->X.A.handled=none
 frames:X.A.frames=some X.stack
 stk:X.stack=X.outer∨(X.stack=X.env::X.outer/\X.env.frame=some X.env.locals)
 exf:∀b∈X.ex,b≠X.env.locals/\∀x c,X.env.cells.lookup x=some c->c≠b
 bs:∀b o,X.base.get? b=some o->X.s₀.heap.get? b=some o/\X.H₀ b=none
 bsz:X.base.objs.size<=X.s₀.heap.objs.size
 noex:∀b o,X.base.get? b=some o->b∉X.ex
 exfs:∀b∈X.ex,b∉X.fs
 funs:X.s₀.heap.FunFrames X.base X.outer
 frf:∀b∈X.fs,X.H₀ b=none
structure Inv (X:Cx)(pins:List (Addr×Obj))(σ:List (Option V))(H:Hp)(s:Shared):Prop where
 ok:X.Ok
 os:s.os=X.s₀.os
 bare:AllBare s.gens
 base:Un X.fs X.ex X.H₀ H X.s₀.heap s.heap
 loc:∃m,s.heap.Ns X.env.locals m/\∀(i:Nat) (x:Str) (v:V),X.N[i]?=some x->σ[i]?=some (some v)->Vis X.env.scope x->∃u,Yy v u/\Nw X.env s.heap m x u
 cell:∀x c,X.env.cells.lookup x=some c->∃v,s.heap.IsCell c v
 free:H X.env.locals=none
 freeC:∀x c,X.env.cells.lookup x=some c->H c=none
 pin:∀p∈X.pn++pins,s.heap.get? p.1=some p.2/\H p.1=none/\p.1≠X.env.locals/\p.1∉X.fs/\∀v,p.2.data≠ .cell v
 hok:HOk X.prog X.w H s.heap
 len:σ.length=X.N.length
section
variable {X:Cx}{pins:List (Addr×Obj)}{σ:List (Option V)}{H H':Hp}{s:Shared}{h':Heap}
theorem Cx.Ok.nofr (ok:X.Ok){b:Addr}{o:Obj}(e:X.base.get? b=some o):b∉X.fs:=λhb=>by
 have:=(ok.funs.mem hb).1
 rw[e] at this;cases this
theorem Inv.bs (I:Inv X pins σ H s):∀b o,X.base.get? b=some o->s.heap.get? b=some o/\H b=none:=λb o e=>
 ⟨I.base.keep b o (I.ok.bs b o e).1 (I.ok.bs b o e).2 (I.ok.nofr e) (I.ok.noex b o e),I.base.free b o (I.ok.bs b o e).1 (I.ok.bs b o e).2 (I.ok.noex b o e)⟩
theorem Inv.bk (I:Inv X pins σ H s):∀b o,X.base.get? b=some o->s.heap.get? b=some o:=λb o e=>(I.bs b o e).1
theorem Inv.mod (I:Inv X pins σ H s):Mod X.K X.mg X.base:=I.ok.mod
theorem Inv.kIn (I:Inv X pins σ H s):X.K.In s.heap:=I.ok.mod.kin.keeps I.bk
theorem Inv.nolimit (I:Inv X pins σ H s):s.heap.NoLimit:=I.ok.mod.nolimit.keeps I.bk
theorem Inv.lt (I:Inv X pins σ H s):X.env.locals<s.heap.objs.size:=let ⟨_,hn,_⟩:=I.loc;hn.lt
theorem Inv.sz (I:Inv X pins σ H s):X.s₀.heap.objs.size<=s.heap.objs.size:=Nat.le_trans I.ok.above (Nat.le_of_lt I.lt)
theorem Inv.nofs (I:Inv X pins σ H s){a:Addr}(h:s.heap.objs.size<=a):a∉X.fs:=λhb=>by
 obtain⟨_,o,ho,_⟩:=I.ok.funs.mem hb
 exact absurd (Nat.lt_of_lt_of_le (Heap.lt_size ho) (Nat.le_trans I.sz h)) (Nat.lt_irrefl _)
theorem Inv.cne (I:Inv X pins σ H s):∀x c,X.env.cells.lookup x=some c->c≠X.env.locals:=λx c e z=>by
 obtain⟨v,o,ho,hd⟩:=I.cell x c e
 obtain⟨m,⟨o',es,ep,ho',hd',_⟩,_⟩:=I.loc
 rw[z,ho'] at ho;cases ho;rw[hd'] at hd;cases hd
theorem Inv.funs (I:Inv X pins σ H s):s.heap.FunFrames X.base X.outer:=by
 have all:∀(l:List Env),(∀b∈frs l,b∈X.fs)->X.s₀.heap.FunFrames X.base l->s.heap.FunFrames X.base l:=by
  intro l
  induction l with
  |nil=>intro _ _;trivial
  |cons env r ih=>
   intro hs hl
   obtain⟨hk,⟨L,o,hf,hn,ho,hd⟩,hr⟩:=hl
   have hL:L∈X.fs:=hs L (by unfold frs;rw[List.filterMap_cons,hf];exact List.mem_cons_self)
   obtain⟨sl,e⟩:=I.base.slot L o ho (I.ok.frf L hL) hL λz=>I.ok.exfs L z hL
   exact⟨hk,⟨L,_,hf,hn,e,hd⟩,ih (λb hb=>hs b (by unfold frs;rw[List.filterMap_cons,hf];exact List.mem_cons_of_mem _ hb)) hr⟩
 exact all X.outer (λ_ hb=>hb) I.ok.funs
theorem Inv.stack (I:Inv X pins σ H s):s.heap.FunFrames X.base X.stack:=by
 rcases I.ok.stk with e | ⟨e,hf⟩
 ·rw[e];exact I.funs
 ·rw[e]
  obtain⟨m,hn,_⟩:=I.loc
  refine .cons (by rw[I.ok.kind];decide) hf hn ?_ I.funs
  exact Heap.get?_none_of_le (Nat.le_trans I.ok.bsz I.ok.above)
theorem Inv.stkSub (I:Inv X pins σ H s):∀b∈frs X.stack,b∈X.env.locals::X.fs:=λb hb=>by
 rcases I.ok.stk with e | ⟨e,hf⟩
 ·rw[e] at hb;exact List.mem_cons_of_mem _ hb
 ·rw[e] at hb
  unfold frs at hb
  rw[List.filterMap_cons,hf] at hb
  exact hb
theorem Inv.stkFree (I:Inv X pins σ H s):∀b∈frs X.stack,H b=none:=λb hb=>by
 rcases List.mem_cons.mp (I.stkSub b hb) with e |hb
 ·rw[e];exact I.free
 ·obtain⟨_,o,ho,_⟩:=I.ok.funs.mem hb
  exact I.base.free b o ho (I.ok.frf b hb) λz=>I.ok.exfs b z hb
theorem Inv.step {g':Array GenState}{t':Nat}{d':Drawn}{ch:List Addr}(I:Inv X pins σ H s)
  (hch:∀b∈ch,(b∈X.ex∨X.s₀.heap.objs.size<=b)/\b≠X.env.locals/\(∀x c,X.env.cells.lookup x=some c->c≠b)/\∀p∈X.pn++pins,p.1≠b)
  (keep:∀b o,b≠X.env.locals->b∉X.fs->b∉ch->s.heap.get? b=some o->H b=none->h'.get? b=some o)
  (slot:∀b o,b≠X.env.locals->b∈X.fs->b∉ch->s.heap.get? b=some o->H b=none->∃sl,h'.get? b=some {o with slots:=sl})(free:∀b o,b∉ch->s.heap.get? b=some o->H b=none->H' b=none)
  (there:∀b o,b∉ch->s.heap.get? b=some o->∃o',h'.get? b=some o')
  (tups:∀b xs,H b=some (.tup xs)->H' b=some (.tup xs))(frzs:∀b o u,H b=some (.frz o u)->H' b=some (.frz o u))(tbls:∀b ps,H b=some (.tbl ps)->∃more,H' b=some (.tbl (ps++more)))
  (ns:∀m,s.heap.Ns X.env.locals m->h'.Ns X.env.locals m)(hok:HOk X.prog X.w H' h')(hg:AllBare g'):
  Inv X pins σ H' {s with heap:=h',gens:=g',drawn:=d',toks:=t'}:=by
 have neL:∀b o,X.s₀.heap.get? b=some o->b≠X.env.locals:=λb o e=>Nat.ne_of_lt (Nat.lt_of_lt_of_le (Heap.lt_size e) I.ok.above)
 have neC:∀b o,X.s₀.heap.get? b=some o->b∉X.ex->b∉ch:=λb o e hx hb=>by
  rcases(hch b hb).1 with z |z
  ·exact hx z
  ·exact absurd (Nat.lt_of_lt_of_le (Heap.lt_size e) z) (Nat.lt_irrefl _)
 have cellK:∀x c,X.env.cells.lookup x=some c->∀v,s.heap.IsCell c v->h'.IsCell c v:=λx c e v ⟨o,ho,hd⟩=>by
  have nch:c∉ch:=λz=>(hch c z).2.2.1 x c e rfl
  by_cases hc:c∈X.fs
  ·obtain⟨sl,q⟩:=slot c o (I.cne x c e) hc nch ho (I.freeC x c e)
   exact⟨_,q,hd⟩
  ·exact⟨o,keep c o (I.cne x c e) hc nch ho (I.freeC x c e),hd⟩
 refine⟨I.ok,I.os,hg,⟨λb o e n hb hx=>?_,λb o e n hb hx=>?_,λb o e n hx=>?_,λb o e hx=>?_,λb xs e=>tups b xs (I.base.tups b xs e),λb o xs e=>frzs b o xs (I.base.frzs b o xs e),λb ps e=>?_⟩,?_,λx c e=>?_,?_,λx c e=>?_,λp hp=>?_,hok,I.len⟩
 ·exact keep b o (neL b o e) hb (neC b o e hx) (I.base.keep b o e n hb hx) (I.base.free b o e n hx)
 ·obtain⟨sl,e1⟩:=I.base.slot b o e n hb hx
  obtain⟨sl',e2⟩:=slot b _ (neL b o e) hb (neC b o e hx) e1 (I.base.free b o e n hx)
  exact⟨sl',e2⟩
 ·obtain⟨o',e1⟩:=I.base.there b o e hx
  exact free b o' (neC b o e hx) e1 (I.base.free b o e n hx)
 ·obtain⟨o',e1⟩:=I.base.there b o e hx
  exact there b o' (neC b o e hx) e1
 ·obtain⟨m1,e1⟩:=I.base.tbls b ps e
  obtain⟨m2,e2⟩:=tbls b _ e1
  exact⟨m1++m2,by rw[e2,Array.append_assoc]⟩
 ·obtain⟨m,hn,hl⟩:=I.loc
  refine⟨m,ns m hn,λi x v e1 e2 e3=>?_⟩
  obtain⟨u,r,l⟩:=hl i x v e1 e2 e3
  refine⟨u,r,?_⟩
  rcases l with l | ⟨k,c,e,z⟩
  ·exact .inl l
  ·exact .inr ⟨k,c,e,cellK x c e _ z⟩
 ·obtain⟨v,z⟩:=I.cell x c e
  exact⟨v,cellK x c e v z⟩
 ·obtain⟨m,⟨o,_,_,ho,_⟩,_⟩:=I.loc
  exact free _ o (λz=>(hch _ z).2.1 rfl) ho I.free
 ·obtain⟨v,o,ho,hd⟩:=I.cell x c e
  exact free c o (λz=>(hch c z).2.2.1 x c e rfl) ho (I.freeC x c e)
 ·obtain⟨e,n,ne,nf,d⟩:=I.pin p hp
  have nch:p.1∉ch:=λz=>(hch p.1 z).2.2.2 p hp rfl
  exact⟨keep p.1 p.2 ne nf nch e n,free p.1 p.2 nch e n,ne,nf,d⟩
theorem Inv.un {t':Nat}(I:Inv X pins σ H s)(u:Un X.fs [] H H' s.heap h')(hok:HOk X.prog X.w H' h'):Inv X pins σ H' {s with heap:=h',toks:=t'}:=by
 obtain⟨m,⟨o,es,ep,ho,r⟩,_⟩:=id I.loc
 obtain⟨sl,hL⟩:=u.any ho I.free (by simp)
 exact I.step (g':=s.gens) (d':=s.drawn) (ch:=[]) (λ_ z=>nomatch z) (λb o _ hb _ e n=>u.keep b o e n hb (by simp)) (λb o _ hb _ e n=>u.slot b o e n hb (by simp)) (λb o _ e n=>u.free b o e n (by simp)) (λb o _ e=>u.there b o e (by simp)) u.tups u.frzs u.tbls (λm' hm=>by
  obtain⟨o',es',ep',ho',r'⟩:=hm
  rw[ho] at ho';cases ho'
  exact⟨_,es',ep',hL,r'⟩) hok I.bare
theorem Inv.call {g':Array GenState}{t':Nat}{d':Drawn}{ch:List Addr}(I:Inv X pins σ H s)(u:Un (frs X.stack) ch H H' s.heap h')(hok:HOk X.prog X.w H' h')(hg:AllBare g')
  (hch:∀b∈ch,(b∈X.ex∨X.s₀.heap.objs.size<=b)/\b≠X.env.locals/\(∀x c,X.env.cells.lookup x=some c->c≠b)/\∀p∈X.pn++pins,p.1≠b):
  Inv X pins σ H' {s with heap:=h',gens:=g',drawn:=d',toks:=t'}:=by
 obtain⟨m,⟨o,es,ep,ho,r⟩,_⟩:=id I.loc
 obtain⟨sl,hL⟩:=u.any ho I.free λz=>(hch _ z).2.1 rfl
 exact I.step (ch:=ch) hch (λb o hL hb hc e n=>u.keep b o e n (λz=>(List.mem_cons.mp (I.stkSub b z)).elim hL hb) hc) (λb o _ _ hc e n=>u.any e n hc) (λb o hc e n=>u.free b o e n hc) (λb o hc e=>u.there b o e hc) u.tups u.frzs u.tbls (λm' hm=>by
  obtain⟨o',es',ep',ho',r'⟩:=hm
  rw[ho] at ho';cases ho'
  exact⟨_,es',ep',hL,r'⟩) hok hg
theorem Inv.turned {t':Nat}{it:Addr}(I:Inv X pins σ H s)(k:∀b o,b≠it->s.heap.get? b=some o->h'.get? b=some o)(hn:H it=none)(hL:it≠X.env.locals)
  (h1:it∈X.ex∨X.s₀.heap.objs.size<=it)(h2:∀x c,X.env.cells.lookup x=some c->c≠it)(h3:∀p∈X.pn++pins,p.1≠it):Inv X pins σ H {s with heap:=h',toks:=t'}:=by
 have nit:∀b u,H b=some u->b≠it:=λb u e z=>by rw[z,hn] at e;cases e
 refine I.step (g':=s.gens) (d':=s.drawn) (ch:=[it]) (λb hb=>?_) (λb o _ _ hc e _=>k b o (λz=>hc (by simp[z])) e) (λb o _ _ hc e _=>⟨o.slots,k b o (λz=>hc (by simp[z])) e⟩) (λ_ _ _ _ n=>n)
  (λb o hc e=>⟨o,k b o (λz=>hc (by simp[z])) e⟩) (λ_ _ e=>e) (λ_ _ _ e=>e) (λb ps e=>⟨#[],by rw[e];simp⟩) (λm hm=>?_) (λb u e=>?_) I.bare
 ·have e:b=it:=by simpa using hb
  subst e
  exact⟨h1,hL,h2,h3⟩
 ·obtain⟨o,es,ep,ho,r⟩:=hm
  exact⟨o,es,ep,k _ o (Ne.symm hL) ho,r⟩
 ·refine(I.hok b u e).stay (λc v hc q=>k c v ?_ q) (λ_ q=>q) λ_ _ q=>q
  rcases hc with z |z
  ·rw[z];exact nit b u e
  ·exact nit c _ z
theorem Inv.tok (I:Inv X pins σ H s)(t:Nat):Inv X pins σ H {s with toks:=t}:=I.un (h':=s.heap) (t':=t) Un.refl I.hok
theorem Inv.kept {t':Nat}(I:Inv X pins σ H s)(k:∀b u,s.heap.get? b=some u->h'.get? b=some u):Inv X pins σ H {s with heap:=h',toks:=t'}:=I.un (Un.kept k) (I.hok.kept k)
theorem Inv.laid {a:Addr}{o:HO}{t':Nat}(I:Inv X pins σ H s)(k:∀b u,s.heap.get? b=some u->h'.get? b=some u)(hp:s.heap.objs.size<=a)(new:Zg X.prog X.w (upd H a o) h' a o):
  Inv X pins σ (upd H a o) {s with heap:=h',toks:=t'}:=I.un (Un.laid k hp (I.hok.fresh hp)) (I.hok.laid k hp new)
theorem Inv.write {x e:Addr}{o:HO}{t':Nat}(I:Inv X pins σ H s)(mu:Mut (H x))(he:e=x∨H e=some (.own x))(k:∀b u,b≠e->s.heap.get? b=some u->h'.get? b=some u)(heo:∃u,h'.get? e=some u)
  (new:Zg X.prog X.w (upd H x o) h' x o):Inv X pins σ (upd H x o) {s with heap:=h',toks:=t'}:=I.un (Un.write mu he k heo) (I.hok.write mu he k heo new)
theorem Inv.weak {σ':List (Option V)}(I:Inv X pins σ H s)(hl:σ'.length=σ.length)(w:∀(i:Nat) v,σ'[i]?=some (some v)->σ[i]?=some (some v)):Inv X pins σ' H s:=
 ⟨I.ok,I.os,I.bare,I.base,let ⟨m,hn,hl'⟩:=I.loc;⟨m,hn,λi x v e1 e2 e3=>hl' i x v e1 (w i v e2) e3⟩,I.cell,I.free,I.freeC,I.pin,I.hok,hl.trans I.len⟩
theorem Inv.pins_of {pins':List (Addr×Obj)}(I:Inv X pins σ H s)(h:∀p∈pins',s.heap.get? p.1=some p.2/\H p.1=none/\p.1≠X.env.locals/\p.1∉X.fs/\∀v,p.2.data≠ .cell v):Inv X pins' σ H s:=
 ⟨I.ok,I.os,I.bare,I.base,I.loc,I.cell,I.free,I.freeC,λp hp=>(List.mem_append.mp hp).elim (λz=>I.pin p (List.mem_append_left _ z)) (h p),I.hok,I.len⟩
theorem Fm {N:List Str}(hN:N.Nodup){i j:Nat}{x:Str}(a:N[i]?=some x)(b:N[j]?=some x):i=j:=by
 obtain⟨h1,e1⟩:=List.getElem?_eq_some_iff.mp a
 obtain⟨h2,e2⟩:=List.getElem?_eq_some_iff.mp b
 exact(List.getElem_inj hN).mp (e1.trans e2.symm)
theorem K5 {M:Model}{A:Around}{E:Value->Shared->Prop}{i:Nat}{x:Str}{v:V}{u:Value}{Q:Unit->Shared->Prop}(I:Inv X pins σ H s)(hN:X.N.Nodup)(hi:X.N[i]?=some x)(hx:Loc X.env.scope x)(r:Yy v u)
  (h:∀s',Inv X pins (σ.set i (some v)) H s'->(∃a,Heap.SameBut a s.heap s'.heap/\(a=X.env.locals∨X.env.cells.lookup x=some a))->Q () s')(hf:X.fn x=true∨X.env.scope.names.lookup x=some .local:=by first |exact .inl rfl |exact .inr rfl |assumption):wpAny M A (storeName X.env x u) Q E s:=by
 obtain⟨m,hn,hl⟩:=id I.loc
 have hcls:(X.env.scope.kind== .class || (X.env.scope.kind== .module&&X.env.locals !=X.env.globals))=false:=by rw[I.ok.kind];rfl
 have hiσ:i<σ.length:=by rw[I.len];exact(List.getElem?_eq_some_iff.mp hi).1
 have cne:=I.cne
 have tracked:∀{a:Addr}{h':Heap},(∃o,s.heap.get? a=some o/\H a=none)->Heap.SameBut a s.heap h'->HOk X.prog X.w H h':=fun {a h'} ha hs b ob e=>by
  obtain⟨_,_,hfree⟩:=ha
  refine(I.hok b ob e).stay (λc w' hc q=>(hs.2 c ?_).trans q) (λ_ q=>q) λ_ _ q=>q
  rintro rfl
  rcases hc with rfl |hc
  ·rw[hfree] at e;cases e
  ·rw[hfree] at hc;cases hc
 rcases hx with hk |hk
 ·refine wpAny_storeName_local hk hn (λh' hn' hs=>?_) hcls
  obtain⟨oL,_,_,hoL,_⟩:=id hn
  refine h _ ⟨I.ok,I.os,I.bare,⟨λb o e n hb hx=>?_,λb o e n hb hx=>?_,I.base.free,λb o e hx=>?_,I.base.tups,I.base.frzs,I.base.tbls⟩,⟨_,hn',λj y v' e1 e2 e3=>?_⟩,λy c e=>?_,I.free,I.freeC,λp hp=>?_,tracked ⟨oL,hoL,I.free⟩ hs,by simpa using I.len⟩ ⟨_,hs, .inl rfl⟩
  ·exact(hs.2 b (Nat.ne_of_lt (Nat.lt_of_lt_of_le (Heap.lt_size e) I.ok.above))).trans (I.base.keep b o e n hb hx)
  ·obtain⟨sl,e1⟩:=I.base.slot b o e n hb hx
   exact⟨sl,(hs.2 b (Nat.ne_of_lt (Nat.lt_of_lt_of_le (Heap.lt_size e) I.ok.above))).trans e1⟩
  ·obtain⟨o',e1⟩:=I.base.there b o e hx
   exact⟨o',(hs.2 b (Nat.ne_of_lt (Nat.lt_of_lt_of_le (Heap.lt_size e) I.ok.above))).trans e1⟩
  ·by_cases hj:j=i
   ·subst hj
    rw[hi] at e1;cases e1
    rw[List.getElem?_set_self hiσ] at e2
    cases e2
    exact⟨u,r, .inl ⟨hk,by simp⟩⟩
   ·rw[List.getElem?_set_ne (Ne.symm hj)] at e2
    obtain⟨u',r',q⟩:=hl j y v' e1 e2 e3
    refine⟨u',r',?_⟩
    rcases q with⟨k,e⟩ | ⟨k,c,e,z⟩
    ·refine .inl ⟨k,?_⟩
     have:y≠x:=λe=>hj (Fm hN e1 (e▸hi))
     simp[this,e]
    ·exact .inr ⟨k,c,e,z.sameBut hs (cne y c e)⟩
  ·obtain⟨w',z⟩:=I.cell y c e
   exact⟨w',z.sameBut hs (cne y c e)⟩
  ·obtain⟨e,n,ne,nf,d⟩:=I.pin p hp
   exact⟨(hs.2 p.1 ne).trans e,n,ne,nf,d⟩
 ·have hfn:X.fn x=true:=by
   rcases hf with z |z
   ·exact z
   ·rw[z] at hk;cases hk
  obtain⟨c,hc⟩:=I.ok.has x (.inl hk)
  obtain⟨w',z⟩:=I.cell x c hc
  refine wpAny_storeName_cell I.ok.kind hk hc z (λh' hc' hs=>?_)
  obtain⟨oc,hoc,hocd⟩:=id z
  refine h {s with heap:=h'} ⟨I.ok,I.os,I.bare,⟨λb o e n hb hx=>?_,λb o e n hb hx=>?_,I.base.free,λb o e hx=>?_,I.base.tups,I.base.frzs,I.base.tbls⟩,⟨m,hn.sameBut hs (Ne.symm (cne x c hc)),λj y v' e1 e2 e3=>?_⟩,λy c' e=>?_,I.free,I.freeC,λp hp=>?_,tracked ⟨oc,hoc,I.freeC x c hc⟩ hs,by simpa using I.len⟩ ⟨c,hs, .inr hc⟩
  ·exact(hs.2 b (Nat.ne_of_lt (Nat.lt_of_lt_of_le (Heap.lt_size e) (I.ok.cab x c hfn hc)))).trans (I.base.keep b o e n hb hx)
  ·obtain⟨sl,e1⟩:=I.base.slot b o e n hb hx
   exact⟨sl,(hs.2 b (Nat.ne_of_lt (Nat.lt_of_lt_of_le (Heap.lt_size e) (I.ok.cab x c hfn hc)))).trans e1⟩
  ·obtain⟨o',e1⟩:=I.base.there b o e hx
   exact⟨o',(hs.2 b (Nat.ne_of_lt (Nat.lt_of_lt_of_le (Heap.lt_size e) (I.ok.cab x c hfn hc)))).trans e1⟩
  ·by_cases hj:j=i
   ·subst hj
    rw[hi] at e1;cases e1
    rw[List.getElem?_set_self hiσ] at e2
    cases e2
    exact⟨u,r, .inr ⟨.inl hk,c,hc,hc'⟩⟩
   ·rw[List.getElem?_set_ne (Ne.symm hj)] at e2
    obtain⟨u',r',q⟩:=hl j y v' e1 e2 e3
    refine⟨u',r',?_⟩
    rcases q with q | ⟨k,c',e,z'⟩
    ·exact .inl q
    ·refine .inr ⟨k,c',e,z'.sameBut hs ?_⟩
     rintro rfl
     exact hj (Fm hN e1 (I.ok.inj _ _ _ e hc▸hi))
  ·by_cases hcc:c'=c
   ·subst hcc;exact⟨_,hc'⟩
   ·obtain⟨w2,z2⟩:=I.cell y c' e
    exact⟨w2,z2.sameBut hs hcc⟩
  ·obtain⟨e,n,ne,nf,d⟩:=I.pin p hp
   refine⟨(hs.2 p.1 ?_).trans e,n,ne,nf,d⟩
   intro q
   rw[q,hoc] at e
   have q':oc=p.2:=Option.some.inj e
   exact d w' (by rw[←q'];exact hocd)
theorem Jq {M:Model}{A:Around}{E:Value->Shared->Prop}{i:Nat}{x:Str}{v:V}{u:Value}{Q:Unit->Shared->Prop}(I:Inv X pins σ H s)(hN:X.N.Nodup)(hi:X.N[i]?=some x)(hx:Loc X.env.scope x)(r:Yy v u)
  (h:∀s',Inv X pins (σ.set i (some v)) H s'->Q () s')(hf:X.fn x=true∨X.env.scope.names.lookup x=some .local:=by first |exact .inl rfl |exact .inr rfl |assumption):wpAny M A (storeName X.env x u) Q E s:=
 K5 I hN hi hx r (λs' I' _=>h s' I') hf
theorem Inv.call' {s':Shared}{ch:List Addr}(I:Inv X pins σ H s)(ho:s'.os=s.os)(u:Un (frs X.stack) ch H H' s.heap s'.heap)(hok:HOk X.prog X.w H' s'.heap)(hg:AllBare s'.gens)
  (hch:∀b∈ch,(b∈X.ex∨X.s₀.heap.objs.size<=b)/\b≠X.env.locals/\(∀x c,X.env.cells.lookup x=some c->c≠b)/\∀p∈X.pn++pins,p.1≠b):Inv X pins σ H' s':=by
 obtain⟨h',g',d',t',o'⟩:=s'
 have e:o'=s.os:=ho
 subst e
 exact I.call (g':=g') (t':=t') (d':=d') u hok hg hch
end
noncomputable abbrev XK:=Value->Option Addr->Hp->Prop
noncomputable abbrev St:=List (Option V)
noncomputable abbrev VK:=V->Hp->Prop
noncomputable abbrev TE:=St->Hp->VK->Prop
noncomputable abbrev TT:=St->Hp->(Bool->Hp->Prop)->Prop
noncomputable abbrev TA:=St->Hp->(List V->Hp->Prop)->Prop
structure Ends where
 nx:St->Hp->Prop
 rt:VK
 bk:St->Hp->Prop:=λ_ _=>False
 ct:St->Hp->Prop:=λ_ _=>False
noncomputable abbrev TS:=Ends->St->Hp->Prop
noncomputable def EP (X:Cx)(pins:List (Addr×Obj))(σ:St)(Q:VK)(u:Value)(s':Shared):Prop:=∃ v H',Inv X pins σ H' s'/\Yy v u/\Q v H'
noncomputable def TP (X:Cx)(pins:List (Addr×Obj))(σ:St)(Q:Bool->Hp->Prop)(b:Bool)(s':Shared):Prop:=∃ H',Inv X pins σ H' s'/\Q b H'
noncomputable def AP (X:Cx)(pins:List (Addr×Obj))(σ:St)(Q:List V->Hp->Prop)(us:List Value)(s':Shared):Prop:=∃ vs H',Inv X pins σ H' s'/\Yv vs us/\Q vs H'
noncomputable def SP (X:Cx)(pins:List (Addr×Obj))(D:Ends)(f:Flow)(s':Shared):Prop:=
 match f with
 | .next=>∃ σ' H',Inv X pins σ' H' s'/\D.nx σ' H'
 | .brk=>∃ σ' H',Inv X pins σ' H' s'/\D.bk σ' H'
 | .cont=>∃ σ' H',Inv X pins σ' H' s'/\D.ct σ' H'
 | .ret u=>∃ v σ' H',Inv X pins σ' H' s'/\Yy v u/\D.rt v H'
noncomputable def PE (X:Cx)(e:Expr)(t:TE):Prop:=
 ∀(pins:List (Addr×Obj)) (s:Shared) (σ:St) (H:Hp) (Q:VK),Inv X pins σ H s->t σ H Q->wpAny (model X.prog X.w) X.A (eval e X.env) (EP X pins σ Q) X.xe s
noncomputable def PT (X:Cx)(e:Expr)(t:TT):Prop:=
 ∀(pins:List (Addr×Obj)) (s:Shared) (σ:St) (H:Hp) (Q:Bool->Hp->Prop),Inv X pins σ H s->t σ H Q->wpAny (model X.prog X.w) X.A (isTrue e X.env (eval e X.env)) (TP X pins σ Q) X.xe s
noncomputable def PW (X:Cx)(e:Expr)(t:TT):Prop:=
 ∀(whole:Sem Value) (pins:List (Addr×Obj)) (s:Shared) (σ:St) (H:Hp) (Q:Bool->Hp->Prop),Inv X pins σ H s->t σ H Q->wpAny (model X.prog X.w) X.A (isTrue e X.env whole) (TP X pins σ Q) X.xe s
theorem PW.pt {X:Cx}{e:Expr}{t:TT}(h:PW X e t):PT X e t:=h _
noncomputable def PA (X:Cx)(es:List Expr)(t:TA):Prop:=
 ∀(pos:Pos) (pins:List (Addr×Obj)) (s:Shared) (σ:St) (H:Hp) (Q:List V->Hp->Prop),Inv X pins σ H s->t σ H Q->wpAny (model X.prog X.w) X.A (spliced (backTo pos (starEach es X.env))) (AP X pins σ Q) X.xe s
noncomputable def PS (X:Cx)(st:Stmt)(t:TS):Prop:=
 ∀(pins:List (Addr×Obj)) (s:Shared) (σ:St) (H:Hp) (D:Ends),Inv X pins σ H s->t D σ H->wpAny (model X.prog X.w) X.A (exec st X.env) (SP X pins D) X.xe s
noncomputable def PSs (X:Cx)(st:List Stmt)(t:TS):Prop:=
 ∀(pins:List (Addr×Obj)) (s:Shared) (σ:St) (H:Hp) (D:Ends),Inv X pins σ H s->t D σ H->wpAny (model X.prog X.w) X.A (execs st X.env) (SP X pins D) X.xe s
theorem thn {α:Type}{t:Sem α}{Q Q':α->Shared->Prop}{M:Model}{A:Around}{E:Value->Shared->Prop}{s:Shared}(h:wpAny M A t Q E s)(hQ:∀a s,Q a s->Q' a s):wpAny M A t Q' E s:=wpAny_mono h hQ λ_ _ x=>x
section
variable {X:Cx}
noncomputable def Ks (i:Nat):TE:=λσ H Q=>∃ v,σ[i]?=some (some v)/\Q v H
noncomputable def tC (v:V):TE:=λ_ H Q=>Q v H
theorem LX {i:Nat}{x:Str}{pos:Pos}(hN:X.N[i]?=some x)(hv:Vis X.env.scope x)(hd:(x==("__debug__":Str))=false:=by decide)(hcd:(x==("__classdict__":Str))=false:=by decide):PE X (.Name x pos) (Ks i):=by
 intro pins s σ H Q I h
 obtain⟨v,e,h⟩:=h
 obtain⟨m,hn,hl⟩:=I.loc
 obtain⟨u,r,l⟩:=hl i x v hN e hv
 have fin:EP X pins σ Q u s:=⟨v,H,I,r,h⟩
 rcases l with⟨hk,hm⟩ | ⟨hk,c,hc,hcell⟩
 ·exact wpAny_Name (wpAny_loadName_local I.ok.kind hk hn hm fin) hd
 ·rcases hk with hk |hk
  ·exact wpAny_Name (wpAny_loadName_cell I.ok.kind hk hc hcell fin) hd
  ·exact wpAny_Name (wpAny_loadName_free I.ok.kind hk hc hcell fin hcd) hd
theorem Xh {i j pos}:PE X (.Constant (.int i) j pos) (tC (.int i)):=λ_ _ _ H _ I h=>wpAny_Constant_int ⟨.int i,H,I.tok _,⟨_,rfl⟩,h⟩
theorem Qu {b j pos}:PE X (.Constant (.bool b) j pos) (tC (.bl b)):=λ_ _ _ H _ I h=>Constant_bool ⟨.bl b,H,I,rfl,h⟩
theorem Hn {j pos}:PE X (.Constant .none j pos) (tC .non):=λ_ _ _ H _ I h=>Constant_none ⟨.non,H,I,rfl,h⟩
noncomputable def Gl (X:Cx)(x:Str):Prop:=X.env.kindOf x=some .globalImplicit
theorem Bh {E:Value->Shared->Prop}{pins:List (Addr×Obj)}{s:Shared}{σ:St}{H:Hp}{x:Str}{u:Value}{pos:Pos}{Q:Value->Shared->Prop}(I:Inv X pins σ H s)(hg:Gl X x)(hm:X.mg x=some u)(h:Q u s)
  (hd:(x==("__debug__":Str))=false:=by decide):wpAny (model X.prog X.w) X.A (eval (.Name x pos) X.env) Q E s:=
 Calls.Name_function_global I.ok.kind hg (Calls.loadGlobal_global (by rw[I.ok.glob];exact I.mod.glob.keeps I.bk) hm h) hd
theorem VV {E:Value->Shared->Prop}{pins:List (Addr×Obj)}{s:Shared}{σ:St}{H:Hp}{x:Str}{u:Value}{pos:Pos}{Q:Value->Shared->Prop}(I:Inv X pins σ H s)(hg:Gl X x)(hm:X.mg x=none)(hv:bootBuiltins x=some u)(h:Q u s)
  (hn:x≠ "__name__":=by decide)(hd:(x==("__debug__":Str))=false:=by decide):wpAny (model X.prog X.w) X.A (eval (.Name x pos) X.env) Q E s:=by
 obtain⟨mb,h1,h2⟩:=I.mod.blt
 exact Calls.Name_function_global I.ok.kind hg (Calls.loadGlobal_builtin (by rw[I.ok.glob];exact I.mod.glob.keeps I.bk) hm (by rw[I.ok.blt];exact h1.keeps I.bk) ((h2 x hn).trans hv) h) hd
theorem HA {x:Str}{v:V}{u:Value}{pos:Pos}(hg:Gl X x)(hm:X.mg x=some u)(r:Yy v u)(hd:(x==("__debug__":Str))=false:=by decide):PE X (.Name x pos) (tC v):=
 λ_ _ _ H _ I h=>Bh I hg hm ⟨v,H,I,r,h⟩ hd
theorem VW {x:Str}{v:V}{u:Value}{pos:Pos}(hg:Gl X x)(hm:X.mg x=none)(hv:bootBuiltins x=some u)(r:Yy v u)(hn:x≠ "__name__":=by decide)(hd:(x==("__debug__":Str))=false:=by decide):PE X (.Name x pos) (tC v):=
 λ_ _ _ H _ I h=>VV I hg hm hv ⟨v,H,I,r,h⟩ hn hd
variable {a b:Expr}{ta tb:TE}{pos:Pos}
noncomputable def PC (X:Cx)(op:CmpOp)(a b:Expr)(t:TE):Prop:=
 ∀(pins:List (Addr×Obj)) (s:Shared) (σ:St) (H:Hp) (Q:VK),Inv X pins σ H s->t σ H Q->
  wpAny (model X.prog X.w) X.A (eval a X.env) (λv s₁=>wpAny (model X.prog X.w) X.A (eval b X.env) (λu s₂=>wpAny (model X.prog X.w) X.A (compareOp op v u) (EP X pins σ Q) X.xe s₂) X.xe s₁) X.xe s
theorem EL (b:Expr){op:CmpOp}(h:op≠ .In)(h2:op≠ .NotIn):behindInMarks op b=false:=by
 have e1:(op==CmpOp.In)=false:=by cases op<;> first |rfl |exact absurd rfl h
 have e2:(op==CmpOp.NotIn)=false:=by cases op<;> first |rfl |exact absurd rfl h2
 cases b<;> simp[behindInMarks,e1,e2]
noncomputable def tB (t:TE):TT:=λσ H Q=>t σ H λx H1=>∃ c,x= .bl c/\Q c H1
theorem Mt {op:CmpOp}{t:TE}(h:PC X op a b t)(h1:behindInMarks op b=false:=by first |exact EL _ (by decide) (by decide) |rfl):PT X (.Compare a [op] [b] pos) (tB t):=by
 intro pins s σ H Q I hw
 refine wpAny_isTrue_Compare1 (thn (h pins s σ H _ I hw) λv s1 h1=>thn h1 λu s2 h2=>thn h2 λc s3 r9=>?_) h1
 obtain⟨x,H1,I1,r1,q1⟩:=r9
 obtain⟨d,rfl,q⟩:=q1
 cases r1
 exact wpAny_truthy_bool ⟨H1,I1,q⟩
theorem QD {e:Expr}{t:TE}(h:PE X e t)(he:∀whole,isTrue e X.env whole=(do let v ←whole;standAt e.pos;holding [v] (truthy v)):=by intro _;rfl):PT X e (tB t):=by
 intro pins s σ H Q I hw
 refine isTrue_plain (thn (h pins s σ H _ I hw) λv s1 r9=>?_) (he _)
 obtain⟨x,H1,I1,r1,q1⟩:=r9
 obtain⟨d,rfl,q⟩:=q1
 cases r1
 exact wpAny_truthy_bool ⟨H1,I1,q⟩
variable {tA tB':TT}{Qk:List Expr}
noncomputable def No (t u:TT):TT:=λσ H Q=>t σ H λc H1=>if c=true then u σ H1 Q else Q false H1
noncomputable def tOr (t u:TT):TT:=λσ H Q=>t σ H λc H1=>if c=true then Q true H1 else u σ H1 Q
noncomputable def Nf (t:TT):TT:=λσ H Q=>t σ H λc H1=>Q (!c) H1
theorem Qv (ha:PT X a tA):PW X (.BoolOp .And [a] pos) tA:=by
 intro wh pins s σ H Q I h
 refine isTrue_and (thn (ha pins s σ H Q I h) λc s1 e=>?_)
 cases c with
 |true=>exact isTrue_and_nil e
 |false=>exact e
theorem Ux (ha:PT X a tA):PW X (.BoolOp .Or [a] pos) tA:=by
 intro wh pins s σ H Q I h
 refine isTrue_or (thn (ha pins s σ H Q I h) λc s1 e=>?_)
 cases c with
 |false=>exact isTrue_or_nil e
 |true=>exact e
theorem Z4 (ha:PT X a tA)(hb:PW X (.BoolOp .And (b::Qk) pos) tB'):PW X (.BoolOp .And (a::b::Qk) pos) (No tA tB'):=by
 intro wh pins s σ H Q I h
 refine isTrue_and (thn (ha pins s σ H _ I h) λc s1 r9=>?_)
 obtain⟨H1,I1,q1⟩:=r9
 cases c with
 |true=>exact hb wh pins s1 σ H1 Q I1 q1
 |false=>exact⟨H1,I1,q1⟩
theorem GA (ha:PT X a tA)(hb:PW X (.BoolOp .Or (b::Qk) pos) tB'):PW X (.BoolOp .Or (a::b::Qk) pos) (tOr tA tB'):=by
 intro wh pins s σ H Q I h
 refine isTrue_or (thn (ha pins s σ H _ I h) λc s1 r9=>?_)
 obtain⟨H1,I1,q1⟩:=r9
 cases c with
 |true=>exact⟨H1,I1,q1⟩
 |false=>exact hb wh pins s1 σ H1 Q I1 q1
theorem Jr (ha:PT X a tA):PT X (.UnaryOp .Not a pos) (Nf tA):=by
 intro pins s σ H Q I h
 exact isTrue_not (ha pins s σ H (λc H1=>Q (!c) H1) I h)
noncomputable def Lz (ta tb:TE):TE:=λσ H Q=>ta σ H λx H1=>∃ c,x= .bl c/\if c=true then tb σ H1 Q else Q (.bl false) H1
noncomputable def Nk (ta tb:TE):TE:=λσ H Q=>ta σ H λx H1=>∃ c,x= .bl c/\if c=true then Q (.bl true) H1 else tb σ H1 Q
noncomputable def L3 (ta:TE):TE:=λσ H Q=>ta σ H λx H1=>∃ c,x= .bl c/\Q (.bl (!c)) H1
theorem DZ {op}{t:TE}(h:PE X a t):PE X (.BoolOp op [a] pos) t:=λpins s σ H Q I hw=>BoolOp_one (h pins s σ H Q I hw)
theorem Hm (ha:PE X a ta)(hb:PE X (.BoolOp .And (b::Qk) pos) tb):PE X (.BoolOp .And (a::b::Qk) pos) (Lz ta tb):=by
 intro pins s σ H Q I h
 refine BoolOp_and (thn (ha pins s σ H _ I h) λv s1 r9=>?_)
 obtain⟨x,H1,I1,r1,q1⟩:=r9
 obtain⟨c,rfl,q1⟩:=q1
 cases r1
 refine wpAny_truthy_bool ?_
 cases c with
 |true=>exact hb pins s1 σ H1 Q I1 q1
 |false=>exact⟨.bl false,H1,I1,rfl,q1⟩
theorem M2 (ha:PE X a ta)(hb:PE X (.BoolOp .Or (b::Qk) pos) tb):PE X (.BoolOp .Or (a::b::Qk) pos) (Nk ta tb):=by
 intro pins s σ H Q I h
 refine BoolOp_or (thn (ha pins s σ H _ I h) λv s1 r9=>?_)
 obtain⟨x,H1,I1,r1,q1⟩:=r9
 obtain⟨c,rfl,q1⟩:=q1
 cases r1
 refine wpAny_truthy_bool ?_
 cases c with
 |false=>exact hb pins s1 σ H1 Q I1 q1
 |true=>exact⟨.bl true,H1,I1,rfl,q1⟩
theorem Hd (ha:PE X a ta):PE X (.UnaryOp .Not a pos) (L3 ta):=by
 intro pins s σ H Q I h
 refine UnaryOp_ (thn (ha pins s σ H _ I h) λv s1 r9=>?_)
 obtain⟨x,H1,I1,r1,q1⟩:=r9
 obtain⟨c,rfl,q1⟩:=q1
 cases r1
 exact not_of (wpAny_truthy_bool ⟨.bl (!c),H1,I1,rfl,q1⟩)
noncomputable def tIf (t:TT)(ta tb:TE):TE:=λσ H Q=>t σ H λc H1=>if c=true then ta σ H1 Q else tb σ H1 Q
theorem EZ {c:Expr}(hc:PT X c tA)(ha:PE X a ta)(hb:PE X b tb):PE X (.IfExp c a b pos) (tIf tA ta tb):=by
 intro pins s σ H Q I h
 refine wpAny_IfExp (thn (hc pins s σ H _ I h) λd s1 r9=>?_)
 obtain⟨H1,I1,q1⟩:=r9
 cases d with
 |true=>exact ha pins s1 σ H1 Q I1 q1
 |false=>exact hb pins s1 σ H1 Q I1 q1
end
noncomputable def SqL (K:PySem.W.Frag)(H:Hp)(a:Addr)(xs:List V):Prop:=
 Rd H a (.lst xs)∨
  ∃(o:Obj) (its:Array Value) (n:Nat),K.lookup a=some o/\o.cls= .type "list" /\o.dict=none/\o.data= .seq its n/\its.size<=sizeLine/\Yv xs its.toList
noncomputable def SqT (K:PySem.W.Frag)(H:Hp)(a:Addr)(xs:List V):Prop:=
 Rd H a (.tup xs)∨
  ∃(o:Obj) (its:Array Value) (n:Nat),K.lookup a=some o/\o.cls= .type "tuple" /\o.data= .seq its n/\its.size<=sizeLine/\Yv xs its.toList
noncomputable def Nx:Value->Option V
 | .none=>some .non
 | .bool b=>some (.bl b)
 | .int i _=>some (.int i)
 | .str x _=>some (.str x)
 | .bytes b _=>some (.byt b)
 | .float b _=>some (.flt b)
 | .ref a=>some (.ref a)
 | .type n=>some (.ty n)
 |_=>none
theorem Yy.abs {x:V}{u:Value}(r:Yy x u):Nx u=some x:=by
 cases x with
 |non=>cases r;rfl
 |bl _=>cases r;rfl
 |int _=>obtain⟨t,rfl⟩:=r;rfl
 |str _=>obtain⟨t,rfl⟩:=r;rfl
 |byt _=>obtain⟨t,rfl⟩:=r;rfl
 |flt _=>obtain⟨t,rfl⟩:=r;rfl
 |ref _=>cases r;rfl
 |ty _=>cases r;rfl
theorem Yy.inj {x y:V}{u:Value}(r:Yy x u)(q:Yy y u):x=y:=Option.some.inj (r.abs.symm.trans q.abs)
theorem Yv.inj:∀{xs ys:List V}{us:List Value},Yv xs us->Yv ys us->xs=ys:=fun {xs ys us} p=>by
 induction p generalizing ys with
 |nil=>intro q;cases q;rfl
 |cons r _ ih=>intro q;cases q with |cons r' t'=>rw[r.inj r',ih t']
section
variable {X:Cx}{pins:List (Addr×Obj)}{σ:St}{H:Hp}{s:Shared}{a:Addr}{xs ys:List V}
theorem SqL.of {K:PySem.W.Frag}(h:H a=some (.lst xs)):SqL K H a xs:=.inl (.inl h)
theorem SqT.of {K:PySem.W.Frag}(h:H a=some (.tup xs)):SqT K H a xs:=.inl (.inl h)
theorem Inv.list (I:Inv X pins σ H s)(h:SqL X.K H a xs):∃its:List Value,Yv xs its/\PlainL s.heap a its.toArray/\xs.length<=sizeLine:=by
 rcases h with h | ⟨o,its,n,hk,hc,hd,hs,hz,r⟩
 ·obtain⟨z,its,n,r,e⟩:=h.ok I.hok
  exact⟨its,r,⟨_,n,e,rfl,rfl,rfl⟩,z⟩
 ·refine⟨its.toList,r,⟨o,n,I.kIn a o hk,hc,hd,by simpa using hs⟩,?_⟩
  have e:=r.length
  simp only[Array.length_toList] at e
  omega
theorem Inv.tuple (I:Inv X pins σ H s)(h:SqT X.K H a xs):∃its:List Value,Yv xs its/\IsTup s.heap a its.toArray/\xs.length<=sizeLine:=by
 rcases h with h | ⟨o,its,n,hk,hc,hs,hz,r⟩
 ·obtain⟨z,its,r,p⟩:=h.ok I.hok
  exact⟨its,r,p.t,z⟩
 ·refine⟨its.toList,r,⟨o,I.kIn a o hk,hc,n,by simpa using hs⟩,?_⟩
  have e:=r.length
  simp only[Array.length_toList] at e
  omega
theorem Inv.list_inj (I:Inv X pins σ H s)(h:SqL X.K H a xs)(h':SqL X.K H a ys):xs=ys:=by
 obtain⟨its,r,⟨o,n,e,_,_,d⟩,_⟩:=I.list h
 obtain⟨its',r',⟨o',n',e',_,_,d'⟩,_⟩:=I.list h'
 rw[e] at e';cases e'
 rw[d] at d'
 injection d' with d1 _
 have:its=its':=by simpa using congrArg Array.toList d1
 subst this
 exact r.inj r'
end
noncomputable abbrev Cx.wish (X:Cx)(E:Value->Shared->Prop):Cx:={X with xe:=E}
noncomputable abbrev Cx.nox (X:Cx):Cx:=X.wish λ_ _=>False
theorem Cx.Ok.wish {X:Cx}(ok:X.Ok)(E:Value->Shared->Prop):(X.wish E).Ok:=
 ⟨ok.mod,ok.kind,ok.glob,ok.blt,ok.above,ok.inj,ok.has,ok.cab,ok.hd,ok.frames,ok.stk,ok.exf,ok.bs,ok.bsz,ok.noex,ok.exfs,ok.funs,ok.frf⟩
theorem Cx.Ok.unwish {X:Cx}{E:Value->Shared->Prop}(ok:(X.wish E).Ok):X.Ok:=
 ⟨ok.mod,ok.kind,ok.glob,ok.blt,ok.above,ok.inj,ok.has,ok.cab,ok.hd,ok.frames,ok.stk,ok.exf,ok.bs,ok.bsz,ok.noex,ok.exfs,ok.funs,ok.frf⟩
section
variable {X:Cx}{pins:List (Addr×Obj)}{σ:St}{H:Hp}{s:Shared}{E:Value->Shared->Prop}
theorem Inv.wish (I:Inv X pins σ H s)(E:Value->Shared->Prop):Inv (X.wish E) pins σ H s:=⟨I.ok.wish E,I.os,I.bare,I.base,I.loc,I.cell,I.free,I.freeC,I.pin,I.hok,I.len⟩
theorem Inv.unwish (I:Inv (X.wish E) pins σ H s):Inv X pins σ H s:=⟨I.ok.unwish,I.os,I.bare,I.base,I.loc,I.cell,I.free,I.freeC,I.pin,I.hok,I.len⟩
theorem SP.unwish {D:Ends}{f:Flow}{s':Shared}(h:SP (X.wish E) pins D f s'):SP X pins D f s':=by
 cases f with
 |next=>obtain⟨σ',H',I,q⟩:=h;exact⟨σ',H',I.unwish,q⟩
 |brk=>obtain⟨σ',H',I,q⟩:=h;exact⟨σ',H',I.unwish,q⟩
 |cont=>obtain⟨σ',H',I,q⟩:=h;exact⟨σ',H',I.unwish,q⟩
 |ret u=>obtain⟨v,σ',H',I,r,q⟩:=h;exact⟨v,σ',H',I.unwish,r,q⟩
theorem PE.nox {e:Expr}{t:TE}(h:PE X.nox e t):PE X e t:=λpins s σ H Q I hw=>
 wpAny_mono (h pins s σ H Q (I.wish _) hw) (λ_ _ r9=>by obtain⟨v,H',I',r,q⟩:=r9;exact⟨v,H',I'.unwish,r,q⟩) λ_ _ z=>False.elim z
theorem PT.nox {e:Expr}{t:TT}(h:PT X.nox e t):PT X e t:=λpins s σ H Q I hw=>
 wpAny_mono (h pins s σ H Q (I.wish _) hw) (λ_ _ r9=>by obtain⟨H',I',q⟩:=r9;exact⟨H',I'.unwish,q⟩) λ_ _ z=>False.elim z
theorem PSs.nox {st:List Stmt}{t:TS}(h:PSs X.nox st t):PSs X st t:=λpins s σ H D I hw=>
 wpAny_mono (h pins s σ H D (I.wish _) hw) (λ_ _ q=>q.unwish) λ_ _ z=>False.elim z
end
section
variable {X:Cx}{st:Stmt}{Qk:List Stmt}{t u:TS}{e:Expr}{te:TE}{pos:Pos}
noncomputable def Di:TS:=λD σ H=>D.nx σ H
noncomputable def Jo (t u:TS):TS:=λD σ H=>t {D with nx:=u D} σ H
theorem Xg:PSs X [] Di:=λ_ _ σ H _ I h=>wpAny_execs_nil ⟨σ,H,I,h⟩
theorem Xc (h1:PS X st t)(h2:PSs X Qk u):PSs X (st::Qk) (Jo t u):=by
 intro pins s σ H D I h
 refine wpAny_execs_cons (thn (h1 pins s σ H {D with nx:=u D} I h) λf s1 q=>?_)
 cases f with
 |next=>
  obtain⟨σ',H',I',q⟩:=q
  exact h2 pins s1 σ' H' D I' q
 |ret v=>exact q
 |brk=>exact q
 |cont=>exact q
theorem Inv.quiet {pins:List (Addr×Obj)}{σ:St}{H:Hp}{s:Shared}(I:Inv X pins σ H s):interactive X.env=false:=by simp[interactive,I.ok.kind]
noncomputable def Dz (te:TE):TS:=λD σ H=>te σ H λ_ H1=>D.nx σ H1
theorem Ye (he:PE X e te)(hs:swapsWith e none pos.line X.env=pure false:=by rfl):PS X (.Expr e pos) (Dz te):=by
 intro pins s σ H D I h
 exact wpAny_Expr_any (thn (he pins s σ H _ I h) λv s1 r9=>by obtain⟨x,H1,I1,r1,q1⟩:=r9;exact⟨σ,H1,I1,q1⟩) I.quiet hs
noncomputable def MO (te:TE):TS:=λD σ H=>te σ H D.rt
theorem Xz (he:PE X e te):PS X (.Return (some e) pos) (MO te):=by
 intro pins s σ H D I h
 exact wpAny_Return_some (thn (he pins s σ H _ I h) λv s1 r9=>by obtain⟨x,H1,I1,r1,q1⟩:=r9;exact⟨x,σ,H1,I1,r1,q1⟩)
noncomputable def Lo (c:TT)(t u:TS):TS:=λD σ H=>c σ H λb H1=>if b=true then t D σ H1 else u D σ H1
theorem Yj {c:Expr}{a b:List Stmt}{tc:TT}(hc:PT X c tc)(ha:PSs X a t)(hb:PSs X b u):PS X (.If c a b pos) (Lo tc t u):=by
 intro pins s σ H D I h
 refine wpAny_If (thn (hc pins s σ H _ I h) λd s1 r9=>?_)
 obtain⟨H1,I1,q1⟩:=r9
 cases d with
 |true=>exact ha pins s1 σ H1 D I1 q1
 |false=>exact hb pins s1 σ H1 D I1 q1
noncomputable def LV:TS:=λ_ _ _=>False
theorem FV:PS X st LV:=λ_ _ _ _ _ _ h=>h.elim
end
noncomputable abbrev TG:=V->St->Hp->(St->Hp->Prop)->Prop
noncomputable abbrev TGs:=List V->St->Hp->(St->Hp->Prop)->Prop
noncomputable def PG (X:Cx)(target:Expr)(t:TG):Prop:=
 ∀(pins:List (Addr×Obj)) (s:Shared) (σ:St) (H:Hp) (v:V) (u:Value) (Q:St->Hp->Prop),Inv X pins σ H s->Yy v u->t v σ H Q->
  wpAny (model X.prog X.w) X.A (assign target X.env u) (λ_ s'=>∃ σ' H',Inv X pins σ' H' s'/\Q σ' H') X.xe s
noncomputable def PGs (X:Cx)(ts:List Expr)(t:TGs):Prop:=
 ∀(pins:List (Addr×Obj)) (s:Shared) (σ:St) (H:Hp) (vs:List V) (us:List Value) (Q:St->Hp->Prop),Inv X pins σ H s->Yv vs us->t vs σ H Q->
  wpAny (model X.prog X.w) X.A (assignInOrder ((assignEach ts X.env).map (·.2)) us) (λ_ s'=>∃ σ' H',Inv X pins σ' H' s'/\Q σ' H') X.xe s
noncomputable abbrev MR:=V->V->V->Hp->(Hp->Prop)->Prop
noncomputable def Nm (X:Cx)(t:MR):Prop:=
 ∀(pins:List (Addr×Obj)) (s:Shared) (σ:St) (H:Hp) (o i v:V) (ov iv u:Value) (Q:Hp->Prop),Inv X pins σ H s->Yy o ov->Yy i iv->Yy v u->t o i v H Q->
  wpAny (model X.prog X.w) X.A (setItem ov iv u) (λ_ s'=>∃ H',Inv X pins σ H' s'/\Q H') X.xe s
noncomputable abbrev TIp:=V->V->Hp->VK->Prop
noncomputable def PIp (X:Cx)(op:Operator)(t:TIp):Prop:=
 ∀(pins:List (Addr×Obj)) (s:Shared) (σ:St) (H:Hp) (x y:V) (v u:Value) (Q:VK),Inv X pins σ H s->Yy x v->Yy y u->t x y H Q->
  wpAny (model X.prog X.w) X.A (inplaceOp op v u) (EP X pins σ Q) X.xe s
section
variable {X:Cx}{pos:Pos}
noncomputable def Zx (i:Nat):TG:=λv σ H Q=>Q (σ.set i (some v)) H
theorem Xo {i:Nat}{x:Str}(hN:X.N.Nodup)(hi:X.N[i]?=some x)(hx:Loc X.env.scope x)(hf:X.fn x=true∨X.env.scope.names.lookup x=some .local:=by first |exact .inl rfl |exact .inr rfl |assumption):PG X (.Name x pos) (Zx i):=by
 intro pins s σ H v u Q I r h
 exact wpAny_assign_Name (Jq I hN hi hx r (λs' I'=>⟨_,H,I',h⟩) hf)
noncomputable def Iu:TGs:=λvs σ H Q=>vs=[]/\Q σ H
noncomputable def Qr (t:TG)(u:TGs):TGs:=λvs σ H Q=>∃ v r,vs=v::r/\t v σ H λσ' H'=>u r σ' H' Q
theorem Z6:PGs X [] Iu:=by
 intro pins s σ H vs us Q I r h
 obtain⟨e,h⟩:=h
 subst e
 cases r
 exact assignInOrder_nil ⟨σ,H,I,h⟩
theorem XR {e:Expr}{es:List Expr}{t:TG}{u:TGs}(h1:PG X e t)(h2:PGs X es u)
  (hs:(assignEach (e::es) X.env).map (·.2)=assign e X.env::(assignEach es X.env).map (·.2):=by rfl):PGs X (e::es) (Qr t u):=by
 intro pins s σ H vs us Q I r h
 obtain⟨v,vr,e1,h⟩:=h
 subst e1
 cases r with
 |cons r rr=>
  rw[hs]
  refine assignInOrder_cons (thn (h1 pins s σ H _ _ _ I r h) λ_ s1 r9=>?_)
  obtain⟨σ1,H1,I1,q1⟩:=r9
  exact h2 pins s1 σ1 H1 _ _ Q I1 rr q1
noncomputable def Ht (K:PySem.W.Frag)(n:Nat)(t:TGs):TG:=λv σ H Q=>∃ a xs,v= .ref a/\SqT K H a xs/\xs.length=n/\t xs σ H Q
theorem Q0 {es:List Expr}{k:Nat}{t:TGs}{n:Nat}(hc:X.calm=true)(h:PGs X es t)
  (hn:(assignEach es X.env).length=n:=by rfl)(hst:(assignEach es X.env).findIdx? (·.1)=none:=by rfl):PG X (.Tuple es k pos) (Ht X.K n t):=by
 intro pins s σ H v u Q I r hw
 obtain⟨a,xs,e1,hq,hl,hw⟩:=hw
 subst e1
 cases r
 obtain⟨its,rv,ht,hz⟩:=I.tuple hq
 refine assign_Tuple_tuple (I.ok.hd hc) ht (by simp[hn, ←hl,rv.length]) hst λh' hx=>?_
 have I1:Inv X pins σ H {s with heap:=h'}:=I.kept (t':=s.toks) λb o e=>hx b o (Nat.ne_of_lt (Heap.lt_size e)) e
 exact h pins _ σ H xs _ Q I1 (by simpa using rv) hw
noncomputable def M7 (to ti:TE)(t:MR):TG:=λv σ H Q=>to σ H λo H1=>ti σ H1 λi H2=>t o i v H2 λH3=>Q σ H3
theorem FH {o i:Expr}{to ti:TE}{t:MR}(ho:PE X o to)(hi:PE X i ti)(hs:Nm X t)
  (ha:∀v,assign (.Subscript o i pos) X.env v=(do
   let ov ←holding [v] (eval o X.env)
   let iv ←holding [v,ov] (eval i X.env)
   standAt pos
   holding [v,ov,iv] (setItem ov iv v)
   release [v,ov,iv] []):=by intro _;rfl):PG X (.Subscript o i pos) (M7 to ti t):=by
 intro pins s σ H v u Q I r h
 rw[ha]
 refine wpAny_bind (wpAny_holding (thn (ho pins s σ H _ I h) λov s1 r9=>?_))
 obtain⟨x,H1,I1,r1,q1⟩:=r9
 refine wpAny_bind (wpAny_holding (thn (hi pins s1 σ H1 _ I1 q1) λiv s2 r9=>?_))
 obtain⟨y,H2,I2,r2,q2⟩:=r9
 refine wpAny_bind (wpAny_standAt (wpAny_bind (wpAny_holding (thn (hs pins s2 σ H2 x y v ov iv u _ I2 r1 r2 r q2) λ_ s3 r9=>?_))))
 obtain⟨H3,I3,q3⟩:=r9
 exact wpAny_release ⟨σ,H3,I3,q3⟩
noncomputable def Ea (te:TE)(g:TG):TS:=λD σ H=>te σ H λx H1=>g x σ H1 D.nx
theorem Vc {tg e:Expr}{te:TE}{g:TG}(he:PE X e te)(hg:PG X tg g)(hs:swapsWithSole [tg] e pos.line X.env=pure false:=by rfl)(hw:swappedStores [tg] e X.env=pure none:=by rfl)
  (h1:(assignEach [tg] X.env).map (·.2)=[assign tg X.env]:=by rfl):PS X (.Assign [tg] e pos) (Ea te g):=by
 intro pins s σ H D I h
 refine wpAny_Assign_stores (thn (he pins s σ H _ I h) λv s1 r9=>?_) hs hw
 obtain⟨x,H1,I1,r1,q1⟩:=r9
 rw[h1]
 exact thn (hg pins s1 σ H1 x v _ I1 r1 q1) λ_ s2 q=>q
theorem Xq {i:Nat}{x:Str}{e:Expr}{te:TE}{pos':Pos}(hN:X.N.Nodup)(hi:X.N[i]?=some x)(hx:Loc X.env.scope x)(he:PE X e te)(hs:swapsWith e (some (.Name x pos')) pos.line X.env=pure false:=by rfl)(hf:X.fn x=true∨X.env.scope.names.lookup x=some .local:=by first |exact .inl rfl |exact .inr rfl |assumption):
  PS X (.Assign [.Name x pos'] e pos) (Ea te (Zx i)):=by
 intro pins s σ H D I h
 refine wpAny_Assign_Name (thn (he pins s σ H _ I h) λv s1 r9=>?_) hs
 obtain⟨y,H1,I1,r1,q1⟩:=r9
 exact Jq I1 hN hi hx r1 (λs2 I2=>⟨_,H1,I2,q1⟩) hf
noncomputable def Nr (i j:Nat)(ta:TA):TS:=λD σ H=>ta σ H λvs H1=>∃ v w,vs=[v,w]/\D.nx ((σ.set i (some v)).set j (some w)) H1
theorem Fs {i j:Nat}{x y:Str}{a b:Expr}{ta:TA}{px py pt:Pos}{kt k2 pt2}(hc:X.calm=true)(hN:X.N.Nodup)(hi:X.N[i]?=some x)(hj:X.N[j]?=some y)(hij:i≠j)
  (hx:X.env.scope.names.lookup x=some .local)(hy:X.env.scope.names.lookup y=some .local)(ha:PA X [a,b] ta)
  (hw:swappedStores [.Tuple [.Name x px, .Name y py] kt pt] (.Tuple [a,b] k2 pt2) X.env=pure (some [x,y]))
  (hs:swapsWithSole [.Tuple [.Name x px, .Name y py] kt pt] (.Tuple [a,b] k2 pt2) pos.line X.env=pure false:=by rfl):
  PS X (.Assign [.Tuple [.Name x px, .Name y py] kt pt] (.Tuple [a,b] k2 pt2) pos) (Nr i j ta):=by
 intro pins s σ H D I h
 rw[exec_Assign_arm]
 refine wpAny_bind (wpAny_standAt ?_)
 rw[hs]
 refine wpAny_bind (wpAny_pure ?_)
 rw[if_neg (by decide)]
 refine wpAny_bind (Tuple_ (thn (ha _ pins s σ H _ I h) λus s1 r9=>?_))
 obtain⟨vs,H1,I1,r1,q1⟩:=r9
 obtain⟨v,w,e1,q1⟩:=q1
 subst e1
 obtain⟨u1,u2,rfl,rv,rw'⟩:∃u1 u2,us=[u1,u2]/\Yy v u1/\Yy w u2:=by
  cases r1 with
  |cons p q=>
   cases q with
   |cons p' q'=>
    cases q'
    exact⟨_,_,rfl,p,p'⟩
 refine wpAny_newObj_type ?_ (by show 2<=sizeLine;decide)
 have I2:Inv X pins σ H1 {s1 with heap:=s1.heap.push {cls:=.type "tuple",data:=.seq [u1,u2].toArray}}:=I1.kept (t':=s1.toks) λb o e=>Heap.get?_push_of_some _ e
 rw[hw]
 refine wpAny_bind (wpAny_pure ?_)
 show wpAny (model X.prog X.w) X.A (do rule "assign.swapped-stores";let items ←unpackItems (.ref s1.heap.objs.size) 2 none;assignInOrder [λv=>bindName X.env y v,λv=>bindName X.env x v] items.reverse;pure Flow.next) _ _ _
 refine wpAny_bind (wpAny_rule (wpAny_bind (unpackItems_tuple (items:=#[u1,u2]) (I.ok.hd hc) (IsTup.new s1.heap _) λh' hx'=>?_)))
 have I3:=I2.kept (h':=h') (t':=s1.toks) λb o e=>hx' b o (Nat.ne_of_lt (Heap.lt_size e)) e
 show wpAny _ _ (assignInOrder [λv=>bindName X.env y v,λv=>bindName X.env x v] [u2,u1] >>= λ_=>pure Flow.next) _ _ _
 refine wpAny_bind (assignInOrder_cons (wpAny_bindName (Jq I3 hN hj (.inl hy) rw' (λs2 I4=>?_) (.inr hy))))
 refine assignInOrder_cons (wpAny_bindName (Jq I4 hN hi (.inl hx) rv (λs3 I5=>assignInOrder_nil (wpAny_pure ?_)) (.inr hx)))
 rw[List.set_comm _ _ (Ne.symm hij)] at I5
 exact⟨_,H1,I5,q1⟩
noncomputable def MT (i:Nat)(te:TE)(ti:TIp):TS:=λD σ H=>∃ x,σ[i]?=some (some x)/\te σ H λy H1=>ti x y H1 λz H2=>D.nx (σ.set i (some z)) H2
theorem DS {i:Nat}{x:Str}{e:Expr}{te:TE}{op:Operator}{ti:TIp}{pos':Pos}(hN:X.N.Nodup)(hi:X.N[i]?=some x)(hx:Loc X.env.scope x)(he:PE X e te)(ho:PIp X op ti)(hf:X.fn x=true∨X.env.scope.names.lookup x=some .local:=by first |exact .inl rfl |exact .inr rfl |assumption):
  PS X (.AugAssign (.Name x pos') op e pos) (MT i te ti):=by
 intro pins s σ H D I h
 obtain⟨v,e1,h⟩:=h
 obtain⟨m,hn,hl⟩:=I.loc
 have vis:Vis X.env.scope x:=by rcases hx with k |k;exact .inl k;exact .inr (.inl k)
 obtain⟨u,r,l⟩:=hl i x v hi e1 vis
 refine wpAny_AugAssign_Name ?_
 have go:wpAny (model X.prog X.w) X.A (eval e X.env) (λw s₂=>wpAny (model X.prog X.w) X.A (inplaceOp op u w) (λr s₃=>wpAny (model X.prog X.w) X.A (storeName X.env x r) (λ_=>SP X pins D .next) X.xe s₃) X.xe s₂) X.xe s:=by
  refine thn (he pins s σ H _ I h) λw s1 r9=>?_
  obtain⟨y,H1,I1,r1,q1⟩:=r9
  refine thn (ho pins s1 σ H1 v y u w _ I1 r r1 q1) λz s2 r9=>?_
  obtain⟨zv,H2,I2,r2,q2⟩:=r9
  exact Jq I2 hN hi hx r2 (λs3 I3=>⟨_,H2,I3,q2⟩) hf
 rcases l with⟨hk,hm⟩ | ⟨hk,c,hc,hcell⟩
 ·exact wpAny_loadName_local I.ok.kind hk hn hm go
 ·rcases hk with hk |hk
  ·exact wpAny_loadName_cell I.ok.kind hk hc hcell go
  ·rcases hx with k |k
   ·have:X.env.scope.names.lookup x=some .free:=hk
    rw[k] at this;cases this
   ·have:X.env.scope.names.lookup x=some .free:=hk
    rw[k] at this;cases this
noncomputable def ipI (f:Int->Int->Int):TIp:=λx y H Q=>∃ i j,x= .int i/\y= .int j/\Q (.int (f i j)) H
theorem Hf:PIp X .Add (ipI λi j=>i+j):=by
 intro pins s σ H x y v u Q I r1 r2 h
 obtain⟨i,j,e1,e2,q⟩:=h
 subst e1;subst e2
 obtain⟨t,rfl⟩:=r1
 obtain⟨t',rfl⟩:=r2
 exact iadd_int ⟨.int _,H,I.tok _,⟨_,rfl⟩,q⟩
end
section
variable {X:Cx}{pos:Pos}
noncomputable def Hj (c:TT)(tb:TS):TS:=λD σ H=>∃ W:Nat->St->Hp->Prop,(∃m,W m σ H)/\∀m σ H,W m σ H->
 c σ H λb H1=>if b=true then ∃N:St->Hp->Prop,(∀σ' H',N σ' H'->∃m',m'<m/\W m' σ' H')/\tb {D with nx:=N,ct:=N,bk:=D.nx} σ H1 else D.nx σ H1
theorem Vp {c:Expr}{body:List Stmt}{tc:TT}{tb:TS}(hp:PassesOwn (model X.prog X.w) X.A X.env X.xe)(hc:PT X c tc)(hb:PSs X body tb):PS X (.While c body [] pos) (Hj tc tb):=by
 intro pins s σ H D I h
 obtain⟨W,⟨m0,w0⟩,turn⟩:=h
 refine wpAny_While (codeAny_whileLoop (λn s'=>∃ σ' H',Inv X pins σ' H' s'/\W n σ' H') ?_ m0 ⟨σ,H,I,w0⟩)
 rintro n s1 ⟨σ1,H1,I1,w1⟩
 refine wpAny_passesOwn hp (thn (hc pins s1 σ1 H1 _ I1 (turn n σ1 H1 w1)) λb s2 r9=>?_)
 obtain⟨H2,I2,q2⟩:=r9
 cases b with
 |true=>
  obtain⟨N,hN,q2⟩:=q2
  rw[if_pos rfl]
  refine wpAny_passesOwn hp (thn (hb pins s2 σ1 H2 _ I2 q2) λf s3 q3=>?_)
  cases f with
  |next=>
   obtain⟨σ3,H3,I3,n3⟩:=q3
   obtain⟨m',hm,w3⟩:=hN σ3 H3 n3
   exact⟨m',hm,σ3,H3,I3,w3⟩
  |cont=>
   obtain⟨σ3,H3,I3,n3⟩:=q3
   obtain⟨m',hm,w3⟩:=hN σ3 H3 n3
   exact⟨m',hm,σ3,H3,I3,w3⟩
  |brk=>exact q3
  |ret v=>exact q3
 |false=>
  rw[if_neg Bool.false_ne_true]
  exact wpAny_execs_nil ⟨σ1,H2,I2,q2⟩
end
structure It where
 go:Nat->Hp->Prop
 yld:Nat->Hp->V->Hp->Prop
 stop:Nat->Hp->Prop
noncomputable def Fq (X:Cx)(pins:List (Addr×Obj))(H:Hp)(b:Addr):Prop:=
 H b=none/\b≠X.env.locals/\b∉X.fs/\(b∈X.ex∨X.s₀.heap.objs.size<=b)/\(∀x c,X.env.cells.lookup x=some c->c≠b)/\∀p∈X.pn++pins,p.1≠b
theorem Inv.fpOk {X:Cx}{pins:List (Addr×Obj)}{σ:St}{H H':Hp}{s:Shared}{b:Addr}(I:Inv X pins σ H s)(hb:s.heap.objs.size<=b)(hn:H' b=none):Fq X pins H' b:=by
 refine⟨hn,Nat.ne_of_gt (Nat.lt_of_lt_of_le I.lt hb),I.nofs hb, .inr (Nat.le_trans I.sz hb),λx c e z=>?_,λp hp z=>?_⟩
 ·obtain⟨v,q⟩:=I.cell x c e
  exact absurd (Nat.lt_of_lt_of_le q.lt (by rw[z];exact hb)) (Nat.lt_irrefl _)
 ·exact absurd (Nat.lt_of_lt_of_le (Heap.lt_size (I.pin p hp).1) (by rw[z];exact hb)) (Nat.lt_irrefl _)
structure Turn (P:Program)(w:World)(K:PySem.W.Frag)(tg:Expr)(J:It)(fp:List Addr)(it:Addr)(tn:Nat->Heap->Prop):Prop where
 mem:it∈fp
 obj:∀i h,tn i h->∀b∈fp,∃o,h.get? b=some o/\∀v,o.data≠ .cell v
 keep:∀i h h',tn i h->(∀b∈fp,∀o,h.get? b=some o->h'.get? b=some o)->tn i h'
 item:∀(X:Cx),X.prog=P->X.w=w->X.K=K->X.calm=true->∀(i:Nat) (pins:List (Addr×Obj)) (s:Shared) (σ:St) (H:Hp) (E:Value->Shared->Prop),Inv X pins σ H s->(∀b∈fp,Fq X pins H b)->tn i s.heap->J.go i H->
  wpAny (model P w) X.A (pyNext (.ref it)) (λr s1=>∃ u,r=some u/\
   wpAny (model P w) X.A (letOwnedTupleGo tg (.ref it) u) (λ_ s2=>∃ x H',Inv X pins σ H' s2/\Yy x u/\J.yld i H x H'/\tn (i+1) s2.heap/\∀b∈fp,H' b=none) E s1) E s
 done:∀(X:Cx),X.prog=P->X.w=w->X.K=K->X.calm=true->∀(i:Nat) (pins:List (Addr×Obj)) (s:Shared) (σ:St) (H:Hp) (E:Value->Shared->Prop),Inv X pins σ H s->(∀b∈fp,Fq X pins H b)->tn i s.heap->J.stop i H->
  wpAny (model P w) X.A (pyNext (.ref it)) (λr s1=>r=none/\Inv X pins σ H s1) E s
 self:∀(A:Around) (i:Nat) (s:Shared) (Q:Value->Shared->Prop) (E:Value->Shared->Prop),tn i s.heap->Q (.ref it) s->wpAny (model P w) A (pyIter (.ref it)) Q E s
noncomputable abbrev TI:=St->Hp->(It->Hp->Prop)->Prop
noncomputable def PIE (X:Cx)(pins:List (Addr×Obj))(σ:St)(tg:Expr)(R:It->Hp->Prop)(itv:Value)(s2:Shared):Prop:=
 ∃(it:Addr) (fp:List Addr) (tn:Nat->Heap->Prop) (J:It) (H':Hp),itv= .ref it/\Inv X pins σ H' s2/\Turn X.prog X.w X.K tg J fp it tn/\tn 0 s2.heap/\(∀b∈fp,Fq X pins H' b)/\R J H'
noncomputable def PI (X:Cx)(tg iter:Expr)(wi:TI):Prop:=
 ∀(pins:List (Addr×Obj)) (s:Shared) (σ:St) (H:Hp) (R:It->Hp->Prop),Inv X pins σ H s->wi σ H R->
  wpAny (model X.prog X.w) X.A (eval iter X.env) (λv s1=>wpAny (model X.prog X.w) X.A (pyIter v) (PIE X pins σ tg R) X.xe s1) X.xe s
theorem L9 {M:Model}{A:Around}{E:Value->Shared->Prop}{s:Shared}{tg:Expr}{it:Addr}{u:Value}{o:Obj}{n:String}{vs:Array Value}{Q:Unit->Shared->Prop}(ho:s.heap.get? it=some o)(hc:o.cls= .type n)(hd:o.data= .fields vs)
    (hn: ["enumerate","zip","dict_itemiterator","dict_reverseitemiterator","odict_iterator","itertools.zip_longest","itertools.pairwise"].contains n=false)(hQ:Q () s):wpAny M A (letOwnedTupleGo tg (.ref it) u) Q E s:=by
  unfold letOwnedTupleGo
  cases tg<;> first
    |exact wpAny_pure hQ
    | (cases u<;> first
        |exact wpAny_pure hQ
        | (refine wpAny_bind (wpAny_load ho ?_)
           rw[hc,hd]
           show wpAny M A (if(["enumerate","zip","dict_itemiterator","dict_reverseitemiterator","odict_iterator","itertools.zip_longest","itertools.pairwise"].contains n&&vs[0]?==some (rawInt _))=true then _ else _) Q E s
           rw[if_neg (by intro h;rw[hn,Bool.false_and] at h;cases h)]
           exact wpAny_pure hQ))
noncomputable def Itl (K:PySem.W.Frag)(a:Addr):It:=
 ⟨λi H=>∃ xs x,SqL K H a xs/\xs[i]?=some x,λi H x H'=>H'=H/\∀xs,SqL K H a xs->xs[i]?=some x,λi H=>∃ xs,SqL K H a xs/\xs.length<=i⟩
noncomputable def Itr (lo:Int)(n:Nat):It:=⟨λi _=>i<n,λi H x H'=>H'=H/\x= .int (lo+i),λi _=>n<=i⟩
theorem Ck {P:Program}{w:World}{K:PySem.W.Frag}{tg:Expr}(a it:Addr):Turn P w K tg (Itl K a) [it] it (λi h=>h.IsListIter it a i) where
 mem:=by simp
 obj:=λi h st b hb=>by
  have e:b=it:=by simpa using hb
  subst e
  obtain⟨o,e,c,d⟩:=st
  exact⟨o,e,λv z=>by rw[d] at z;cases z⟩
 keep:=λi h h' st k=>st.at λo e=>k it (by simp) o e
 item:=by
  intro X hP hw hK hc i pins s σ H E I hf st hg
  subst hP hw hK
  obtain⟨xs,x,hq,hx⟩:=hg
  obtain⟨its,rv,p,hz⟩:=I.list hq
  obtain⟨u,hu,ru⟩:=rv.get hx
  obtain⟨f0,f1,f2,f3,f4,f5⟩:=hf it (by simp)
  refine wpAny_pyNext_list_item st p.isList (x:=u) (by simpa using hu) λh' st' sb=>?_
  have I1:Inv X pins σ H {s with heap:=h'}:=I.turned (t':=s.toks) (λb o hb e=>(sb.2 b hb).trans e) f0 f1 f3 f4 f5
  obtain⟨o,e,c,d⟩:=id st'
  exact⟨u,rfl,L9 (s:={s with heap:=h'}) e c d (by decide) ⟨x,H,I1,ru,⟨rfl,λys hy=>by rw[I.list_inj hy hq];exact hx⟩,st',λb hb=>(hf b hb).1⟩⟩
 done:=by
  intro X hP hw hK hc i pins s σ H E I hf st hg
  subst hP hw hK
  obtain⟨xs,hq,hx⟩:=hg
  obtain⟨its,rv,p,hz⟩:=I.list hq
  obtain⟨f0,f1,f2,f3,f4,f5⟩:=hf it (by simp)
  have hl:=rv.length
  exact wpAny_pyNext_list_end (I.ok.hd hc) st p.isList (by simp;omega) λh' eb=>⟨rfl,I.turned (t':=s.toks) (λb o hb e=>eb b o hb e) f0 f1 f3 f4 f5⟩
 self:=λ_ _ _ _ _ st h=>wpAny_pyIter_listiter st h
theorem Da {P:Program}{w:World}{K:PySem.W.Frag}{tg:Expr}(it:Addr)(lo:Int)(n:Nat):Turn P w K tg (Itr lo n) [it] it (λi h=>IsRangeIter h it (lo+(i:Nat)*1) ((n:Int)-(i:Nat)) 1) where
 mem:=by simp
 obj:=λi h st b hb=>by
  have e:b=it:=by simpa using hb
  subst e
  exact⟨_,st,λv z=>by
   have z':Data.fields _=Data.cell v:=z
   cases z'⟩
 keep:=λi h h' st k=>k it (by simp) _ st
 item:=by
  intro X hP hw hK hc i pins s σ H E I hf st hg
  subst hP hw hK
  obtain⟨f0,f1,f2,f3,f4,f5⟩:=hf it (by simp)
  have W:=Walks.range (prog:=X.prog) (w:=X.w) (I.ok.hd hc) it lo 1 n
  refine W.item i s _ _ hg st λv h' tk hv st' kk=>?_
  obtain⟨t,rfl⟩:=hv
  have I1:Inv X pins σ H {s with heap:=h',toks:=tk}:=I.turned (λb o hb e=>kk b o (by simpa using hb) e) f0 f1 f3 f4 f5
  refine⟨_,rfl,L9 (s:={s with heap:=h',toks:=tk}) (n:="range_iterator") st' rfl rfl (by decide) ⟨.int (lo+i),H,I1,⟨t,?_⟩,⟨rfl,rfl⟩,st',λb hb=>(hf b hb).1⟩⟩
  rw[Int.mul_one]
 done:=by
  intro X hP hw hK hc i pins s σ H E I hf st hg
  subst hP hw hK
  obtain⟨f0,f1,f2,f3,f4,f5⟩:=hf it (by simp)
  exact wpAny_pyNext_range_end (I.ok.hd hc) st (by have:n<=i:=hg;omega) λh' eb=>⟨rfl,I.turned (t':=s.toks) (λb o hb e=>eb b o hb e) f0 f1 f3 f4 f5⟩
 self:=λ_ _ _ _ _ st h=>wpAny_pyIter_rangeiter st h
section
variable {X:Cx}{tg:Expr}
noncomputable def Ll (K:PySem.W.Frag)(tl:TE):TI:=λσ H R=>tl σ H λx H1=>∃ a,x= .ref a/\(∃xs,SqL K H1 a xs)/\R (Itl K a) H1
theorem IQ {l:Expr}{tl:TE}(hl:PE X l tl):PI X tg l (Ll X.K tl):=by
 intro pins s σ H R I h
 refine thn (hl pins s σ H _ I h) λv s1 r9=>?_
 obtain⟨x,H1,I1,r1,q1⟩:=r9
 obtain⟨a,e,⟨xs,hq⟩,q⟩:=q1
 subst e
 cases r1
 obtain⟨its,rv,p,hz⟩:=I1.list hq
 refine wpAny_pyIter_list p.isList ?_
 refine⟨s1.heap.objs.size,[s1.heap.objs.size],_,_,H1,rfl,I1.kept (t':=s1.toks) λb o e=>Heap.get?_push_of_some _ e,Ck a _,⟨_,Heap.get?_push_size _ rfl,rfl,rfl⟩,λb hb=>?_,q⟩
 have e:b=s1.heap.objs.size:=by simpa using hb
 subst e
 exact I1.fpOk (Nat.le_refl _) (I1.hok.fresh (Nat.le_refl _))
theorem Ew {pins:List (Addr×Obj)}{σ:St}{H:Hp}{s:Shared}{R:It->Hp->Prop}{E:Value->Shared->Prop}{lo hi:Int}{t u v:Tok}{tk:Nat}(I:Inv X pins σ H s)(h1: -(2^62)<=lo)(h2:lo<2^62)(h3: -(2^62)<=hi)(h4:hi<2^62)
  (q:R (Itr lo (hi-lo).toNat) H):wpAny (model X.prog X.w) X.A (pyIter (.ref s.heap.objs.size)) (PIE X pins σ tg R) E {s with heap:=s.heap.push {cls:=.type "range",data:=.fields #[.int lo t, .int hi u, .int 1 v]},toks:=tk}:=by
 refine wpAny_pyIter_range (IsRange.new ..) (small_one h1 h2 h3 h4) ?_
 have I1:Inv X pins σ H {s with heap:=s.heap.push {cls:=.type "range",data:=.fields #[.int lo t, .int hi u, .int 1 v]},toks:=tk}:=I.kept λb o e=>Heap.get?_push_of_some _ e
 refine⟨(s.heap.push {cls:=.type "range",data:=.fields #[.int lo t, .int hi u, .int 1 v]}).objs.size,[(s.heap.push {cls:=.type "range",data:=.fields #[.int lo t, .int hi u, .int 1 v]}).objs.size],_,_,H,rfl,
  I1.kept (t':=tk) λb o e=>Heap.get?_push_of_some _ e,Da _ lo (hi-lo).toNat,?_,λb hb=>?_,q⟩
 ·have e1:lo+((0:Nat):Int)*1=lo:=by simp
  have e2:(((hi-lo).toNat:Nat):Int)-((0:Nat):Int)=Builtin.Range.rangeSize lo hi 1:=by rw[rangeSize_one];split<;> omega
  show IsRangeIter _ _ (lo+((0:Nat):Int)*1) ((((hi-lo).toNat:Nat):Int)-((0:Nat):Int)) 1
  rw[e1,e2]
  exact Heap.get?_push_size _ rfl
 ·have e:b=(s.heap.push {cls:= .type "range",data:= .fields #[.int lo t, .int hi u, .int 1 v]}).objs.size:=by simpa using hb
  subst e
  exact I1.fpOk (Nat.le_refl _) (I1.hok.fresh (Nat.le_refl _))
noncomputable def LD (ta:TA):TI:=λσ H R=>ta σ H λvs H1=>∃ j:Int,vs=[.int j]/\ -(2^62)<=j/\j<2^62/\R (Itr 0 j.toNat) H1
theorem XH {a:Expr}{ta:TA}{p pos:Pos}(hg:Gl X "range")(hm:X.mg "range" =none)(ha:PA X [a] ta)(hs:starEach [a] X.env=[(false,eval a X.env)]:=by rfl):PI X tg (.Call (.Name "range" p) [a] [] pos) (LD ta):=by
 intro pins s σ H R I h
 refine Call_ (VV I hg hm boot_range (PyProof.Rows.callWith_type1 (thn (ha pos pins s σ H _ I h) λus s1 r9=>?_) hs rfl))
 obtain⟨vs,H1,I1,r1,q1⟩:=r9
 obtain⟨j,e,q1,q2,q⟩:=q1
 subst e
 cases r1 with
 |cons r rr=>
  cases rr
  obtain⟨t,rfl⟩:=r
  exact call_range_1 (Ew I1 (by omega) (by omega) q1 q2 (by simpa using q))
noncomputable def MB (wi:TI)(g:TG)(tb:TS):TS:=λD σ H=>wi σ H λJ H1=>∃ W:Nat->Nat->St->Hp->Prop,(∃m,W 0 m σ H1)/\∀i m σ H,W i m σ H->
 (J.stop i H/\D.nx σ H)∨(J.go i H/\∃N:St->Hp->Prop,(∀σ' H',N σ' H'->∃m',m'<m/\W (i+1) m' σ' H')/\∀x H',J.yld i H x H'->g x σ H' λσ2 H2=>tb {D with nx:=N,ct:=N,bk:=D.nx} σ2 H2)
noncomputable def KD (fp:List Addr)(h:Heap):List (Addr×Obj):=fp.filterMap λb=>(h.get? b).map λo=>(b,o)
theorem JM {fp:List Addr}{h:Heap}{b:Addr}{o:Obj}(hb:b∈fp)(e:h.get? b=some o):(b,o)∈KD fp h:=List.mem_filterMap.mpr ⟨b,hb,by rw[e];rfl⟩
theorem Bv {fp:List Addr}{h:Heap}{p:Addr×Obj}(hp:p∈KD fp h):p.1∈fp/\h.get? p.1=some p.2:=by
 obtain⟨b,hb,e⟩:=List.mem_filterMap.mp hp
 cases q:h.get? b with
 |none=>rw[q] at e;cases e
 |some o=>
  rw[q] at e
  have e':(b,o)=p:=Option.some.inj e
  subst e'
  exact⟨hb,q⟩
theorem Inv.pinned {pins:List (Addr×Obj)}{σ:St}{H:Hp}{s:Shared}{fp:List Addr}(I:Inv X pins σ H s)(hf:∀b∈fp,Fq X pins H b)(ho:∀b∈fp,∃o,s.heap.get? b=some o/\∀v,o.data≠ .cell v):Inv X (pins++KD fp s.heap) σ H s:=
 I.pins_of λp hp=>(List.mem_append.mp hp).elim (λz=>I.pin p (List.mem_append_right _ z)) λz=>by
  obtain⟨hb,e⟩:=Bv z
  obtain⟨f0,f1,f2,_⟩:=hf p.1 hb
  obtain⟨o,e',d⟩:=ho p.1 hb
  rw[e] at e';cases e'
  exact⟨e,f0,f1,f2,d⟩
theorem Inv.unpinned {pins pl:List (Addr×Obj)}{σ:St}{H:Hp}{s:Shared}(I:Inv X (pins++pl) σ H s):Inv X pins σ H s:=I.pins_of λp hp=>I.pin p (List.mem_append_right _ (List.mem_append_left _ hp))
theorem X2 {iter:Expr}{body:List Stmt}{wi:TI}{g:TG}{tb:TS}{pos:Pos}(hp:PassesOwn (model X.prog X.w) X.A X.env X.xe)(hc:X.calm=true)(hi:PI X tg iter wi)(hg:PG X tg g)(hb:PSs X body tb)
  (hs:∀x,foldedSetIterable iter X.env x=pure x:=by intro _;rfl):PS X (.For tg iter body [] pos) (MB wi g tb):=by
 intro pins s σ H D I h
 refine wpAny_For (thn (hi pins s σ H _ I h) λv s1 h1=>thn h1 λitv s2 h2=>?_) hs
 obtain⟨it,fp,tn,J,H2,e,I2,T,st2,f2,W,⟨m0,w0⟩,turn⟩:=h2
 subst e
 -- what stays true of the iterator's objects through the loop
 have stat:∀{H':Hp},(∀b∈fp,H' b=none)->∀b∈fp,Fq X pins H' b:=λhn b hb=>⟨hn b hb,(f2 b hb).2⟩
 refine codeAny_forLoop_any (λn s'=>∃ i σ' H',Inv X pins σ' H' s'/\tn i s'.heap/\(∀b∈fp,H' b=none)/\W i n σ' H') ?_ m0 ⟨0,σ,H2,I2,st2,λb hb=>(f2 b hb).1,w0⟩
 rintro n s3 ⟨i,σ3,H3,I3,st3,fr3,w3⟩
 rcases turn i n σ3 H3 w3 with⟨stop,qn⟩ | ⟨go,N,hN,step⟩
 ·refine wpAny_passesOwn hp (thn (T.done X rfl rfl rfl hc i pins s3 σ3 H3 X.xe I3 (stat fr3) st3 stop) λr s4 r9=>?_)
  obtain⟨hr,I4⟩:=r9
  subst hr
  exact wpAny_execs_nil ⟨σ3,H3,I4,qn⟩
 ·refine wpAny_passesOwn hp (thn (T.item X rfl rfl rfl hc i pins s3 σ3 H3 X.xe I3 (stat fr3) st3 go) λr s4 r9=>?_)
  obtain⟨u,hr,h4⟩:=r9
  subst hr
  refine wpAny_passesOwn hp (thn h4 λ_ s5 r9=>?_)
  obtain⟨x,H5,I5,r5,y5,st5,fr5⟩:=r9
  have I5':=I5.pinned (stat fr5) (T.obj _ _ st5)
  refine wpAny_passesOwn hp (thn (hg _ s5 σ3 H5 x u _ I5' r5 (step x H5 y5)) λ_ s6 r9=>?_)
  obtain⟨σ6,H6,I6,q6⟩:=r9
  refine wpAny_passesOwn hp (thn (hb _ s6 σ6 H6 _ I6 q6) λf s7 q7=>?_)
  have again:∀{σ7:St}{H7:Hp},Inv X (pins++KD fp s5.heap) σ7 H7 s7->N σ7 H7->∃m,m<n/\∃i σ' H',Inv X pins σ' H' s7/\tn i s7.heap/\(∀b∈fp,H' b=none)/\W i m σ' H':=fun {σ7 H7} I7 n7=>by
   obtain⟨m',hm,w7⟩:=hN σ7 H7 n7
   refine⟨m',hm,i+1,σ7,H7,I7.unpinned,T.keep _ _ _ st5 λb hb o e=>(I7.pin (b,o) (List.mem_append_right _ (List.mem_append_right _ (JM hb e)))).1,λb hb=>?_,w7⟩
   obtain⟨o,e,d⟩:=T.obj _ _ st5 b hb
   exact(I7.pin (b,o) (List.mem_append_right _ (List.mem_append_right _ (JM hb e)))).2.1
  cases f with
  |next=>obtain⟨σ7,H7,I7,n7⟩:=q7;exact again I7 n7
  |cont=>obtain⟨σ7,H7,I7,n7⟩:=q7;exact again I7 n7
  |brk=>obtain⟨σ7,H7,I7,q7⟩:=q7;exact⟨σ7,H7,I7.unpinned,q7⟩
  |ret v=>obtain⟨x7,σ7,H7,I7,r7,q7⟩:=q7;exact⟨x7,σ7,H7,I7.unpinned,r7,q7⟩
end
noncomputable abbrev R2:=V->V->Hp->VK->Prop
noncomputable def OpR (X:Cx)(f:Value->Value->Sem Value)(r:R2):Prop:=
 ∀(pins:List (Addr×Obj)) (s:Shared) (σ:St) (H:Hp) (x y:V) (v u:Value) (Q:VK),Inv X pins σ H s->Yy x v->Yy y u->r x y H Q->
  wpAny (model X.prog X.w) X.A (f v u) (EP X pins σ Q) X.xe s
noncomputable def UnR (X:Cx)(f:Value->Sem Value)(r:V->Hp->VK->Prop):Prop:=
 ∀(pins:List (Addr×Obj)) (s:Shared) (σ:St) (H:Hp) (x:V) (v:Value) (Q:VK),Inv X pins σ H s->Yy x v->r x H Q->
  wpAny (model X.prog X.w) X.A (f v) (EP X pins σ Q) X.xe s
noncomputable def Qx (X:Cx)(f:Value)(r:List V->Hp->VK->Prop):Prop:=
 ∀(pins:List (Addr×Obj)) (s:Shared) (σ:St) (H:Hp) (xs:List V) (us:List Value) (Q:VK),Inv X pins σ H s->Yv xs us->r xs H Q->
  wpAny (model X.prog X.w) X.A (call f us) (EP X pins σ Q) X.xe s
noncomputable def tOp (r:R2)(ta tb:TE):TE:=λσ H Q=>ta σ H λx H1=>tb σ H1 λy H2=>r x y H2 Q
noncomputable def tUn (r:V->Hp->VK->Prop)(ta:TE):TE:=λσ H Q=>ta σ H λx H1=>r x H1 Q
noncomputable def rI (C:Int->Int->Prop)(g:Int->Int->V):R2:=λx y H Q=>∃ i j,x= .int i/\y= .int j/\C i j/\Q (g i j) H
noncomputable def rI0 (g:Int->Int->V):R2:=λx y H Q=>∃ i j,x= .int i/\y= .int j/\Q (g i j) H
noncomputable def rU (g:Int->V):V->Hp->VK->Prop:=λx H Q=>∃ i,x= .int i/\Q (g i) H
section
variable {X:Cx}{a b c:Expr}{ta tb tc:TE}{pos:Pos}
theorem MI (ha:PE X a ta)(hb:PE X b tb){pins:List (Addr×Obj)}{s:Shared}{σ:St}{H:Hp}{R:V->V->Hp->Prop}(I:Inv X pins σ H s)
  (h:ta σ H λx H1=>tb σ H1 λy H2=>R x y H2){Q:Value->Shared->Prop}{f:Value->Value->Sem Value}
  (hf:∀v u s2 x y H2,Inv X pins σ H2 s2->Yy x v->Yy y u->R x y H2->wpAny (model X.prog X.w) X.A (f v u) Q X.xe s2):
  wpAny (model X.prog X.w) X.A (eval a X.env) (λv s₁=>wpAny (model X.prog X.w) X.A (eval b X.env) (λu s₂=>wpAny (model X.prog X.w) X.A (f v u) Q X.xe s₂) X.xe s₁) X.xe s:=by
 refine thn (ha pins s σ H _ I h) λv s1 r9=>?_
 obtain⟨x,H1,I1,r1,q1⟩:=r9
 refine thn (hb pins s1 σ H1 _ I1 q1) λu s2 r9=>?_
 obtain⟨y,H2,I2,r2,q2⟩:=r9
 exact hf v u s2 x y H2 I2 r1 r2 q2
theorem Xs {op:Operator}{r:R2}(ho:OpR X (binaryOp op) r)(ha:PE X a ta)(hb:PE X b tb):PE X (.BinOp a op b pos) (tOp r ta tb):=by
 intro pins s σ H Q I h
 exact wpAny_BinOp (MI ha hb I h λv u s2 x y H2 I2 rx ry q=>ho pins s2 σ H2 x y v u Q I2 rx ry q)
theorem U7 {op:UnaryOp}{r:V->Hp->VK->Prop}(ho:UnR X (unaryOp op) r)(ha:PE X a ta):PE X (.UnaryOp op a pos) (tUn r ta):=by
 intro pins s σ H Q I h
 exact UnaryOp_ (thn (ha pins s σ H _ I h) λv s1 r9=>by obtain⟨x,H1,I1,r1,q1⟩:=r9;exact ho pins s1 σ H1 x v Q I1 r1 q1)
theorem opI {f:Value->Value->Sem Value}{C:Int->Int->Prop}{g:Int->Int->Int}
  (rule:∀(i j:Int) (t u:Tok) (s:Shared) (Q:Value->Shared->Prop) (E:Value->Shared->Prop),C i j->Q (.int (g i j) s.toks) {s with toks:=s.toks+1}->wpAny (model X.prog X.w) X.A (f (.int i t) (.int j u)) Q E s):
  OpR X f (rI C λi j=>.int (g i j)):=by
 intro pins s σ H x y v u Q I rx ry h
 obtain⟨i,j,rfl,rfl,hc,q⟩:=h
 obtain⟨t,rfl⟩:=rx
 obtain⟨t',rfl⟩:=ry
 exact rule i j t t' s _ _ hc ⟨.int (g i j),H,I.tok _,⟨_,rfl⟩,q⟩
theorem Nd {f:Value->Value->Sem Value}{g:Int->Int->Int}
  (rule:∀(i j:Int) (t u:Tok) (s:Shared) (Q:Value->Shared->Prop) (E:Value->Shared->Prop),Q (.int (g i j) s.toks) {s with toks:=s.toks+1}->wpAny (model X.prog X.w) X.A (f (.int i t) (.int j u)) Q E s):
  OpR X f (rI0 λi j=>.int (g i j)):=by
 intro pins s σ H x y v u Q I rx ry h
 obtain⟨i,j,rfl,rfl,q⟩:=h
 obtain⟨t,rfl⟩:=rx
 obtain⟨t',rfl⟩:=ry
 exact rule i j t t' s _ _ ⟨.int (g i j),H,I.tok _,⟨_,rfl⟩,q⟩
theorem MC {f:Value->Value->Sem Value}{g:Int->Int->Bool}
  (rule:∀(i j:Int) (t u:Tok) (s:Shared) (Q:Value->Shared->Prop) (E:Value->Shared->Prop),Q (.bool (g i j)) s->wpAny (model X.prog X.w) X.A (f (.int i t) (.int j u)) Q E s):
  OpR X f (rI0 λi j=>.bl (g i j)):=by
 intro pins s σ H x y v u Q I rx ry h
 obtain⟨i,j,rfl,rfl,q⟩:=h
 obtain⟨t,rfl⟩:=rx
 obtain⟨t',rfl⟩:=ry
 exact rule i j t t' s _ _ ⟨.bl (g i j),H,I,rfl,q⟩
noncomputable def Ni (i j:Int):Prop:=0<=j/\j<=1000000/\i.natAbs<2^64
noncomputable def LI (i j:Int):Prop:=(-(2^64)<i/\i<2^64)∨(-(2^64)<j/\j<2^64)
theorem LI.ok {i j:Int}(h:LI i j):IntMulOk i j:=by
 rcases h with⟨h1,h2⟩ | ⟨h1,h2⟩
 ·exact .of_left (intBits_le_64 h1 h2)
 ·exact .of_right (intBits_le_64 h1 h2)
theorem X0:OpR X (binaryOp .Add) (rI0 λi j=>.int (i+j)):=Nd λ_ _ _ _ _ _ _ q=>add_int q
theorem ZZ:OpR X (binaryOp .Sub) (rI0 λi j=>.int (i-j)):=Nd λ_ _ _ _ _ _ _ q=>sub_int q
theorem YF:OpR X (binaryOp .Mult) (rI LI λi j=>.int (i*j)):=opI λ_ _ _ _ _ _ _ hc q=>mul_int q hc.ok
theorem Yb:OpR X (binaryOp .Mod) (rI (λ_ j=>0<j) λi j=>.int (i % j)):=opI λi j _ _ _ _ _ hc q=>by
 have h1:(0:Int)<j:=hc
 exact mod_int' (by omega) (by rw[Int.fmod_eq_emod_of_nonneg i (by omega)];exact q)
theorem Cj:OpR X (binaryOp .Pow) (rI Ni λi j=>.int (i^j.toNat)):=opI λ_ _ _ _ _ _ _ hc q=>pow_int_small hc.1 hc.2.1 hc.2.2 q
theorem unI {f:Value->Sem Value}{g:Int->Int}
  (rule:∀(i:Int) (t:Tok) (s:Shared) (Q:Value->Shared->Prop) (E:Value->Shared->Prop),Q (.int (g i) s.toks) {s with toks:=s.toks+1}->wpAny (model X.prog X.w) X.A (f (.int i t)) Q E s):
  UnR X f (rU λi=>.int (g i)):=by
 intro pins s σ H x v Q I rx h
 obtain⟨i,rfl,q⟩:=h
 obtain⟨t,rfl⟩:=rx
 exact rule i t s _ _ ⟨.int (g i),H,I.tok _,⟨_,rfl⟩,q⟩
theorem Jx:UnR X (unaryOp .USub) (rU λi=>.int (-i)):=unI λ_ _ _ _ _ q=>neg_int q
end
noncomputable def MZ:V->V->Bool
 | .non, .non=>true | .non, .int _=>true | .int _, .non=>true | .non, .bl _=>true | .bl _, .non=>true | .non, .str _=>true | .str _, .non=>true
 | .int _, .int _=>true | .bl _, .bl _=>true | .str _, .str _=>true | .byt _, .byt _=>true
 | .int _, .str _=>true | .str _, .int _=>true | .bl _, .str _=>true | .str _, .bl _=>true
 |_,_=>false
noncomputable def rEq:R2:=λx y H Q=>MZ x y=true/\Q (.bl (decide (x=y))) H
noncomputable def rNe:R2:=λx y H Q=>MZ x y=true/\Q (.bl (!decide (x=y))) H
theorem CC {i j:Int}:decide (V.int i=V.int j)=(i==j):=by
 rw[Bool.eq_iff_iff]
 simp
theorem Hh {i j:Bool}:decide (V.bl i=V.bl j)=(i==j):=by
 rw[Bool.eq_iff_iff]
 simp
theorem CY {i j:Str}:decide (V.str i=V.str j)=(i==j):=by
 rw[Bool.eq_iff_iff]
 simp
theorem Bm {i j:Array UInt8}:decide (V.byt i=V.byt j)=(i.toList==j.toList):=by
 rw[Bool.eq_iff_iff]
 cases i
 cases j
 simp
section
variable {X:Cx}{a b c:Expr}{ta tb tc:TE}{pos:Pos}
theorem Yh {pins:List (Addr×Obj)}{σ:St}{H:Hp}{s:Shared}{Q:VK}{k k':Bool}(I:Inv X pins σ H s)(q:Q (.bl k) H)(e:k=k'):EP X pins σ Q (.bool k') s:=by
 subst e
 exact⟨.bl k,H,I,rfl,q⟩
theorem ZG:OpR X (compareOp .Eq) rEq:=by
 intro pins s σ H x y v u Q I rx ry h
 obtain⟨hs,q⟩:=h
 cases x with
 |non=>
  cases rx
  cases y with
  |non=>cases ry;exact PySem.EqNone.eq_none_none (Yh I q (by simp))
  |bl j=>cases ry;exact PySem.EqNone.eq_none_bool (Yh I q (by simp))
  |int j=>obtain⟨t',rfl⟩:=ry;exact PySem.EqNone.eq_none_int (Yh I q (by simp))
  |str j=>obtain⟨t',rfl⟩:=ry;exact PySem.EqNone.eq_none_str (Yh I q (by simp))
  |_=>exact absurd (show false=true from hs) Bool.false_ne_true
 |bl i=>
  cases rx
  cases y with
  |non=>cases ry;exact PySem.EqNone.eq_bool_none (Yh I q (by simp))
  |bl j=>cases ry;exact eq_bool (Yh I q Hh)
  |str j=>obtain⟨t',rfl⟩:=ry;exact PySem.EqMixed.eq_bool_str (Yh I q (by simp))
  |_=>exact absurd (show false=true from hs) Bool.false_ne_true
 |int i=>
  obtain⟨t,rfl⟩:=rx
  cases y with
  |non=>cases ry;exact PySem.EqNone.eq_int_none (Yh I q (by simp))
  |int j=>obtain⟨t',rfl⟩:=ry;exact eq_int (Yh I q CC)
  |str j=>obtain⟨t',rfl⟩:=ry;exact PySem.EqMixed.eq_int_str (Yh I q (by simp))
  |_=>exact absurd (show false=true from hs) Bool.false_ne_true
 |str i=>
  obtain⟨t,rfl⟩:=rx
  cases y with
  |non=>cases ry;exact PySem.EqNone.eq_str_none (Yh I q (by simp))
  |bl j=>cases ry;exact PySem.EqMixed.eq_str_bool (Yh I q (by simp))
  |int j=>obtain⟨t',rfl⟩:=ry;exact PySem.EqMixed.eq_str_int (Yh I q (by simp))
  |str j=>obtain⟨t',rfl⟩:=ry;exact eq_str (Yh I q CY)
  |_=>exact absurd (show false=true from hs) Bool.false_ne_true
 |byt i=>
  obtain⟨t,rfl⟩:=rx
  cases y with
  |byt j=>obtain⟨t',rfl⟩:=ry;exact PySem.W.eq_bytes (Yh I q Bm)
  |_=>exact absurd (show false=true from hs) Bool.false_ne_true
 |_=>cases y<;> exact absurd (show false=true from hs) Bool.false_ne_true
theorem G7:OpR X (compareOp .NotEq) rNe:=by
 intro pins s σ H x y v u Q I rx ry h
 obtain⟨hs,q⟩:=h
 cases x with
 |non=>
  cases rx
  cases y with
  |non=>cases ry;exact PySem.EqNone.ne_none_none (Yh I q (by simp))
  |bl j=>cases ry;exact PySem.EqNone.ne_none_bool (Yh I q (by simp))
  |int j=>obtain⟨t',rfl⟩:=ry;exact PySem.EqNone.ne_none_int (Yh I q (by simp))
  |str j=>obtain⟨t',rfl⟩:=ry;exact PySem.EqNone.ne_none_str (Yh I q (by simp))
  |_=>exact absurd (show false=true from hs) Bool.false_ne_true
 |bl i=>
  cases rx
  cases y with
  |non=>cases ry;exact PySem.EqNone.ne_bool_none (Yh I q (by simp))
  |bl j=>cases ry;exact ne_bool (Yh I q (congrArg not Hh))
  |str j=>obtain⟨t',rfl⟩:=ry;exact PySem.EqMixed.ne_bool_str (Yh I q (by simp))
  |_=>exact absurd (show false=true from hs) Bool.false_ne_true
 |int i=>
  obtain⟨t,rfl⟩:=rx
  cases y with
  |non=>cases ry;exact PySem.EqNone.ne_int_none (Yh I q (by simp))
  |int j=>obtain⟨t',rfl⟩:=ry;exact ne_int (Yh I q (congrArg not CC))
  |str j=>obtain⟨t',rfl⟩:=ry;exact PySem.EqMixed.ne_int_str (Yh I q (by simp))
  |_=>exact absurd (show false=true from hs) Bool.false_ne_true
 |str i=>
  obtain⟨t,rfl⟩:=rx
  cases y with
  |non=>cases ry;exact PySem.EqNone.ne_str_none (Yh I q (by simp))
  |bl j=>cases ry;exact PySem.EqMixed.ne_str_bool (Yh I q (by simp))
  |int j=>obtain⟨t',rfl⟩:=ry;exact PySem.EqMixed.ne_str_int (Yh I q (by simp))
  |str j=>obtain⟨t',rfl⟩:=ry;exact ne_str (Yh I q (congrArg not CY))
  |_=>exact absurd (show false=true from hs) Bool.false_ne_true
 |byt i=>
  obtain⟨t,rfl⟩:=rx
  cases y with
  |byt j=>obtain⟨t',rfl⟩:=ry;exact PySem.W.ne_bytes (Yh I q (congrArg not Bm))
  |_=>exact absurd (show false=true from hs) Bool.false_ne_true
 |_=>cases y<;> exact absurd (show false=true from hs) Bool.false_ne_true
theorem Ql:OpR X (compareOp .Lt) (rI0 λi j=>.bl (decide (i<j))):=MC λ_ _ _ _ _ _ _ q=>lt_int q
theorem LO:OpR X (compareOp .LtE) (rI0 λi j=>.bl (decide (i<=j))):=MC λ_ _ _ _ _ _ _ q=>le_int q
theorem GR:OpR X (compareOp .Gt) (rI0 λi j=>.bl (decide (j<i))):=MC λ_ _ _ _ _ _ _ q=>gt_int q
theorem HF:OpR X (compareOp .GtE) (rI0 λi j=>.bl (decide (j<=i))):=MC λ_ _ _ _ _ _ _ q=>ge_int q
theorem LP:OpR X (compareOp .Is) (λx y H Q=>y= .non/\Q (.bl (decide (x= .non))) H):=by
 intro pins s σ H x y v u Q I rx ry h
 obtain⟨rfl,q⟩:=h
 cases ry
 refine is_none_gen (Yh I q ?_)
 cases x<;> first
  | (cases rx;rfl)
  | (obtain⟨t,rfl⟩:=rx;rfl)
theorem OpR.or {f:Value->Value->Sem Value}{r r':R2}(h:OpR X f r)(h':OpR X f r'):OpR X f (λx y H Q=>r x y H Q∨r' x y H Q):=by
 intro pins s σ H x y v u Q I rx ry q
 rcases q with q |q
 ·exact h pins s σ H x y v u Q I rx ry q
 ·exact h' pins s σ H x y v u Q I rx ry q
theorem XD (b:Expr){op:CmpOp}(h:op≠ .In:=by decide)(h2:op≠ .NotIn:=by decide):behindInMarks op b=false:=by
 have e1:(op==CmpOp.In)=false:=by cases op<;> first |rfl |exact absurd rfl h
 have e2:(op==CmpOp.NotIn)=false:=by cases op<;> first |rfl |exact absurd rfl h2
 cases b<;> simp[behindInMarks,e1,e2]
theorem Kk {op:CmpOp}{r:R2}(ho:OpR X (compareOp op) r)(ha:PE X a ta)(hb:PE X b tb)(hm:behindInMarks op b=false):PE X (.Compare a [op] [b] pos) (tOp r ta tb):=by
 intro pins s σ H Q I h
 exact wpAny_Compare1 (MI ha hb I h λv u s2 x y H2 I2 rx ry q=>ho pins s2 σ H2 x y v u Q I2 rx ry q) hm
noncomputable def LF (t:TE):TT:=λσ H Q=>t σ H λx H'=>∃ k,x= .bl k/\Q k H'
theorem Xu {op:CmpOp}{r:R2}(ho:OpR X (compareOp op) r)(ha:PE X a ta)(hb:PE X b tb)(hm:behindInMarks op b=false):PT X (.Compare a [op] [b] pos) (LF (tOp r ta tb)):=by
 intro pins s σ H Q I h
 refine wpAny_isTrue_Compare1 (thn (ha pins s σ H _ I h) λv s1 ⟨x,H1,I1,r1,q1⟩=>thn (hb pins s1 σ H1 _ I1 q1) λu s2 ⟨y,H2,I2,r2,q2⟩=>
  thn (ho pins s2 σ H2 x y v u _ I2 r1 r2 q2) λc s3 ⟨z,H3,I3,r3,k,e,q3⟩=>?_) hm
 subst e
 cases r3
 exact wpAny_truthy_bool ⟨H3,I3,q3⟩
noncomputable def Hw (r r':R2)(ta tb tc:TE):TE:=λσ H Q=>ta σ H λx H1=>tb σ H1 λy H2=>r x y H2 λz H3=>∃ k,z= .bl k/\
 (if k=true then tc σ H3 λw' H4=>r' y w' H4 Q else Q (.bl false) H3)
theorem Ey {op op':CmpOp}{r r':R2}(ho:OpR X (compareOp op) r)(ho':OpR X (compareOp op') r')(ha:PE X a ta)(hb:PE X b tb)(hc:PE X c tc)
  (hm:lastMarks [op,op'] [b,c]=false:=by with_unfolding_all rfl):PE X (.Compare a [op,op'] [b,c] pos) (Hw r r' ta tb tc):=by
 intro pins s σ H Q I h
 refine Compare_chain (thn (ha pins s σ H _ I h) λv s1 ⟨x,H1,I1,r1,q1⟩=>chain_link (thn (hb pins s1 σ H1 _ I1 q1) λu s2 ⟨y,H2,I2,r2,q2⟩=>
  thn (ho pins s2 σ H2 x y v u _ I2 r1 r2 q2) λd s3 ⟨z,H3,I3,r3,k,e,q3⟩=>?_)) hm
 subst e
 cases r3
 refine wpAny_truthy_bool ?_
 cases k with
 |false=>exact ite_ff ⟨.bl false,H3,I3,rfl,q3⟩
 |true=>exact ite_tt (chain_last (thn (hc pins s3 σ H3 _ I3 q3) λw' s4 r9=>by obtain⟨z',H4,I4,r4,q4⟩:=r9;exact ho' pins s4 σ H4 y z' u w' Q I4 r2 r4 q4))
theorem F6:(sizeLine:Nat)<2^63:=by rw[sizeLine_eq];decide
theorem G6 {x:V}{us:List Value}(r:Yv [x] us):∃u,us=[u]/\Yy x u:=by
 cases r with
 |cons r1 r2=>cases r2;exact⟨_,rfl,r1⟩
theorem L4 {x y:V}{us:List Value}(r:Yv [x,y] us):∃u w',us=[u,w']/\Yy x u/\Yy y w':=by
 cases r with
 |cons r1 r2=>
  cases r2 with
  |cons r3 r4=>cases r4;exact⟨_,_,rfl,r1,r3⟩
theorem F4:Qx X (.builtin "abs") (λxs H Q=>∃ i,xs=[.int i]/\Q (.int (if i<0 then-i else i)) H):=by
 intro pins s σ H xs us Q I r h
 obtain⟨i,rfl,q⟩:=h
 obtain⟨u,rfl,t,rfl⟩:=G6 r
 exact call_abs_int λu tk=>⟨.int (if i<0 then-i else i),H,I.tok _,⟨_,rfl⟩,q⟩
theorem VT (hc:X.calm=true):Qx X (.builtin "max") (λxs H Q=>∃ i j,xs=[.int i, .int j]/\Q (.int (if j > i then j else i)) H):=by
 intro pins s σ H xs us Q I r h
 obtain⟨i,j,rfl,q⟩:=h
 obtain⟨u,w',rfl,⟨t,rfl⟩,⟨t',rfl⟩⟩:=L4 r
 refine max_two_ints (I.ok.hd hc) λh' tk k=>⟨_,H,I.kept k,?_,q⟩
 by_cases hj:j > i
 ·rw[if_pos hj,if_pos hj];exact⟨_,rfl⟩
 ·rw[if_neg hj,if_neg hj];exact⟨_,rfl⟩
theorem KY (hc:X.calm=true):Qx X (.builtin "min") (λxs H Q=>∃ i j,xs=[.int i, .int j]/\Q (.int (if j<i then j else i)) H):=by
 intro pins s σ H xs us Q I r h
 obtain⟨i,j,rfl,q⟩:=h
 obtain⟨u,w',rfl,⟨t,rfl⟩,⟨t',rfl⟩⟩:=L4 r
 refine min_two_ints (I.ok.hd hc) λh' tk k=>⟨_,H,I.kept k,?_,q⟩
 by_cases hj:j<i
 ·rw[if_pos hj,if_pos hj];exact⟨_,rfl⟩
 ·rw[if_neg hj,if_neg hj];exact⟨_,rfl⟩
end
structure ObjM (h:Heap)(x dx C:Addr)(mA:Str->Option Value):Prop where
 obj:h.get? x=some (PySem.W.instObj C dx)
 ns:h.Ns1 dx mA
 ne:dx≠x
theorem BS {h:Heap}{dx:Addr}{mA:Str->Option Value}(n:h.Ns1 dx mA):∃od,h.get? dx=some od/\∀name,PySem.W.lookIn name od=some (mA name):=by
 obtain⟨o,es,ep,ho,hd,hk,_,hm⟩:=n
 refine⟨o,ho,λname=>?_⟩
 have e:=hm name
 unfold nsFind findBy at e
 rw[←Array.find?_toList] at e
 unfold PySem.W.lookIn
 rw[hd]
 dsimp only
 split
 ·rename_i y q
  rw[q] at e
  exact congrArg some e
 ·rename_i q
  rw[q] at e
  have a:es.toList.any (·.refKey)=false:=by
   rw[List.any_eq_false]
   intro y hy
   obtain⟨z,t,hkey⟩:=hk y (Array.mem_toList_iff.mp hy)
   simp[DictEntry.refKey,hkey]
  have a':¬es.toList.any (·.refKey)=true:=by rw[a];exact Bool.false_ne_true
  rw[if_neg a']
  exact congrArg some e
theorem ObjM.look {h:Heap}{x dx C:Addr}{mA:Str->Option Value}(I:ObjM h x dx C mA):∃od,PySem.W.InstAt h x (PySem.W.instObj C dx) C (some od)/\∀name,PySem.W.lookIn name od=some (mA name):=
 let ⟨od,ho,hl⟩:=BS I.ns
 ⟨od,⟨I.obj,rfl,rfl,ho⟩,hl⟩
section
variable {prog:Program}{w:World}{A:Around}{E:Value->Shared->Prop}{s:Shared}{K:PySem.W.Frag}{x dx C f:Addr}{mA:Str->Option Value}{name:Str}{v:Value}
end
theorem Df.some_of {v:V}{o:Option Value}(r:Df (some v) o):∃u,o=some u/\Yy v u:=by
 cases o with
 |none=>exact(show False from r).elim
 |some u=>exact⟨u,rfl,r⟩
section
variable {P:Program}{w:World}{H H':Hp}{h h':Heap}{a C dx:Addr}{fs fs':List (Str×V)}
theorem IM (hok:HOk P w H h)(e:H a=some (.ins C dx fs)):∃mA,ObjM h a dx C mA/\(∀f,Df (fs.lookup f) (mA f))/\PySem.Within mA (fs.map (·.1))/\fs.length<=1000/\H dx=some (.own a):=by
 obtain⟨d,z,ne,ob,mA,n,r,q⟩:=(show Zg P w H h a (.ins C dx fs) from hok a _ e)
 exact⟨mA,⟨ob,n,ne⟩,r,q,z,d⟩
end
structure Cls (K:PySem.W.Frag)(C:Addr):Prop where
 pg:PySem.W.plainGet K C Str.empty=true
 hd:PySem.W.hasDictIn K C=true
 po:PySem.W.plainOver K C=true
 sa:PySem.W.findIn K (.ref C) "__setattr__" =some (some (.builtin "object.__setattr__"))
theorem Cls.get {K:PySem.W.Frag}{C:Addr}(c:Cls K C)(f:Str):PySem.W.plainGet K C f=true:=c.pg
section
variable {X:Cx}{pins:List (Addr×Obj)}{σ:St}{H:Hp}{s:Shared}{a C dx:Addr}{fs:List (Str×V)}{f:Str}{v:V}{A:Around}{E:Value->Shared->Prop}
theorem Inv.made (I:Inv X pins σ H s):Inv X pins σ (upd (upd H s.heap.objs.size (.own (s.heap.objs.size+1))) (s.heap.objs.size+1) (.ins C s.heap.objs.size []))
  {s with heap:=(s.heap.push PySem.W.emptyDict).push (PySem.W.instObj C s.heap.objs.size)}:=by
 have e1:(s.heap.push PySem.W.emptyDict).get? s.heap.objs.size=some PySem.W.emptyDict:=Heap.get?_push_size s.heap rfl
 have e2:((s.heap.push PySem.W.emptyDict).push (PySem.W.instObj C s.heap.objs.size)).get? (s.heap.objs.size+1)=some (PySem.W.instObj C s.heap.objs.size):=by
  have:=Heap.get?_push_size (s.heap.push PySem.W.emptyDict) (o:=PySem.W.instObj C s.heap.objs.size) rfl
  rwa [Heap.size_push] at this
 have e3:(s.heap.push PySem.W.emptyDict).Ns s.heap.objs.size (λ_=>none):=⟨PySem.W.emptyDict, #[],_,e1,rfl,(λe he=>absurd he (by simp)),λ_=>rfl⟩
 have I1:=I.laid (a:=s.heap.objs.size) (o:=.own (s.heap.objs.size+1)) (h':=s.heap.push PySem.W.emptyDict) (t':=s.toks) (λb u q=>Heap.get?_push_of_some _ q) (Nat.le_refl _) ⟨_,e1⟩
 refine I1.laid (a:=s.heap.objs.size+1) (o:=.ins C s.heap.objs.size []) (t':=s.toks) (λb u q=>Heap.get?_push_of_some _ q) (Nat.le_of_eq (Heap.size_push _ _)) ?_
 have ne:s.heap.objs.size≠s.heap.objs.size+1:=Nat.ne_of_lt (Nat.lt_succ_self _)
 refine⟨by rw[X3 ne,YV],Nat.zero_le _,ne,e2,λ_=>none,(Heap.Ns1.of_empty e3).at λo q=>Heap.get?_push_of_some _ q,λ_=>True.intro,λy hy=>absurd rfl hy⟩
end
section
variable {X:Cx}{o e value:Expr}{f:Str}{pos pos' tpos:Pos}{ta tv:TE}
end
section
variable {X:Cx}{pins:List (Addr×Obj)}{σ:St}{H:Hp}{s:Shared}{A:Around}{E:Value->Shared->Prop}{Q:Value->Shared->Prop}{c:Value}{b:Bool}
inductive TyOf (K:PySem.W.Frag)(H:Hp):V->Value->Prop where
 |non:TyOf K H .non (.type "NoneType")
 |bl (x:Bool):TyOf K H (.bl x) (.type "bool")
 |int (i:Int):TyOf K H (.int i) (.type "int")
 |str (x:Str):TyOf K H (.str x) (.type "str")
 |flt (x:UInt64):TyOf K H (.flt x) (.type "float")
 |lst {a:Addr}{xs:List V} (e:H a=some (.lst xs)):TyOf K H (.ref a) (.type "list")
 |frz {a:Addr}{o:Obj}{xs:List V} (e:H a=some (.frz o (.lst xs))):TyOf K H (.ref a) (.type "list")
 |tup {a:Addr}{xs:List V} (e:H a=some (.tup xs)):TyOf K H (.ref a) (.type "tuple")
 |dK {a:Addr}{kvs:List (Key×V)} (e:H a=some (.dK kvs)):TyOf K H (.ref a) (.type "dict")
 |dT {a:Addr}{kvs:List (List Key×V)} (e:H a=some (.dT kvs)):TyOf K H (.ref a) (.type "dict")
 |ins {a C dx:Addr}{fs:List (Str×V)} (e:H a=some (.ins C dx fs)) (cl:Cls K C) (ha:PySem.W.findIn K (.ref C) "__class__" =some (some (.builtin "object.__class__")))
   (hn:PySem.W.specialIn K (.builtin "object.__class__") "__get__" =some (some (.builtin "getset_descriptor.__get__"))) (htk:PySem.W.takesIn K (.builtin "object.__class__")=some true)
   (hm:PySem.W.mroIn K C (.type "object")=some true):TyOf K H (.ref a) (.ref C)
theorem B4 {x:V}{u t:Value}(I:Inv X pins σ H s)(rx:Yy x u)(ty:TyOf X.K H x t)(e:PySem.W.kitOne X.K t c=some b)(h:∀tk,Q (.bool b) {s with toks:=tk}):
  wpAny (model X.prog X.w) A (call (.builtin "isinstance") [u,c]) Q E s:=by
 cases ty with
 |non=>cases(show u=Value.none from rx);exact PySem.W.kia_one PySem.W.kitx_none I.kIn True.intro e (λz=>nomatch z) h
 |bl y=>cases(show u=Value.bool y from rx);exact PySem.W.kia_one PySem.W.kitx_bool I.kIn True.intro e (λz=>nomatch z) h
 |int i=>obtain⟨t,q⟩:=(show ∃t,u=Value.int i t from rx);cases q;exact PySem.W.kia_one PySem.W.kitx_int I.kIn True.intro e (λz=>nomatch z) h
 |str y=>obtain⟨t,q⟩:=(show ∃t,u=Value.str y t from rx);cases q;exact PySem.W.kia_one PySem.W.kitx_str I.kIn True.intro e (λz=>nomatch z) h
 |flt y=>obtain⟨t,q⟩:=(show ∃t,u=Value.float y t from rx);cases q;exact PySem.W.kia_one PySem.W.kitx_float I.kIn True.intro e (λz=>nomatch z) h
 | @lst a xs ea=>
  cases(show u=Value.ref a from rx)
  obtain⟨_,_,n,_,h1⟩:=(show Zg X.prog X.w H s.heap a (.lst xs) from I.hok a _ ea)
  exact PySem.W.kia_one PySem.W.kitx_list I.kIn ⟨_,h1,rfl⟩ e (λz=>nomatch z) h
 | @frz a ob xs ea=>
  cases(show u=Value.ref a from rx)
  obtain⟨_,_,_,n,_,h1⟩:=(show Zg X.prog X.w H s.heap a (.frz ob (.lst xs)) from I.hok a _ ea)
  exact PySem.W.kia_one PySem.W.kitx_list I.kIn ⟨_,h1,rfl⟩ e (λz=>nomatch z) h
 | @tup a xs ea=>
  cases(show u=Value.ref a from rx)
  obtain⟨_,_,_,p⟩:=(show Zg X.prog X.w H s.heap a (.tup xs) from I.hok a _ ea)
  obtain⟨o,h1,h2,_⟩:=p
  exact PySem.W.kia_one PySem.W.kitx_tuple I.kIn ⟨o,h1,h2.1⟩ e (λz=>nomatch z) h
 | @dK a kvs ea=>
  cases(show u=Value.ref a from rx)
  obtain⟨_,_,vs,_,p⟩:=(show Zg X.prog X.w H s.heap a (.dK kvs) from I.hok a _ ea)
  obtain⟨o,es,ep,h1,h2,_⟩:=p
  exact PySem.W.kia_one PySem.W.kitx_dict I.kIn ⟨o,h1,h2.1⟩ e (λz=>nomatch z) h
 | @dT a kvs ea=>
  cases(show u=Value.ref a from rx)
  obtain⟨_,_,xs,_,o,es,ep,h1,h2,_⟩:=(show Zg X.prog X.w H s.heap a (.dT kvs) from I.hok a _ ea)
  exact PySem.W.kia_one PySem.W.kitx_dict I.kIn ⟨o,h1,h2.1⟩ e (λz=>nomatch z) h
 | @ins a C dx fs ea cl ha hn htk hm=>
  cases(show u=Value.ref a from rx)
  obtain⟨mA,O,_⟩:=IM I.hok ea
  obtain⟨od,J,_⟩:=O.look
  exact PySem.W.kia_one (PySem.W.kitx_own (cl.get _) cl.hd ha hn htk hm) I.kIn J e (λz=>nomatch z) h
end
structure Room (k:Nat)(A:Around):Prop where
 hd:A.handled=none
 dp:A.depth+3*k+5<recursionLimit
 un:A.units+16*k+200<cLine
theorem Room.mono {j k:Nat}{A:Around}(r:Room k A)(h:j<=k):Room j A:=⟨r.hd,by have:=r.dp;omega,by have:=r.un;omega⟩
theorem Room.deeper {k:Nat}{A:Around}(r:Room (k+1) A)(env:Env):Room k (A.deeper env):=
 ⟨r.hd,by have:=r.dp;show A.depth+1+3*k+5<_;omega,by have:=r.un;show A.units+3+16*k+200<_;omega⟩
theorem Room.in1 {k:Nat}{A:Around}(r:Room (k+1) A):Room k A.in1:=
 ⟨r.hd,by have:=r.dp;show A.depth+3*k+5<_;omega,by have:=r.un;show A.units+1+16*k+200<_;omega⟩
theorem Room.depth {k:Nat}{A:Around}(r:Room k A):A.depth<recursionLimit:=by have:=r.dp;omega
theorem Room.units {k:Nat}{A:Around}(r:Room k A):A.units+64<cLine:=by have:=r.un;omega
noncomputable def Qa:TA:=λ_ H Q=>Q [] H
noncomputable def XM (ta:TE)(tr:TA):TA:=λσ H Q=>ta σ H λx H1=>tr σ H1 λxs H2=>Q (x::xs) H2
section
variable {X:Cx}{e:Expr}{es:List Expr}{te:TE}{t:TA}{pos:Pos}
theorem Xf:PA X [] Qa:=λ_ _ _ _ H Q I h=>Calls.spliced_nil ⟨[],H,I, .nil,h⟩
theorem Xd (ha:PE X e te)(hr:PA X es t)(hs:starEach (e::es) X.env=(false,eval e X.env)::starEach es X.env:=by rfl):PA X (e::es) (XM te t):=by
 intro pos pins s σ H Q I h
 rw[hs]
 show wpAny _ _ (spliced ((false,eval e X.env)::backTo pos (starEach es X.env))) _ _ s
 refine Calls.spliced_cons (thn (ha pins s σ H _ I h) λu s1 r9=>?_)
 obtain⟨x,H1,I1,r1,q1⟩:=r9
 exact thn (hr pos pins s1 σ H1 _ I1 q1) λus s2 r9=>by obtain⟨xs,H2,I2,r2,q2⟩:=r9;exact⟨x::xs,H2,I2, .cons r1 r2,q2⟩
noncomputable def Lr (t:TA):TE:=λσ H Q=>t σ H λxs H1=>xs.length<=sizeLine/\∀p,H1 p=none->Q (.ref p) (upd H1 p (.tup xs))
noncomputable def EX (t:TA):TE:=λσ H Q=>t σ H λxs H1=>xs.length<=sizeLine/\∀p,H1 p=none->Q (.ref p) (upd H1 p (.lst xs))
theorem ZD {x1}(h:PA X es t):PE X (.Tuple es x1 pos) (Lr t):=by
 intro pins s σ H Q I hq
 refine wpAny_Tuple_spliced (thn (h pos pins s σ H _ I hq) λus s1 ⟨xs,H1,I1,r,z,q⟩=>⟨by rw[←r.length];exact z,?_⟩)
 have hf:H1 s1.heap.objs.size=none:=I1.hok.fresh (Nat.le_refl _)
 refine⟨.ref s1.heap.objs.size,upd H1 s1.heap.objs.size (.tup xs),I1.laid (t':=s1.toks) (λb u e=>Heap.get?_push_of_some _ e) (Nat.le_refl _) ?_,rfl,q _ hf⟩
 exact⟨z,us,r,⟨_,Heap.get?_push_size _ rfl,⟨rfl,rfl⟩,_,rfl⟩⟩
theorem XZ (h:PA X es t):PE X (.List es pos) (EX t):=by
 intro pins s σ H Q I hq
 refine wpAny_List_spliced (thn (h pos pins s σ H _ I hq) λus s1 ⟨xs,H1,I1,r,z,q⟩=>⟨by rw[←r.length];exact z,?_⟩)
 have hf:H1 s1.heap.objs.size=none:=I1.hok.fresh (Nat.le_refl _)
 refine⟨.ref s1.heap.objs.size,upd H1 s1.heap.objs.size (.lst xs),I1.laid (t':=s1.toks) (λb u e=>Heap.get?_push_of_some _ e) (Nat.le_refl _) ?_,rfl,q _ hf⟩
 exact⟨z,us,0,r,Heap.get?_push_size _ rfl⟩
end
noncomputable abbrev Sp:=List V->Hp->VK->XK->Prop
noncomputable abbrev CXT:=List Env->Hp->Shared->XK->Value->Shared->Prop
structure Env0 (P:Program)(w:World)(K:PySem.W.Frag)(mg:Str->Option Value)(base:Heap)(A:Around)(outer:List Env)(s:Shared)(H:Hp):Prop where
 frames:A.frames=some outer
 mod:Mod K mg base
 bs:∀b o,base.get? b=some o->s.heap.get? b=some o/\H b=none
 bsz:base.objs.size<=s.heap.objs.size
 funs:s.heap.FunFrames base outer
 frf:∀b∈frs outer,H b=none
 hok:HOk P w H s.heap
 bare:AllBare s.gens
noncomputable def CE (outer:List Env)(P:Program)(w:World)(H:Hp)(s:Shared)(Q:VK)(u:Value)(s':Shared):Prop:=
 ∃v H',s'.os=s.os/\AllBare s'.gens/\Un (frs outer) [] H H' s.heap s'.heap/\HOk P w H' s'.heap/\Yy v u/\Q v H'
noncomputable def CR (CX:CXT)(outer:List Env)(P:Program)(w:World)(H:Hp)(s:Shared)(Q:VK)(E:XK)(r:Result)(s':Shared):Prop:=
 match r with
 | .ok (.ret u)=>CE outer P w H s Q u s'
 | .ok _=>False
 | .error e=>CX outer H s E e s'
structure FnOk (P:Program)(w:World)(K:PySem.W.Frag)(mg:Str->Option Value)(base:Heap)(CX:CXT)(k:Nat)(f:Addr)(fd:FuncData)(ps:List Str)(sp:Sp):Prop where
 len:∀vs H Q E,sp vs H Q E->vs.length=ps.length
 run:∀(A:Around) (outer:List Env) (s:Shared) (H:Hp) (args:Args) (us:List Value) (vs:List V) (Q:VK) (E:XK),Room k A->Env0 P w K mg base A outer s H->BindsTo s fd args (ps.zip us)->Yv vs us->sp vs H Q E->
  codeAny (model P w) A (.call (.ref f) args) (CR CX outer P w H s Q E) s
theorem FnOk.mono {P:Program}{w:World}{K:PySem.W.Frag}{mg:Str->Option Value}{base:Heap}{CX:CXT}{j k:Nat}{f:Addr}{fd:FuncData}{ps:List Str}{sp:Sp}(F:FnOk P w K mg base CX j f fd ps sp)(h:j<=k):
  FnOk P w K mg base CX k f fd ps sp:=⟨F.len,λA outer s H args us vs Q E hr=>F.run A outer s H args us vs Q E (hr.mono h)⟩
theorem FnOk.imp {P:Program}{w:World}{K:PySem.W.Frag}{mg:Str->Option Value}{base:Heap}{CX:CXT}{k:Nat}{f:Addr}{fd:FuncData}{ps:List Str}{sp sp':Sp}(F:FnOk P w K mg base CX k f fd ps sp)
  (h:∀vs H Q E,sp' vs H Q E->sp vs H Q E):FnOk P w K mg base CX k f fd ps sp':=
 ⟨λvs H Q E q=>F.len vs H Q E (h _ _ _ _ q),λA outer s H args us vs Q E hr he hb hv hs=>F.run A outer s H args us vs Q E hr he hb hv (h _ _ _ _ hs)⟩
theorem Env0.in1 {P:Program}{w:World}{K:PySem.W.Frag}{mg:Str->Option Value}{base:Heap}{A:Around}{outer:List Env}{s:Shared}{H:Hp}(e:Env0 P w K mg base A outer s H):
  Env0 P w K mg base A.in1 outer s H:=⟨e.frames,e.mod,e.bs,e.bsz,e.funs,e.frf,e.hok,e.bare⟩
section
variable {X:Cx}{pins:List (Addr×Obj)}{σ:St}{H:Hp}{s s':Shared}
theorem Inv.env0 (I:Inv X pins σ H s):Env0 X.prog X.w X.K X.mg X.base X.A X.stack s H:=
 ⟨I.ok.frames,I.ok.mod,I.bs,Nat.le_trans I.ok.bsz I.sz,I.stack,I.stkFree,I.hok,I.bare⟩
theorem Inv.after {Q:VK}{u:Value}(I:Inv X pins σ H s)(h:CE X.stack X.prog X.w H s Q u s'):EP X pins σ Q u s':=by
 obtain⟨v,H',os,bare,un,hok,r,q⟩:=h
 obtain⟨hh,g,d,t,os'⟩:=s'
 obtain rfl:os'=s.os:=os
 exact⟨v,H',I.call (h':=hh) (g':=g) (d':=d) (t':=t) (ch:=[]) un hok bare (λb z=>absurd z (by simp)),r,q⟩
end
noncomputable def KC (sp:Sp)(dvs:List V)(E:XK)(t:TA):TE:=λσ H Q=>t σ H λvs H1=>sp (vs++dvs) H1 Q E
noncomputable def Gy (K:PySem.W.Frag)(fd:FuncData)(ps:List Str)(ds:List Value):Prop:=
 ∀(s:Shared) (us:List Value),K.In s.heap->(us++ds).length=ps.length->BindsTo s fd ⟨us,[]⟩ (ps.zip (us++ds))
theorem Gy.all {K:PySem.W.Frag}{fd:FuncData}{ps:List Str}(h:∀us:List Value,us.length=ps.length->bindArgs fd ⟨us,[]⟩=pure (ps.zip us)):Gy K fd ps []:=λs us _ hl=>by
 rw[List.append_nil] at hl⊢
 exact .of_eq (h us hl)
noncomputable def CF (CX:CXT)(X:Cx)(E:XK):Prop:=∀ (pins:List (Addr×Obj)) (σ:St) (H:Hp) (s:Shared) (e:Value) (s':Shared),Inv X pins σ H s->CX X.stack H s E e s'->X.xe e s'
section
variable {X:Cx}{CX:CXT}{k:Nat}{f C:Addr}{fd:FuncData}{ps:List Str}{sp:Sp}{dvs:List V}{ds:List Value}{E:XK}{x m:Str}{p pos apos:Pos}{e o:Expr}{es:List Expr}{ta:TE}{t:TA}
theorem LS {pins:List (Addr×Obj)}{σ:St}{H:Hp}{s:Shared}{Q:VK}{us:List Value}{vs:List V}(F:FnOk X.prog X.w X.K X.mg X.base CX k f fd ps sp)(hr:Room k X.A)(hb:Gy X.K fd ps ds)(hd:Yv dvs ds)(hx:CF CX X E)
  (I:Inv X pins σ H s)(r:Yv vs us)(h:sp (vs++dvs) H Q E):wpAny (model X.prog X.w) X.A (call (.ref f) us) (EP X pins σ Q) X.xe s:=by
 have r2:Yv (vs++dvs) (us++ds):=r.append hd
 have hl:(us++ds).length=ps.length:=by rw[←r2.length];exact F.len _ _ _ _ h
 refine wpAny_call (codeAny_mono (F.run X.A X.stack s H ⟨us,[]⟩ (us++ds) (vs++dvs) Q E hr I.env0 (hb s us I.kIn hl) r2 h) λr s' hq=>?_)
 cases r with
 |error e=>exact hx pins σ H s e s' I hq
 |ok fl=>
  cases fl with
  |ret u=>exact I.after hq
  |next=>exact False.elim hq
  |brk=>exact False.elim hq
  |cont=>exact False.elim hq
theorem HU (F:FnOk X.prog X.w X.K X.mg X.base CX k f fd ps sp)(hr:Room k X.A)(hg:Gl X x)(hm:X.mg x=some (.ref f))(hk:PySem.W.keepIn X.K (.ref f)=true)(hb:Gy X.K fd ps ds)(hd:Yv dvs ds)(hx:CF CX X E)
  (ha:PA X (e::es) t)(hdb:(x==("__debug__":Str))=false:=by decide)(he:starEach (e::es) X.env=(false,eval e X.env)::starEach es X.env:=by rfl)(hpl:(backTo pos (starEach es X.env)).any (·.1)=false:=by rfl):
  PE X (.Call (.Name x p) (e::es) [] pos) (KC sp dvs E t):=by
 intro pins s σ H Q I h
 refine wpAny_Call_Name_kw (Bh I hg hm ?_ hdb)
 refine PySem.W.callWith_K (h₀:=X.base) I.ok.mod.kin hk (thn (ha pos pins s σ H _ I h) λus s1 ⟨vs,H1,I1,r,q⟩=>⟨I1.kIn,?_⟩) he hpl
 exact LS F hr hb hd hx I1 r q
end
section
variable {X:Cx}{CX:CXT}{k:Nat}{f C:Addr}{fd:FuncData}{ps ks:List Str}{sp:Sp}{E:XK}{x m:Str}{p pos apos kpos:Pos}{e o:Expr}{es:List Expr}{kws:List Keyword}{te ta:TE}{t tk:TA}{nm:Option Str}
variable {g:List Value->List Value->List Value}{gV:List V->List V->List V}
end
structure FnScope (N P:List Str)(sc:Scope):Prop where
 kind:sc.kind= .function
 co:sc.isCoroutine=false
 gen:sc.isGenerator=false
 nd:N.Nodup
 pre:N.take P.length=P
 par:∀x∈P,sc.names.lookup x=some .local∨sc.names.lookup x=some .cell
 nofree:∀y∈sc.names,y.2≠ .free
theorem KP {kindOf:Str->Option NameKind}{x:Str}:∀{binds:List (Str×Value)}{m:Str->Option Value},(∀v,(x,v)∉binds)->bindL kindOf binds m x=m x
 | [],_,_=>rfl
 | (n,v)::r,m,h=>by
  unfold bindL
  rw[KP λw hw=>h w (List.mem_cons_of_mem _ hw)]
  split
  ·have:x≠n:=by rintro rfl;exact h v List.mem_cons_self
   simp[this]
  ·rfl
theorem Gh {kindOf:Str->Option NameKind}{x:Str}:∀{binds:List (Str×Value)}{m:Str->Option Value},(∀v,(x,v)∉binds)->bindC kindOf binds m x=m x
 | [],_,_=>rfl
 | (n,v)::r,m,h=>by
  unfold bindC
  rw[Gh λw hw=>h w (List.mem_cons_of_mem _ hw)]
  split
  ·rfl
  ·have:x≠n:=by rintro rfl;exact h v List.mem_cons_self
   simp[this]
theorem Ky {kindOf:Str->Option NameKind}{x:Str}{v:Value}:∀{P:List Str}{vs:List Value}{i:Nat}{m:Str->Option Value},P.Nodup->P[i]?=some x->vs[i]?=some v->kindOf x=some .local->
  bindL kindOf (P.zip vs) m x=some v
 | [],_,_,_,_,h,_,_=>by simp at h
 |_::_,[],_,_,_,_,h,_=>by simp at h
 |p::P,w::vs,0,m,nd,h1,h2,hk=>by
  simp at h1 h2;subst h1;subst h2
  show bindL kindOf ((p,w)::P.zip vs) m p=_
  unfold bindL
  rw[KP λv hv=>(List.nodup_cons.mp nd).1 (List.of_mem_zip hv).1,if_pos hk]
  simp
 |p::P,w::vs,i+1,m,nd,h1,h2,hk=>by
  show bindL kindOf ((p,w)::P.zip vs) m x=_
  unfold bindL
  exact Ky (i:=i) (List.nodup_cons.mp nd).2 (by simpa using h1) (by simpa using h2) hk
theorem Kv {kindOf:Str->Option NameKind}{x:Str}{v:Value}:∀{P:List Str}{vs:List Value}{i:Nat}{m:Str->Option Value},P.Nodup->P[i]?=some x->vs[i]?=some v->kindOf x≠some .local->
  bindC kindOf (P.zip vs) m x=some v
 | [],_,_,_,_,h,_,_=>by simp at h
 |_::_,[],_,_,_,_,h,_=>by simp at h
 |p::P,w::vs,0,m,nd,h1,h2,hk=>by
  simp at h1 h2;subst h1;subst h2
  show bindC kindOf ((p,w)::P.zip vs) m p=_
  unfold bindC
  rw[Gh λv hv=>(List.nodup_cons.mp nd).1 (List.of_mem_zip hv).1,if_neg hk]
  simp
 |p::P,w::vs,i+1,m,nd,h1,h2,hk=>by
  show bindC kindOf ((p,w)::P.zip vs) m x=_
  unfold bindC
  exact Kv (i:=i) (List.nodup_cons.mp nd).2 (by simpa using h1) (by simpa using h2) hk
noncomputable def Kq (N:List Str)(vs:List V):St:=vs.map some++List.replicate (N.length-vs.length) none
noncomputable def Ib (CX:CXT)(P:Program)(w:World)(K:PySem.W.Frag)(mg:Str->Option Value)(base:Heap)(N:List Str)(qual:Str)(scope:Scope)(f:Addr)(cd:Value)(A:Around)(outer:List Env)(s:Shared)(H:Hp)(E:XK):Cx where
 prog:=P
 w:=w
 K:=K
 mg:=mg
 base:=base
 A:=A.deeper (envOfC qual scope s.heap.objs.size f cd)
 N:=N
 s₀:=s
 H₀:=H
 env:=envOfC qual scope s.heap.objs.size f cd
 outer:=outer
 stack:=envOfC qual scope s.heap.objs.size f cd::outer
 ex:=[]
 calm:=true
 fn:=λ_=>true
 pn:=[]
 xe:=λe s'=>wpAny (model P w) (A.deeper (envOfC qual scope s.heap.objs.size f cd)) (leaving (envOfC qual scope s.heap.objs.size f cd) e) (λ_ s''=>CX outer H s E e s'') (λe' s''=>CX outer H s E e' s'') s'
theorem FW {sc:Scope}{n:Nat}{x:Str}(h:sc.names.lookup x=some .cell):∃c,(cellsFrom n sc.names []).lookup x=some c:=by
 have q:=PySem.W.cellsFrom_some sc.names n [] (.inl h)
 exact Option.isSome_iff_exists.mp q
theorem Bg {CX:CXT}{P:Program}{w:World}{K:PySem.W.Frag}{mg:Str->Option Value}{base:Heap}{N ps:List Str}{qual:Str}{scope:Scope}{f:Addr}{cd:Value}{A:Around}{outer:List Env}{s s1:Shared}{H:Hp}{E:XK}{us:List Value}{vs:List V}
  (S:FnScope N ps scope)(hd:A.handled=none)(e0:Env0 P w K mg base A outer s H)(hl:vs.length=ps.length)(r:Yv vs us)
  (x:InCallC s s.heap.objs.size (bindL (envOfC qual scope s.heap.objs.size f cd).kindOf (ps.zip us) λ_=>none) (cellsFrom (s.heap.objs.size+1) scope.names []) (bindC (envOfC qual scope s.heap.objs.size f cd).kindOf (ps.zip us) λ_=>none) s1):
  Inv (Ib CX P w K mg base N qual scope f cd A outer s H E) [] (Kq N vs) H s1:=by
 have hpl:ps.length<=N.length:=by have:=congrArg List.length S.pre;rw[List.length_take] at this;omega
 obtain⟨h1,tk,rfl,hk⟩:=x.done
 have noA:∀b:Addr,b∉(Ib CX P w K mg base N qual scope f cd A outer s H E).ex:=λb z=>absurd (show b∈([]:List Addr) from z) (by simp)
 refine⟨⟨e0.mod,S.kind,rfl,rfl,Nat.le_refl _,λy z c h1 h2=>?_,λy hy=>?_,λy c _ h=>?_,λ_=>hd,Around.frames_deeper e0.frames, .inr ⟨rfl,rfl⟩,λb z=>absurd z (noA b),e0.bs,e0.bsz,λb _ _=>noA b,λb z=>absurd z (noA b),e0.funs,e0.frf⟩,
  rfl,e0.bare,Un.kept hk,⟨_,x.toInCall.ns,λi y v h1 h2 h3=>?_⟩,λy c h=>⟨_,x.cell y c h⟩,e0.hok.fresh (Nat.le_refl _),λy c h=>?_,λp hp=>absurd (show p∈([]:List (Addr×Obj)) from hp) (by simp),e0.hok.kept hk,?_⟩
 ·exact name_of_addr x.apart (PySem.mem_of_lookup h1) (PySem.mem_of_lookup h2)
 ·have hy:scope.names.lookup y=some .cell∨scope.names.lookup y=some .free:=hy
  rcases hy with hy |hy
  ·exact FW hy
  ·exact absurd rfl (S.nofree _ (PySem.mem_of_lookup hy))
 ·exact Nat.le_of_lt (x.above y c (PySem.mem_of_lookup h))
 ·have hi:i<vs.length:=by
   unfold Kq at h2
   by_cases hi:i<vs.length
   ·exact hi
   ·rw[List.getElem?_append_right (by simpa using hi)] at h2
    rw[List.getElem?_replicate] at h2
    split at h2<;> cases h2
  have ha:vs[i]?=some v:=by
   unfold Kq at h2
   rw[List.getElem?_append_left (by simpa using hi),List.getElem?_map] at h2
   cases e:vs[i]? with
   |none=>rw[e] at h2;cases h2
   |some a=>rw[e] at h2;cases h2;rfl
  obtain⟨u,hu,rv⟩:=r.get ha
  have hp:ps[i]?=some y:=by
   rw[←S.pre,List.getElem?_take_of_lt (by omega)];exact h1
  have ndP:ps.Nodup:=by rw[←S.pre];exact S.nd.sublist (List.take_sublist _ _)
  refine⟨u,rv,?_⟩
  rcases S.par y (List.mem_of_getElem? hp) with k |k
  ·exact .inl ⟨k,Ky ndP hp hu k⟩
  ·obtain⟨c,e⟩:=FW (n:=s.heap.objs.size+1) k
   refine .inr ⟨.inl k,c,e,?_⟩
   have q:=x.cell y c e
   rw[Kv ndP hp hu (by show scope.names.lookup y≠_;rw[k];decide)] at q
   exact q
 ·exact e0.hok.fresh (Nat.le_of_lt (x.above y c (PySem.mem_of_lookup h)))
 ·unfold Kq
  show _=N.length
  rw[List.length_append,List.length_map,List.length_replicate]
  omega
theorem MN {CX:CXT}{P:Program}{w:World}{K:PySem.W.Frag}{mg:Str->Option Value}{base:Heap}{k:Nat}{f:Addr}{name qual:Str}{params:Arguments}{body:List Stmt}{scope:Scope}{dV kV doc pm cdv ct oc:Value}{an od:Option Addr}
  {osl:Array (Option Value)}{N ps:List Str}{sp:Sp}(lk:K.lookup f=some ⟨oc,od, .func (PySem.W.fnOf name qual params body scope dV kV doc pm an cdv ct),osl⟩)(hcd:PySem.W.codeIn K cdv qual=true)(S:FnScope N ps scope)
  (len:∀vs H Q E,sp vs H Q E->vs.length=ps.length)
  (hbody:∀(A:Around) (outer:List Env) (s:Shared) (H:Hp) (vs:List V) (Q:VK) (E:XK),Room k (A.deeper (envOfC qual scope s.heap.objs.size f cdv))->sp vs H Q E->
   ∃t,PSs (Ib CX P w K mg base N qual scope f cdv A outer s H E) body t/\t {nx:=λ_ H'=>Q .non H',rt:=Q} (Kq N vs) H):
  FnOk P w K mg base CX (k+1) f (PySem.W.fnOf name qual params body scope dV kV doc pm an cdv ct) ps sp:=by
 refine⟨len,λA outer s H args us vs Q E hr e0 hb r hsp=>?_⟩
 have hl:=len _ _ _ _ hsp
 have KX:K.In s.heap:=e0.mod.kin.keeps λb o e=>(e0.bs b o e).1
 have lim:s.heap.NoLimit:=e0.mod.nolimit.keeps λb o e=>(e0.bs b o e).1
 have hkind:∀y∈ps.zip us,scope.names.lookup y.1=some .local∨(scope.names.lookup y.1=some .cell/\((cellsFrom (s.heap.objs.size+1) scope.names []).lookup y.1).isSome=true):=λ⟨n,v⟩ hy=>by
  rcases S.par n (List.of_mem_zip hy).1 with q |q
  ·exact .inl q
  ·exact .inr ⟨q,PySem.W.cellsFrom_some _ _ _ (.inl q)⟩
 refine codeAny_call_function hr.depth (KX _ _ lk) rfl S.co S.gen rfl (PySem.W.codeRec_of KX hcd) (hb _ _ _ _ ?_)
 refine wpAny_newFunctionEnv_cells S.kind hkind λenv he s1 x=>?_
 subst he
 refine⟨lim.keeps x.toInCall.keep,codeAny_func ?_⟩
 obtain⟨t,ht,hq⟩:=hbody A outer s H vs Q E (hr.deeper _) hsp
 have I:Inv (Ib CX P w K mg base N qual scope f cdv A outer s H E) [] (Kq N vs) H s1:=Bg S hr.hd e0 hl r x
 refine wpAny_mono (ht [] s1 (Kq N vs) H _ I hq) (λfl s' hs=>?_) λe s' hs=>hs
 have fin:∀{σ':St}{H':Hp}{v:V}{u:Value},Inv (Ib CX P w K mg base N qual scope f cdv A outer s H E) [] σ' H' s'->Yy v u->Q v H'->CE outer P w H s Q u s':=
  fun {σ' H' v u} J rv q=>⟨v,H',J.os,J.bare,J.base,J.hok,rv,q⟩
 cases fl with
 |ret u=>
  obtain⟨v,σ',H',J,rv,q⟩:=hs
  exact fin J rv q
 |next=>
  obtain⟨σ',H',J,q⟩:=hs
  exact fin (v:=V.non) (u:=Value.none) J rfl q
 |brk=>
  obtain⟨_,_,_,q⟩:=hs
  exact False.elim q
 |cont=>
  obtain⟨_,_,_,q⟩:=hs
  exact False.elim q
section
variable {X:Cx}{x:Str}{p pos:Pos}{e:Expr}{es:List Expr}{t:TA}{id T:String}{r:List V->Hp->VK->Prop}
noncomputable def tCB (r:List V->Hp->VK->Prop)(t:TA):TE:=λσ H Q=>t σ H λvs H1=>r vs H1 Q
theorem Xn (hc:Qx X (.builtin id) r)(hg:Gl X x)(hm:X.mg x=none)(hv:bootBuiltins x=some (.builtin id))(ha:PA X (e::es) t)(hn:x≠ "__name__":=by decide)(hdb:(x==("__debug__":Str))=false:=by decide)
  (he:starEach (e::es) X.env=(false,eval e X.env)::starEach es X.env:=by rfl)(hpl:(backTo pos (starEach es X.env)).any (·.1)=false:=by rfl):PE X (.Call (.Name x p) (e::es) [] pos) (tCB r t):=by
 intro pins s σ H Q I h
 refine wpAny_Call_Name_kw (VV I hg hm hv ?_ hn hdb)
 exact PyProof.Rows.callWith_builtin1 (thn (ha pos pins s σ H _ I h) λus s1 r9=>by obtain⟨vs,H1,I1,r1,q1⟩:=r9;exact hc pins s1 σ H1 vs us Q I1 r1 q1) he hpl
theorem YO (hc:Qx X (.type T) r)(hg:Gl X x)(hm:X.mg x=none)(hv:bootBuiltins x=some (.type T))(ha:PA X (e::es) t)(hn:x≠ "__name__":=by decide)(hdb:(x==("__debug__":Str))=false:=by decide)
  (he:starEach (e::es) X.env=(false,eval e X.env)::starEach es X.env:=by rfl)(hpl:(backTo pos (starEach es X.env)).any (·.1)=false:=by rfl):PE X (.Call (.Name x p) (e::es) [] pos) (tCB r t):=by
 intro pins s σ H Q I h
 refine wpAny_Call_Name_kw (VV I hg hm hv ?_ hn hdb)
 exact PyProof.Rows.callWith_type1 (thn (ha pos pins s σ H _ I h) λus s1 r9=>by obtain⟨vs,H1,I1,r1,q1⟩:=r9;exact hc pins s1 σ H1 vs us Q I1 r1 q1) he hpl
end
end L2
namespace HT
open PySem PyProof.Rows
section
open PySem.SeqAt
open PySem.AutoSeq1 (wpAny_loadPart')
open PySem.MeetsSeq PySem.MeetsSeq2 PySem.MeetsSeq3
end
section
variable {prog:Program}{w:World}{A:Around}{E:Value->Shared->Prop}{s:Shared}
noncomputable def sIx (n d:Nat):Option Int->Nat
 |none=>d
 |some v=>if v<0 then(v+(n:Int)).toNat else min v.toNat n
theorem sIx_none (n d:Nat):sIx n d none=d:=rfl
theorem sIx_nat (n d k:Nat):sIx n d (some (k:Int))=min k n:=by
 show(if(k:Int)<0 then((k:Int)+(n:Int)).toNat else min (k:Int).toNat n)=min k n
 rw[if_neg (by omega),Int.toNat_natCast]
end
end HT
namespace L2
open PySem PySem.Spec PyProof.Rows
noncomputable abbrev TO:=St->Hp->(Option Int->Hp->Prop)->Prop
noncomputable def PO (X:Cx)(e:Option Expr)(t:TO):Prop:=
 ∀(pins:List (Addr×Obj)) (s:Shared) (σ:St) (H:Hp) (Q:Option Int->Hp->Prop),Inv X pins σ H s->t σ H Q->
  wpAny (model X.prog X.w) X.A (evalPart e X.env) (λu s'=>∃ o H',Inv X pins σ H' s'/\IsPart u o/\Q o H') X.xe s
noncomputable def BT:TO:=λ_ H Q=>Q none H
noncomputable def Mh (t:TE):TO:=λσ H Q=>t σ H λx H1=>∃ i,x= .int i/\Q (some i) H1
theorem Dc {ns:List Int}:∀{us:List Value},Yv (ns.map V.int) us->IntsAre us ns:=by
 induction ns with
 |nil=>intro us r;rw[List.map_nil] at r;cases r;exact .nil
 |cons n ns ih=>
  intro us r
  rw[List.map_cons] at r
  cases r with
  |cons r1 r2=>
   obtain⟨t,e⟩:=r1
   subst e
   exact .cons n t (ih r2)
section
variable {X:Cx}{e:Expr}{te:TE}{lo hi:Option Expr}{tl th:TO}{pos p2:Pos}
theorem VS:PO X none BT:=by
 intro pins s σ H Q I h
 rw[evalPart_none]
 exact wpAny_pure ⟨none,H,I, .none,h⟩
theorem VP (h:PE X e te):PO X (some e) (Mh te):=by
 intro pins s σ H Q I hw
 rw[evalPart_some]
 refine thn (h pins s σ H _ I hw) λu s1 r9=>?_
 obtain⟨x,H1,I1,r1,q1⟩:=r9
 obtain⟨i,rfl,q⟩:=q1
 obtain⟨t,rfl⟩:=r1
 exact⟨some i,H1,I1, .int i t,q⟩
noncomputable def SlR (X:Cx)(r:V->Option Int->Option Int->Hp->VK->Prop):Prop:=
 ∀(pins:List (Addr×Obj)) (s:Shared) (σ:St) (H:Hp) (x:V) (v vl vu:Value) (lo hi:Option Int) (sl:Addr) (Q:VK),Inv X pins σ H s->Yy x v->s.heap.IsSliceOf sl vl vu .none->IsPart vl lo->IsPart vu hi->r x lo hi H Q->
  ∃T id,typeLookup (.type T) "__getitem__" =pure (some (.builtin id))/\s.TypeIs v T/\wpAny (model X.prog X.w) X.A (getItem v (.ref sl)) (EP X pins σ Q) X.xe s
theorem SlR.or {r r':V->Option Int->Option Int->Hp->VK->Prop}(h:SlR X r)(h':SlR X r'):SlR X (λx lo hi H Q=>r x lo hi H Q∨r' x lo hi H Q):=by
 intro pins s σ H x v vl vu lo hi sl Q I rx hs pl pu q
 rcases q with q |q
 ·exact h pins s σ H x v vl vu lo hi sl Q I rx hs pl pu q
 ·exact h' pins s σ H x v vl vu lo hi sl Q I rx hs pl pu q
noncomputable def tSl (r:V->Option Int->Option Int->Hp->VK->Prop)(te:TE)(tl th:TO):TE:=λσ H Q=>te σ H λx H1=>tl σ H1 λl H2=>th σ H2 λu H3=>r x l u H3 Q
theorem JG {r:V->Option Int->Option Int->Hp->VK->Prop}(hr:SlR X r)(he:PE X e te)(hl:PO X lo tl)(hu:PO X hi th):PE X (.Subscript e (.Slice lo hi none p2) pos) (tSl r te tl th):=by
 intro pins s σ H Q I h
 refine Subscript_ (thn (he pins s σ H _ I h) λv s1 r9=>?_)
 obtain⟨x,H1,I1,r1,q1⟩:=r9
 refine wpAny_Slice (thn (hl pins s1 σ H1 _ I1 q1) λvl s2 ⟨l,H2,I2,pl,q2⟩=>thn (hu pins s2 σ H2 _ I2 q2) λvu s3 r9=>?_)
 obtain⟨u,H3,I3,pu,q3⟩:=r9
 rw[evalPart_none]
 refine wpAny_pure ?_
 have I4:Inv X pins σ H3 {s3 with heap:=s3.heap.push {cls:=.type "slice",data:=.fields #[vl,vu, .none]}}:=I3.kept (t':=s3.toks) λb ob q=>Heap.get?_push_of_some _ q
 obtain⟨T,id,hT,ht,hg⟩:=hr pins {s3 with heap:=s3.heap.push {cls:=.type "slice",data:=.fields #[vl,vu, .none]}} σ H3 x v vl vu l u s3.heap.objs.size Q I4 r1 (Heap.IsSliceOf.new ..) pl pu q3
 show wpAny (model X.prog X.w) X.A (subscriptTail e (.Slice lo hi none p2) v (.ref s3.heap.objs.size)) (EP X pins σ Q) X.xe {s3 with heap:=s3.heap.push {cls:=.type "slice",data:=.fields #[vl,vu, .none]}}
 exact tail_any (ops:=[.ref s3.heap.objs.size,v]) ht hT hg (by with_unfolding_all rfl)
noncomputable def Lq (xs:List V)(lo hi:Option Int):List V:=(xs.drop (HT.sIx xs.length 0 lo)).take (HT.sIx xs.length xs.length hi-HT.sIx xs.length 0 lo)
theorem GG (xs:List V)(lo hi:Option Int):(Lq xs lo hi).length<=xs.length:=by
 unfold Lq
 rw[List.length_take,List.length_drop]
 omega
end
noncomputable def ixN (n:Nat)(i:Int):Option Nat:=if 0<=i then(if i<n then some i.toNat else none) else if-(n:Int)<=i then some (i+n).toNat else none
noncomputable def atI {α:Type}(xs:List α)(i:Int):Option α:=(ixN xs.length i).bind λj=>xs[j]?
theorem BZ {n:Nat}{i:Int}{j:Nat}(h:ixN n i=some j):seqIndex? i n=some j/\j<n/\ -(n:Int)<=i/\i<n:=by
 unfold ixN at h
 by_cases h0:0<=i
 ·rw[if_pos h0] at h
  by_cases h1:i<n
  ·rw[if_pos h1] at h
   have e:i.toNat=j:=Option.some.inj h
   exact⟨by rw[seqIndex_of h0 h1,e],by omega,by omega,h1⟩
  ·rw[if_neg h1] at h;cases h
 ·rw[if_neg h0] at h
  by_cases h1: -(n:Int)<=i
  ·rw[if_pos h1] at h
   have e:(i+n).toNat=j:=Option.some.inj h
   exact⟨by rw[seqIndex_neg (by omega) h1,e],by omega,h1,by omega⟩
  ·rw[if_neg h1] at h;cases h
theorem Cq {α:Type}{xs:List α}{i:Int}{v:α}(h:atI xs i=some v):∃j,seqIndex? i xs.length=some j/\xs[j]?=some v/\j<xs.length/\ -(xs.length:Int)<=i/\i<xs.length:=by
 unfold atI at h
 cases e:ixN xs.length i with
 |none=>rw[e] at h;cases h
 |some j=>
  rw[e] at h
  obtain⟨h1,h2,h3,h4⟩:=BZ e
  exact⟨j,h1,h,h2,h3,h4⟩
noncomputable def ID (b:Expr):Prop:=∀ o i,subscripted b false o i=operate [o,i] (getItem o i)
noncomputable def IxR (X:Cx)(r:R2):Prop:=
 ∀(value slice:Expr) (pins:List (Addr×Obj)) (s:Shared) (σ:St) (H:Hp) (x y:V) (v u:Value) (Q:VK),Inv X pins σ H s->Yy x v->Yy y u->r x y H Q->
  subscripted slice false v u=operate [v,u] (getItem v u)->wpAny (model X.prog X.w) X.A (subscriptTail value slice v u) (EP X pins σ Q) X.xe s
noncomputable def MtR (X:Cx)(id:String)(r:V->List V->Hp->VK->Prop):Prop:=
 ∀(pins:List (Addr×Obj)) (s:Shared) (σ:St) (H:Hp) (x:V) (xs:List V) (v:Value) (us:List Value) (Q:VK),Inv X pins σ H s->Yy x v->Yv xs us->r x xs H Q->
  wpAny (model X.prog X.w) X.A (call (.builtin id) (v::us)) (EP X pins σ Q) X.xe s
section
variable {X:Cx}{a b:Expr}{ta tb:TE}{pos:Pos}
theorem IxR.or {r r':R2}(h:IxR X r)(h':IxR X r'):IxR X (λx y H Q=>r x y H Q∨r' x y H Q):=by
 intro value slice pins s σ H x y v u Q I rx ry q hs
 rcases q with q |q
 ·exact h value slice pins s σ H x y v u Q I rx ry q hs
 ·exact h' value slice pins s σ H x y v u Q I rx ry q hs
theorem MtR.or {id:String}{r r':V->List V->Hp->VK->Prop}(h:MtR X id r)(h':MtR X id r'):MtR X id (λx xs H Q=>r x xs H Q∨r' x xs H Q):=by
 intro pins s σ H x xs v us Q I rx rs q
 rcases q with q |q
 ·exact h pins s σ H x xs v us Q I rx rs q
 ·exact h' pins s σ H x xs v us Q I rx rs q
theorem Xy {r:R2}(hr:IxR X r)(ha:PE X a ta)(hb:PE X b tb)(hs:ID b):PE X (.Subscript a b pos) (tOp r ta tb):=by
 intro pins s σ H Q I h
 exact Subscript_ (MI ha hb I h λv u s2 x y H2 I2 rx ry q=>hr a b pins s2 σ H2 x y v u Q I2 rx ry q (hs _ _))
noncomputable def HN (K:PySem.W.Frag):R2:=λx y H Q=>∃ p xs i v,x= .ref p/\y= .int i/\SqL K H p xs/\atI xs i=some v/\Q v H
noncomputable def Ls (K:PySem.W.Frag):R2:=λx y H Q=>∃ p xs i v,x= .ref p/\y= .int i/\SqT K H p xs/\atI xs i=some v/\Q v H
theorem HW:IxR X (HN X.K):=by
 intro value slice pins s σ H x y v u Q I rx ry h hs
 obtain⟨p,xs,i,z,rfl,rfl,hq,he,q⟩:=h
 cases rx
 obtain⟨t,rfl⟩:=ry
 obtain⟨its,r,pl,hz⟩:=I.list hq
 obtain⟨j,h1,h2,h3,h4,h5⟩:=Cq he
 obtain⟨w,ew,rw'⟩:=r.get h2
 have hl:=r.length
 have hn:=F6
 have fin:EP X pins σ Q w s:=⟨z,H,I,rw',q⟩
 by_cases h0:0<=i
 ·have hj:i.toNat=j:=by
   rw[seqIndex_of h0 h5] at h1
   exact Option.some.inj h1
  exact item_listR pl.isList h0 (by omega) (by rw[hj];simpa using ew) fin hs
 ·have hj:(i+(its.toArray.size:Int)).toNat=j:=by
   rw[seqIndex_neg (by omega) h4] at h1
   rw[List.size_toArray, ←hl]
   exact Option.some.inj h1
  exact subscriptTail_builtinR (x:=w) pl.isList.typeIs slot_list_getitem.lookup
   (wpAny_getItem_list_neg (Q:=λr s'=>r=w/\EP X pins σ Q r s') pl.isList (by omega) (by rw[List.size_toArray]<;> omega) (by omega) (by rw[hj];simpa using ew) ⟨rfl,fin⟩) hs
theorem L7:IxR X (Ls X.K):=by
 intro value slice pins s σ H x y v u Q I rx ry h hs
 obtain⟨p,xs,i,z,rfl,rfl,hq,he,q⟩:=h
 cases rx
 obtain⟨t,rfl⟩:=ry
 obtain⟨its,r,pl,hz⟩:=I.tuple hq
 obtain⟨j,h1,h2,h3,h4,h5⟩:=Cq he
 obtain⟨w,ew,rw'⟩:=r.get h2
 have hl:=r.length
 have hn:=F6
 have fin:EP X pins σ Q w s:=⟨z,H,I,rw',q⟩
 exact subscriptTail_builtinR (x:=w) pl.typeIs slot_tuple_getitem.lookup
  (getItem_tuple (j:=j) (Q:=λr s'=>r=w/\EP X pins σ Q r s') pl (by omega) (by omega) (by rw[List.size_toArray, ←hl];exact h1) (by simpa using ew) ⟨rfl,fin⟩) hs
theorem Dx (its:List Value)(n j:Nat)(u:Value):Obj.mapSeq (·.setIfInBounds j u) {cls:=.type "list",data:=.seq its.toArray n}={cls:=.type "list",data:=.seq (its.set j u).toArray n}:=by
 simp[Obj.mapSeq]
theorem Inv.lst {pins:List (Addr×Obj)}{σ:St}{H:Hp}{s:Shared}{p:Addr}{xs:List V}(I:Inv X pins σ H s)(h:H p=some (.lst xs)):
  ∃(its:List Value) (n:Nat),Yv xs its/\s.heap.get? p=some {cls:=.type "list",data:=.seq its.toArray n}/\xs.length<=sizeLine:=by
 obtain⟨z,its,n,r,e⟩:=I.hok p _ h
 exact⟨its,n,r,e,z⟩
theorem Inv.lstUpd {pins:List (Addr×Obj)}{σ:St}{H:Hp}{s:Shared}{p:Addr}{xs ys:List V}{its its':List Value}{n n':Nat}{f:Obj->Obj}(I:Inv X pins σ H s)(h:H p=some (.lst xs))
  (ho:s.heap.get? p=some {cls:=.type "list",data:=.seq its.toArray n})(hf:f {cls:=.type "list",data:=.seq its.toArray n}={cls:=.type "list",data:=.seq its'.toArray n'})(r:Yv ys its')(hz:ys.length<=sizeLine)(t:Nat):
  Inv X pins σ (upd H p (.lst ys)) {s with heap:=s.heap.update p f,toks:=t}:=by
 have e:(s.heap.update p f).get? p=some {cls:=.type "list",data:=.seq its'.toArray n'}:=by
  rw[Heap.get?_update_self f ho (by rw[hf]<;> rfl),hf]
 refine I.write (x:=p) (e:=p) (by rw[h];trivial) (.inl rfl) (λb u hb q=>(Heap.get?_update_other _ _ (Ne.symm hb)).trans q) ⟨_,e⟩ ?_
 exact⟨hz,its',n',r,e⟩
noncomputable def IT:V->V->V->Hp->(Hp->Prop)->Prop:=λo i v H Q=>∃ p xs k j,o= .ref p/\i= .int k/\H p=some (.lst xs)/\ixN xs.length k=some j/\Q (upd H p (.lst (xs.set j v)))
theorem Vq:Nm X IT:=by
 intro pins s σ H o i v ov iv u Q I ro ri rv h
 obtain⟨p,xs,k,j,rfl,rfl,hp,hj,q⟩:=h
 cases ro
 obtain⟨t,rfl⟩:=ri
 obtain⟨its,n,r,ho,hz⟩:=I.lst hp
 obtain⟨h1,h2,h3,h4⟩:=BZ hj
 have hl:=r.length
 have hn:=F6
 have I':Inv X pins σ (upd H p (.lst (xs.set j v))) {s with heap:=s.heap.update p (Obj.mapSeq (·.setIfInBounds j u))}:=
  I.lstUpd hp ho (Dx its n j u) (r.set rv j) (by rw[List.length_set];exact hz) s.toks
 by_cases h0:0<=k
 ·have hk:k.toNat=j:=by
   rw[seqIndex_of h0 h4] at h1
   exact Option.some.inj h1
  exact PySem.W.ki_setAt ho h0 (by omega) (by rw[List.size_toArray, ←hl];exact h4) (by rw[hk];exact⟨_,I',q⟩)
 ·have hk:(k+(its.toArray.size:Int)).toNat=j:=by
   rw[seqIndex_neg (by omega) h3] at h1
   rw[List.size_toArray, ←hl]
   exact Option.some.inj h1
  exact PySem.W.ki_setBack ho (by omega) (by rw[List.size_toArray, ←hl];exact h3) (by omega) (by rw[hk];exact⟨_,I',q⟩)
theorem Ga (lo hi:Option Int)(n:Nat):(sliceBounds lo hi none n).1=((HT.sIx n 0 lo:Nat):Int)/\(sliceBounds lo hi none n).2.1=((HT.sIx n n hi:Nat):Int)/\(sliceBounds lo hi none n).2.2=1:=by
 refine⟨?_,?_,rfl⟩
 ·cases lo with
  |none=>simp[sliceBounds,HT.sIx]
  |some i=>
   simp only[sliceBounds,HT.sIx,Option.getD_none,show(1:Int) > 0 by decide,if_true]
   by_cases h:i<0
   ·simp only[h,if_true]<;> omega
   ·simp only[h,if_false]<;> omega
 ·cases hi with
  |none=>simp[sliceBounds,HT.sIx]
  |some i=>
   simp only[sliceBounds,HT.sIx,Option.getD_none,show(1:Int) > 0 by decide,if_true]
   by_cases h:i<0
   ·simp only[h,if_true]<;> omega
   ·simp only[h,if_false]<;> omega
theorem Kp (its:List Value)(lo hi:Option Int):slicePick its.toArray lo hi none=((its.drop (HT.sIx its.length 0 lo)).take (HT.sIx its.length its.length hi-HT.sIx its.length 0 lo)).toArray:=by
 obtain⟨h1,h2,h3⟩:=Ga lo hi its.toArray.size
 unfold slicePick
 rw[h1,h2,h3]
 simp only[sliceRange_one,pick_run,List.size_toArray]<;> rfl
noncomputable def MF (K:PySem.W.Frag):V->Option Int->Option Int->Hp->VK->Prop:=λx lo hi H Q=>∃ a xs,x= .ref a/\SqL K H a xs/\∀p,H p=none->Q (.ref p) (upd H p (.lst (Lq xs lo hi)))
theorem IS:SlR X (MF X.K):=by
 intro pins s σ H x v vl vu lo hi sl Q I rx hs pl pu h
 obtain⟨a,xs,rfl,hx,q⟩:=h
 cases rx
 obtain⟨its,r,ht,hz⟩:=I.list hx
 have hlen:=r.length
 refine⟨"list",_,slot_list_getitem.lookup,ht.isList.typeIs,?_⟩
 refine wpAny_getItem_list_slice ht.isList hs pl pu .none (by simp) ?_ (by rw[List.size_toArray]<;> omega)
 rw[Kp, ←hlen]
 refine⟨.ref s.heap.objs.size,_,I.laid (t':=s.toks) (o:=.lst (Lq xs lo hi)) (λb ob q=>Heap.get?_push_of_some _ q) (Nat.le_refl _) ?_,rfl,q _ (I.hok.fresh (Nat.le_refl _))⟩
 exact⟨Nat.le_trans (GG xs lo hi) hz,_,0,(r.drop (HT.sIx xs.length 0 lo)).take (HT.sIx xs.length xs.length hi-HT.sIx xs.length 0 lo),Heap.get?_push_size _ rfl⟩
noncomputable def Vi:V->Bool
 | .non=>true
 | .bl _=>true
 | .int _=>true
 | .str _=>true
 |_=>false
noncomputable def eqV:V->V->Bool
 | .non, .non=>true
 | .bl a, .bl b=>a==b
 | .bl a, .int b=>(if a then 1 else 0)==b
 | .int a, .bl b=>a==(if b then 1 else 0)
 | .int a, .int b=>a==b
 | .str a, .str b=>a==b
 |_,_=>false
theorem LY {A:Around}{s:Shared}{y x:V}{u v:Value}(ry:Yy y u)(rx:Yy x v)(fy:Vi y=true)(fx:Vi x=true):SeqAt.EqAt A s u v (eqV y x):=by
 cases y with
 |non=>
  cases ry
  cases x with
  |non=>cases rx;exact SeqAt.EqAt.same _
  |bl b=>cases rx;exact SeqAt.EqAt.none_bool b
  |int b=>obtain⟨t,rfl⟩:=rx;exact SeqAt.EqAt.none_int b t
  |str b=>obtain⟨t,rfl⟩:=rx;exact SeqAt.EqAt.none_str b t
  |_=>exact absurd (show false=true from fx) Bool.false_ne_true
 |bl a=>
  cases ry
  cases x with
  |non=>cases rx;exact SeqAt.EqAt.bool_none a
  |bl b=>cases rx;exact SeqAt.EqAt.bool_bool a b
  |int b=>obtain⟨t,rfl⟩:=rx;exact SeqAt.EqAt.bool_int a b t
  |str b=>obtain⟨t,rfl⟩:=rx;exact SeqAt.EqAt.bool_str a b t
  |_=>exact absurd (show false=true from fx) Bool.false_ne_true
 |int a=>
  obtain⟨t',rfl⟩:=ry
  cases x with
  |non=>cases rx;exact SeqAt.EqAt.int_none a t'
  |bl b=>cases rx;exact SeqAt.EqAt.int_bool a t' b
  |int b=>obtain⟨t,rfl⟩:=rx;exact SeqAt.EqAt.int_int a t' b t
  |str b=>obtain⟨t,rfl⟩:=rx;exact SeqAt.EqAt.int_str a t' b t
  |_=>exact absurd (show false=true from fx) Bool.false_ne_true
 |str a=>
  obtain⟨t',rfl⟩:=ry
  cases x with
  |non=>cases rx;exact SeqAt.EqAt.str_none a t'
  |bl b=>cases rx;exact SeqAt.EqAt.str_bool a t' b
  |int b=>obtain⟨t,rfl⟩:=rx;exact SeqAt.EqAt.str_int a t' b t
  |str b=>obtain⟨t,rfl⟩:=rx;exact SeqAt.EqAt.str_str a t' b t
  |_=>exact absurd (show false=true from fx) Bool.false_ne_true
 |_=>exact absurd (show false=true from fy) Bool.false_ne_true
noncomputable def eqU (x:V)(u:Value):Bool:=match u with
 | .none=>eqV .non x
 | .bool b=>eqV (.bl b) x
 | .int i _=>eqV (.int i) x
 | .str z _=>eqV (.str z) x
 |_=>false
theorem By {x y:V}{u:Value}(r:Yy y u)(f:Vi y=true):eqU x u=eqV y x:=by
 cases y with
 |non=>cases r;rfl
 |bl b=>cases r;rfl
 |int i=>obtain⟨t,rfl⟩:=r;rfl
 |str z=>obtain⟨t,rfl⟩:=r;rfl
 |_=>exact absurd (show false=true from f) Bool.false_ne_true
theorem G1 {x:V}:∀{xs:List V}{us:List Value},Yv xs us->xs.all Vi=true->us.any (eqU x)=xs.any λy=>eqV y x
 |_,_, .nil,_=>rfl
 |y::xs,u::us, .cons r t,f=>by
  rw[List.all_cons,Bool.and_eq_true] at f
  rw[List.any_cons,List.any_cons,By r f.1,G1 t f.2]
theorem Vt {A:Around}{s:Shared}{x:V}{v:Value}(rx:Yy x v)(fx:Vi x=true):∀{xs:List V}{us:List Value},Yv xs us->xs.all Vi=true->∀u∈us,SeqAt.EqAt A s u v (eqU x u)
 |_,_, .nil,_=>λu hu=>by cases hu
 |y::xs,u::us, .cons r t,f=>λu' hu=>by
  rw[List.all_cons,Bool.and_eq_true] at f
  rcases List.mem_cons.mp hu with rfl |hu
  ·rw[By r f.1];exact LY r rx f.1 fx
  ·exact Vt rx fx t f.2 u' hu
noncomputable def inV (x:V)(xs:List V):Bool:=xs.any λy=>eqV y x
noncomputable def rIn (K:PySem.W.Frag)(neg:Bool):R2:=λx y H Q=>∃ p xs,y= .ref p/\(SqL K H p xs∨SqT K H p xs)/\Vi x=true/\xs.all Vi=true/\Q (.bl (if neg then !inV x xs else inV x xs)) H
theorem KA:OpR X (compareOp .In) (rIn X.K false):=by
 intro pins s σ H x y v u Q I rx ry h
 obtain⟨p,xs,rfl,hq,fx,fs,q⟩:=h
 cases ry
 rcases hq with hq |hq
 ·obtain⟨its,r,pl,hz⟩:=I.list hq
  refine SeqAt.in_listAt (eqU x) pl.isList (λw hw=>Vt rx fx r fs w (by simpa using hw)) ⟨.bl _,H,I,rfl,?_⟩
  rw[show its.toArray.any (eqU x)=its.any (eqU x) by simp,G1 r fs]
  exact q
 ·obtain⟨its,r,pl,hz⟩:=I.tuple hq
  refine SeqAt.in_tupleAt (eqU x) pl (λw hw=>Vt rx fx r fs w (by simpa using hw)) ⟨.bl _,H,I,rfl,?_⟩
  rw[show its.toArray.any (eqU x)=its.any (eqU x) by simp,G1 r fs]
  exact q
theorem KS:Qx X (.builtin "len") (λxs H Q=>∃ p ys,xs=[.ref p]/\(SqL X.K H p ys∨SqT X.K H p ys)/\Q (.int ys.length) H):=by
 intro pins s σ H xs us Q I r h
 obtain⟨p,ys,rfl,hq,q⟩:=h
 obtain⟨u,rfl,rx⟩:=G6 r
 cases rx
 have hn:=F6
 rcases hq with hq |hq
 ·obtain⟨its,r',pl,hz⟩:=I.list hq
  have hlen:=r'.length
  exact Calls.call_len_list pl.isList (by simp only[List.size_toArray]<;> omega) ⟨.int ys.length,H,I.tok _,⟨s.toks+1,by rw[List.size_toArray,hlen]⟩,q⟩
 ·obtain⟨its,r',pl,hz⟩:=I.tuple hq
  have hlen:=r'.length
  exact len_tuple pl (by simp only[List.size_toArray]<;> omega) ⟨.int ys.length,H,I.tok _,⟨s.toks+1,by rw[List.size_toArray,hlen]⟩,q⟩
theorem Qx.or {f:Value}{r r':List V->Hp->VK->Prop}(h:Qx X f r)(h':Qx X f r'):Qx X f (λxs H Q=>r xs H Q∨r' xs H Q):=by
 intro pins s σ H xs us Q I rs q
 rcases q with q |q
 ·exact h pins s σ H xs us Q I rs q
 ·exact h' pins s σ H xs us Q I rs q
theorem K0:Qx X (.type "list") (λxs H Q=>∃ p ys,xs=[.ref p]/\(SqL X.K H p ys∨SqT X.K H p ys)/\∀l,H l=none->Q (.ref l) (upd H l (.lst ys))):=by
 intro pins s σ H xs us Q I r h
 obtain⟨p,ys,rfl,hq,q⟩:=h
 obtain⟨u,rfl,rx⟩:=G6 r
 cases rx
 have fin:∀(its:List Value),Yv ys its->ys.length<=sizeLine->∀(h':Heap) (c':Nat),(∀b o',s.heap.get? b=some o'->h'.get? b=some o')->
   h'.get? s.heap.objs.size=some {cls:=.type "list",dict:=none,data:=.seq its.toArray c',slots:=#[]}->EP X pins σ Q (.ref s.heap.objs.size) {s with heap:=h'}:=λits r' hz h' c' kp e=>
  ⟨.ref s.heap.objs.size,_,I.laid (t':=s.toks) kp (Nat.le_refl _) (show Zg X.prog X.w _ h' _ (.lst ys) from⟨hz,its,c',r',e⟩),rfl,q _ (I.hok.fresh (Nat.le_refl _))⟩
 rcases hq with hq |hq
 ·obtain⟨its,r',pl,hz⟩:=I.list hq
  have hlen:=r'.length
  obtain⟨o,ho,hc,n,hd⟩:=pl.isList
  exact call_list_seq p (.inl rfl) ho hc hd (λh' c' kp e=>fin its r' hz h' c' kp e) (by simp only[List.size_toArray]<;> omega)
 ·obtain⟨its,r',pl,hz⟩:=I.tuple hq
  have hlen:=r'.length
  obtain⟨o,ho,hc,n,hd⟩:=pl
  exact call_list_seq p (.inr rfl) ho hc hd (λh' c' kp e=>fin its r' hz h' c' kp e) (by simp only[List.size_toArray]<;> omega)
theorem UX:Qx X (.type "tuple") (λxs H Q=>∃ p ys,xs=[.ref p]/\((SqL X.K H p ys/\∀l,H l=none->Q (.ref l) (upd H l (.tup ys)))∨(SqT X.K H p ys/\Q (.ref p) H))):=by
 intro pins s σ H xs us Q I r h
 obtain⟨p,ys,rfl,h⟩:=h
 obtain⟨u,rfl,rx⟩:=G6 r
 cases rx
 rcases h with⟨hq,q⟩ | ⟨hq,q⟩
 ·obtain⟨its,r',pl,hz⟩:=I.list hq
  have hlen:=r'.length
  refine call_tuple_list pl.isList (λh' kp=>?_) (by simp only[List.size_toArray]<;> omega)
  have I1:Inv X pins σ H {s with heap:=h'}:=I.kept (t':=s.toks) kp
  have I2:Inv X pins σ (upd H h'.objs.size (.tup ys)) {s with heap:=h'.push {cls:=.type "tuple",data:=.seq its.toArray}}:=
   I1.laid (t':=s.toks) (λb o e=>Heap.get?_push_of_some _ e) (Nat.le_refl _) (show Zg X.prog X.w _ _ _ (.tup ys) from⟨hz,its,r',Uz.new _ _⟩)
  exact⟨.ref h'.objs.size,_,I2,rfl,q _ (I1.hok.fresh (Nat.le_refl _))⟩
 ·obtain⟨its,r',pl,hz⟩:=I.tuple hq
  exact call_tuple_same pl ⟨.ref p,H,I,rfl,q⟩
noncomputable def tyV (K:PySem.W.Frag)(T:String)(x:V)(H:Hp):Prop:=match x with
 | .str _=>T= "str"
 | .int _=>T= "int"
 | .ref p=>(T= "list" /\∃xs,SqL K H p xs)∨(T= "tuple" /\∃o,K.lookup p=some o/\o.cls= .type "tuple" /\o.dict=none)∨
   (T= "dict" /\((∃kvs,H p=some (.dK kvs))∨∃kvs,H p=some (.dT kvs)))∨(T= "set" /\∃S n,H p=some (.set S n))
 |_=>False
theorem Lx {pins:List (Addr×Obj)}{σ:St}{H:Hp}{s:Shared}{T:String}{x:V}{v:Value}(I:Inv X pins σ H s)(r:Yy x v)(ty:tyV X.K T x H):
  s.TypeIs v T/\∀a,v= .ref a->∃ob,s.heap.get? a=some ob/\ob.dict=none:=by
 cases x with
 |str z=>
  obtain⟨t,rfl⟩:=r
  cases(show T= "str" from ty)
  exact⟨typeIs_str s z t,λ_ e=>nomatch e⟩
 |int i=>
  obtain⟨t,rfl⟩:=r
  cases(show T= "int" from ty)
  exact⟨typeIs_int s i t,λ_ e=>nomatch e⟩
 |ref p=>
  cases r
  rcases ty with⟨rfl,xs,hq⟩ | ⟨rfl,o,hk,hc,hd⟩ | ⟨rfl,hk⟩ | ⟨rfl,S,n,hk⟩
  ·obtain⟨its,_,pl,_⟩:=I.list hq
   refine⟨pl.isList.typeIs,λa e=>?_⟩
   cases e
   obtain⟨o,n,e,c,hd,_⟩:=pl
   exact⟨o,e,hd⟩
  ·refine⟨⟨o,I.kIn p o hk,hc⟩,λa e=>?_⟩
   cases e
   exact⟨o,I.kIn _ o hk,hd⟩
  ·have z:∃o,s.heap.get? p=some o/\o.ExactDict:=by
    rcases hk with⟨kvs,hk⟩ | ⟨kvs,hk⟩
    ·obtain⟨_,_,_,_,o,_,_,e,ex,_⟩:=I.hok p _ hk
     exact⟨o,e,ex⟩
    ·obtain⟨_,_,_,_,o,_,_,e,ex,_⟩:=I.hok p _ hk
     exact⟨o,e,ex⟩
   obtain⟨o,e,ex⟩:=z
   refine⟨⟨o,e,ex.1⟩,λa e2=>?_⟩
   cases e2
   exact⟨o,e,ex.2.1⟩
  ·obtain⟨o,_,_,_,e,ex,_⟩:=I.hok p _ hk
   refine⟨⟨o,e,ex.1⟩,λa e2=>?_⟩
   cases e2
   exact⟨o,e,ex.2.1⟩
 |_=>exact False.elim ty
noncomputable def tBM (K:PySem.W.Frag)(T:String)(r:V->List V->Hp->VK->Prop)(to:TE)(t:TA):TE:=λσ H Q=>to σ H λx H1=>tyV K T x H1/\t σ H1 λxs H2=>r x xs H2 Q
variable {o e:Expr}{es:List Expr}{to:TE}{t:TA}{name:Str}{apos cpos:Pos}{T id:String}{r:V->List V->Hp->VK->Prop}
theorem Zt (pa:PlainAttrs T)(slot:Slot T name id)(hty:typeOf (.builtin id)=pure (.type "method_descriptor"))(hm:MtR X id r)(ho:PE X o to)(ha:PA X (e::es) t)
  (hbase:attributeBase o name X.env (eval o X.env)=eval o X.env:=by rfl)
  (hfew:((backTo cpos (starEach (e::es) X.env)).all (λx=>!x.1)&&(backToKw cpos (keywordEach [] X.env)).all (λx=>x.1.isSome)
   &&decide ((e::es).length+([]:List Keyword).length+(if([]:List Keyword).isEmpty then 0 else 1)<30))=true:=by rfl)
  (hline:(apos.endLine==cpos.line)=true:=by rfl)(hs:starEach (e::es) X.env=(false,eval e X.env)::starEach es X.env:=by rfl)(hplain:(backTo cpos (starEach es X.env)).any (·.1)=false:=by rfl):
  PE X (.Call (.Attribute o name apos) (e::es) [] cpos) (tBM X.K T r to t):=by
 intro pins s σ H Q I h
 refine wpAny_Call_method_late hbase hfew hline rfl (thn (ho pins s σ H _ I h) λv s1 r9=>?_)
 obtain⟨x,H1,I1,r1,ty,q1⟩:=r9
 obtain⟨h1,h2⟩:=Lx I1 r1 ty
 refine⟨T,id,pa,slot,hty,h1,h2,?_⟩
 have hA:=ha cpos pins s1 σ H1 _ I1 q1
 rw[hs] at hA⊢
 refine Calls.callWith_builtin (by show(false || (backTo cpos (starEach es X.env)).any (·.1))=false;rw[hplain]<;> rfl) (Calls.evalArgs_plain ?_)
 exact thn hA λus s2 r9=>by obtain⟨vs,H2,I2,r2,q2⟩:=r9;exact hm pins s2 σ H2 x vs v us Q I2 r1 r2 q2
/- xs.append(e), list.index on a module's tuple .. are MtR facts of 06m -/
end
noncomputable def MtM (X:Cx)(id:String)(r:V->List V->Hp->VK->Prop):Prop:=
 ∀(pins:List (Addr×Obj)) (s:Shared) (σ:St) (H:Hp) (x:V) (xs:List V) (v:Value) (us:List Value) (Q:VK),Inv X pins σ H s->Yy x v->Yv xs us->r x xs H Q->
  wpAny (model X.prog X.w) X.A (call (.builtin id) (v::us)) (EP X pins σ Q) X.xe s
theorem Yv.one:∀{x:V}{us:List Value},Yv [x] us->∃u,us=[u]/\Yy x u:=fun {x us} h=>by
 cases h with
 |cons r t=>
  cases t
  exact⟨_,rfl,r⟩
theorem Yv.two:∀{x y:V}{us:List Value},Yv [x,y] us->∃u v,us=[u,v]/\Yy x u/\Yy y v:=fun {x y us} h=>by
 cases h with
 |cons r t=>
  cases t with
  |cons q t=>
   cases t
   exact⟨_,_,rfl,r,q⟩
theorem Yv.zero:∀{us:List Value},Yv [] us->us=[]
 |_, .nil=>rfl
theorem Yv.dropLast {xs:List V}{us:List Value}(h:Yv xs us):Yv xs.dropLast us.dropLast:=by
 induction h with
 |nil=>exact .nil
 |cons r t ih=>
  cases t with
  |nil=>exact .nil
  |cons q t'=>exact .cons r ih
theorem Yv.eraseIdx:∀{xs:List V}{us:List Value} (i:Nat),Yv xs us->Yv (xs.eraseIdx i) (us.eraseIdx i)
 |_,_,_, .nil=>.nil
 |_,_,0, .cons _ t=>t
 |_,_,i+1, .cons r t=>.cons r (Yv.eraseIdx i t)
theorem Yv.reverse {xs:List V}{us:List Value}(h:Yv xs us):Yv xs.reverse us.reverse:=by
 induction h with
 |nil=>exact .nil
 |cons r t ih=>rw[List.reverse_cons,List.reverse_cons];exact Yv.append ih (.cons r .nil)
theorem Yv.rep {xs:List V}{us:List Value}(h:Yv xs us):∀k:Nat,Yv (List.replicate k xs).flatten (List.replicate k us).flatten
 |0=>.nil
 |k+1=>by
  rw[List.replicate_succ,List.replicate_succ,List.flatten_cons,List.flatten_cons]
  exact Yv.append h (Yv.rep h k)
theorem KZ {α:Type}:∀(l:List α) (i:Nat),(l.eraseIdx i).length<=l.length
 | [],_=>Nat.le_refl _
 |_::_,0=>Nat.le_succ _
 |_::r,i+1=>Nat.succ_le_succ (KZ r i)
theorem Kz (its:List Value):∀(k:Nat) (acc:List Value),
  List.foldl (λx1 x2=>x1++x2) acc.toArray (List.replicate k its.toArray)=(acc++(List.replicate k its).flatten).toArray
 |0,acc=>by simp
 |k+1,acc=>by
  have e:acc.toArray++its.toArray=(acc++its).toArray:=by simp
  have e2:(acc++its)++(List.replicate k its).flatten=acc++(List.replicate (k+1) its).flatten:=by
   rw[List.replicate_succ,List.flatten_cons,List.append_assoc]
  rw[←e2, ←Kz its k (acc++its), ←e,List.replicate_succ,List.foldl_cons]
section
variable {X:Cx}{pins:List (Addr×Obj)}{σ:St}{H:Hp}{s:Shared}{l b:Addr}{xs ys zs:List V}
theorem Inv.lset {its its':List Value}{n:Nat}{f:Array Value->Array Value}{t':Nat}(I:Inv X pins σ H s)(hH:H l=some (.lst xs))
  (e:s.heap.get? l=some {cls:=.type "list",data:=.seq its.toArray n})(hf:f its.toArray=its'.toArray)(hv:Yv ys its')(hz:ys.length<=sizeLine):
  Inv X pins σ (upd H l (.lst ys)) {s with heap:=s.heap.update l (Obj.mapSeq f),toks:=t'}:=by
 have q:=PySem.IsL.update e f
 rw[hf] at q
 refine I.write (x:=l) (e:=l) (by rw[hH];exact trivial) (.inl rfl) (λb' u hb hu=>(Heap.get?_update_other s.heap (Obj.mapSeq f) (Ne.symm hb)).trans hu) ⟨_,q⟩ ?_
 exact⟨hz,its',_,hv,q⟩
theorem Inv.lnew {its:List Value}{t':Nat}(I:Inv X pins σ H s)(hv:Yv ys its)(hz:ys.length<=sizeLine):
  Inv X pins σ (upd H s.heap.objs.size (.lst ys)) {s with heap:=s.heap.push {cls:=.type "list",data:=.seq its.toArray},toks:=t'}:=
 I.laid (λ_ _ q=>Heap.get?_push_of_some _ q) (Nat.le_refl _) ⟨hz,its,0,hv,Heap.get?_push_size _ rfl⟩
theorem Inv.fresh (I:Inv X pins σ H s):H s.heap.objs.size=none:=I.hok.fresh (Nat.le_refl _)
theorem Inv.lstM (I:Inv X pins σ H s)(hH:H l=some (.lst xs)):xs.length<=sizeLine/\∃(its:List Value) (n:Nat),Yv xs its/\xs.length=its.length/\s.heap.get? l=some {cls:=.type "list",data:=.seq its.toArray n}:=by
 obtain⟨z,its,n,r,e⟩:=I.hok l _ hH
 exact⟨z,its,n,r,r.length,e⟩
theorem F8 {n:Nat}(h:n<=sizeLine):Builtin.List.listTooLong n=false:=by
 unfold Builtin.List.listTooLong
 exact decide_eq_false (by omega)
end
section
variable {X:Cx}
noncomputable def US:V->List V->Hp->VK->Prop:=λx vs H Q=>∃ l xs y,x= .ref l/\vs=[y]/\H l=some (.lst xs)/\xs.length<sizeLine/\Q .non (upd H l (.lst (xs++[y])))
theorem XT:MtM X "list.append" US:=by
 intro pins s σ H x vs v us Q I rx rv h
 obtain⟨l,xs,y,rfl,rfl,hH,hz,q⟩:=h
 cases rx
 obtain⟨u,rfl,ru⟩:=rv.one
 obtain⟨z,its,n,r,hl,e⟩:=I.lstM hH
 refine call_meets F.slot_list_append ⟨_,e,rfl⟩ F.entry_list_append (F.args_list_append_2 _ _) (PySem.list_append l its.toArray n u (by rw[List.size_toArray];omega)) ⟨e,?_⟩
 refine⟨.non,_,I.lset (its':=its++[u]) hH e (by simp) (r.append (.cons ru .nil)) ?_,rfl,q⟩
 rw[List.length_append,List.length_singleton]
 omega
noncomputable def BK:V->List V->Hp->VK->Prop:=λx vs H Q=>∃ l b xs zs,x= .ref l/\vs=[.ref b]/\H l=some (.lst xs)/\H b=some (.lst zs)/\xs.length+zs.length<=sizeLine/\Q .non (upd H l (.lst (xs++zs)))
theorem BD:MtM X "list.extend" BK:=by
 intro pins s σ H x vs v us Q I rx rv h
 obtain⟨l,b,xs,zs,rfl,rfl,hH,hB,hz,q⟩:=h
 cases rx
 obtain⟨u,rfl,ru⟩:=rv.one
 cases ru
 obtain⟨z,its,n,r,hl,e⟩:=I.lstM hH
 obtain⟨z2,its2,n2,r2,hl2,e2⟩:=I.lstM hB
 have hsz:its.toArray.size+its2.toArray.size<=sizeLine:=by rw[List.size_toArray,List.size_toArray];omega
 have hlong:¬(!its.toArray.isEmpty&&Builtin.List.listTooLong (its.toArray.size+its2.toArray.size))=true:=by
  rw[F8 hsz,Bool.and_false]
  exact Bool.false_ne_true
 refine call_meets F.slot_list_extend ⟨_,e,rfl⟩ F.entry_list_extend (F.args_list_extend_2 _ _)
  (AutoSeq1.list_extend_list_list_0 l its.toArray n b its2.toArray n2 hlong (by rw[List.size_toArray];omega) (by omega)) ⟨e,e2,?_⟩
 refine⟨.non,_,I.lset (its':=its++its2) hH e (by simp) (r.append r2) ?_,rfl,q⟩
 rw[List.length_append]
 omega
noncomputable def FI:V->List V->Hp->VK->Prop:=λx vs H Q=>∃ l xs i k y,x= .ref l/\vs=[.int i]/\H l=some (.lst xs)/\ -(2^63)<=i/\i<2^63/\seqIndex? i xs.length=some k/\xs[k]?=some y/\Q y (upd H l (.lst (xs.eraseIdx k)))
theorem U3:MtM X "list.pop" FI:=by
 intro pins s σ H x vs v us Q I rx rv h
 obtain⟨l,xs,i,k,y,rfl,rfl,hH,h1,h2,hk,hy,q⟩:=h
 cases rx
 obtain⟨u,rfl,ru⟩:=rv.one
 obtain⟨t,rfl⟩:=ru
 obtain⟨z,its,n,r,hl,e⟩:=I.lstM hH
 obtain⟨w,hw,rw'⟩:=r.get hy
 refine call_meets F.slot_list_pop ⟨_,e,rfl⟩ F.entry_list_pop (F.args_list_pop_2 _ _)
  (MeetsSeq.list_pop_at l its.toArray n i t k w (fitsIndex_both h1 h2) (by rw[List.size_toArray, ←hl];exact hk) (by rw[←Array.getElem?_toList];exact hw) (by rw[List.size_toArray];omega)) ⟨e,?_⟩
 refine⟨y,_,I.lset (its':=its.eraseIdx k) hH e ?_ (r.eraseIdx k) ?_,rw',q⟩
 ·show its.toArray.eraseIdxIfInBounds k=(its.eraseIdx k).toArray
  rw[List.eraseIdxIfInBounds_toArray]
 ·have:=KZ xs k
  omega
noncomputable def Nq:R2:=λx y H Q=>∃ l b xs zs,x= .ref l/\y= .ref b/\H l=some (.lst xs)/\H b=some (.lst zs)/\xs.length+zs.length<=sizeLine/\∀p,H p=none->Q (.ref p) (upd H p (.lst (xs++zs)))
theorem Ul:OpR X (binaryOp .Add) Nq:=by
 intro pins s σ H x y v u Q I rx ry h
 obtain⟨l,b,xs,zs,rfl,rfl,hH,hB,hz,q⟩:=h
 cases rx
 cases ry
 obtain⟨z,its,n,r,hl,e⟩:=I.lstM hH
 obtain⟨z2,its2,n2,r2,hl2,e2⟩:=I.lstM hB
 refine PySem.P.add_list e e2 ?_ (by rw[List.size_toArray,List.size_toArray];omega)
 have ea:its.toArray++its2.toArray=(its++its2).toArray:=by simp
 rw[ea]
 exact⟨.ref _,_,I.lnew (t':=s.toks) (r.append r2) (by rw[List.length_append];omega),rfl,q _ I.fresh⟩
noncomputable def Np:R2:=λx y H Q=>∃ l k xs,x= .ref l/\y= .int k/\H l=some (.lst xs)/\ -(2^63)<=k/\k<2^63/\xs.length*k.toNat<=sizeLine/\
 ∀p,H p=none->Q (.ref p) (upd H p (.lst (List.replicate k.toNat xs).flatten))
theorem Ik {α:Type}(xs:List α)(k:Nat):(List.replicate k xs).flatten.length=k*xs.length:=by
 induction k with
 |zero=>simp
 |succ k ih=>rw[List.replicate_succ,List.flatten_cons,List.length_append,ih,Nat.succ_mul,Nat.add_comm]
theorem J6:OpR X (binaryOp .Mult) Np:=by
 intro pins s σ H x y v u Q I rx ry h
 obtain⟨l,k,xs,rfl,rfl,hH,h1,h2,hz,q⟩:=h
 cases rx
 obtain⟨t,rfl⟩:=ry
 obtain⟨z,its,n,r,hl,e⟩:=I.lstM hH
 have hlen:its.toArray.size*k.toNat<=sizeLine:=by rw[List.size_toArray, ←hl];exact hz
 have hcap:¬its.toArray.size*k.toNat > (2^63-1)/8:=by
  have:(sizeLine:Nat)<=(2^63-1)/8:=by decide
  omega
 have hfit:¬(!Builtin.List.listFitsIndex k)=true:=by
  rw[fitsIndex_both h1 h2]
  exact Bool.false_ne_true
 have hlong:¬Builtin.List.listTooLong (its.toArray.size*k.toNat)=true:=by
  rw[F8 hlen]
  exact Bool.false_ne_true
 have hnew:List.foldl (λx1 x2=>x1++x2) #[] (List.replicate (if its.toArray.isEmpty=true then 0 else k.toNat) its.toArray)=(List.replicate k.toNat its).flatten.toArray:=by
  have f0:∀m:Nat,List.foldl (λx1 x2=>x1++x2) #[] (List.replicate m its.toArray)=(List.replicate m its).flatten.toArray:=λm=>by
   have:=Kz its m []
   rw[List.nil_append] at this
   exact this
  rw[f0]
  cases its with
  |nil=>simp
  |cons a r'=>rw[if_neg (by simp)]
 refine wpAny_binaryOp_repeat_ref (T:="list") (U:="int") (by decide) ⟨_,e,rfl⟩ (λs'=>typeIs_int s' k t) noFill_list_mul F.fills_int_mul F.slot_int_rmul repeat_list F.slot_int_index.lookup
  (call_meets F.slot_int_rmul (typeIs_int s k t) F.entry_int_rmul (F.args_int_rmul_2 _ _) (int___rmul___int_list k t l its.toArray n)
   ⟨e,rfl,⟨_,e,rfl⟩,call_meets F.slot_list_mul ⟨_,e,rfl⟩ F.entry_list_mul (F.args_list_mul_2 _ _) (AutoListH.list___mul___list_int_3 l its.toArray n k t hfit hcap hlong) ⟨e,?_⟩⟩)
 rw[hnew]
 exact⟨.ref _,_,I.lnew (t':=s.toks) (r.rep k.toNat) (by rw[Ik,Nat.mul_comm];exact hz),rfl,q _ I.fresh⟩
end
section
variable {prog:Program}{w:World}{A:Around}{E:Value->Shared->Prop}{s:Shared}
end
section
variable {X:Cx}
end
end L2
namespace Att
open PySem PySem.W PySem.Calls PyProof.Rows
theorem Uj {P:Params}{h:Heap}:∀(ns:List Int) (vs:List Value),WellAll P h vs (ns.map WData.int)->IntsAre vs ns:=by
 intro ns
 induction ns with
 |nil=>
  intro vs w
  rw[List.map_nil] at w
  cases w
  exact .nil
 |cons n ns ih=>
  intro vs w
  rw[List.map_cons] at w
  cases w with
  |cons a b=>
   cases a
   exact .cons _ _ (ih _ b)
theorem Bq {l:OpenLaw}{n:Nat}(hn:l.most=some n){P:Params}{h:Heap}{args:List WData}{vals:List Value}
  (hpre:l.row.toRowW.claim.pre args=true)(hwl:WellAll P h vals args):
  ∃a vs ns,vals=[Value.ref a]/\args=[WData.list (ns.map WData.int)]/\h.get? a=some {cls:=.type "list",data:=.seq vs.toArray}/\IntsAre vs ns/\ns.length<=n:=by
 have hsh:WShape.hasAll [] args [.list .int]=true:=(pre_splitW hpre).1
 have hc:l.pre.holds [] {args:=args}=true:=(pre_splitW hpre).2
 obtain⟨d,r,rfl,h1,h2⟩:=hasAllW_cons hsh
 obtain rfl:=hasAllW_nil h2
 obtain⟨xs,rfl,h3⟩:=hasW_list h1
 obtain⟨ns,rfl⟩:=items_int h3
 have hlen:ns.length<=n:=by
  unfold OpenLaw.pre at hc
  have h4:(WTm.not (.lt (.lit (.int (n:Int))) (.len (.arg 0)))).holds [] {args:=[.list (ns.map .int)]}=true:=by
   have h4:=(holds_andW hc).1
   rw[hn] at h4
   exact h4
  have h5:=condW_of h4 (w_not (w_lt w_lit (w_len_list (w_arg rfl))))
  rw[List.length_map] at h5
  refine Nat.le_of_not_lt λq=>?_
  have q':(n:Int)<((ns.length:Nat):Int):=by omega
  first
   | (rw[decide_eq_true q'] at h5;exact absurd h5 (by decide))
   | (simp at h5;omega)
 cases hwl with
 |cons w1 w2=>
  cases w2
  cases w1 with
  |list ho hall=>exact⟨_,_,ns,rfl,rfl,ho,Uj ns _ hall,hlen⟩
theorem BB (l:OpenLaw)(args:List WData):l.row.toRowW.claim.post args (.bool true) args=true:=
 postW_of (r:=l.row.toRowW) (X:=(true==true))
  (show WShape.has [] (.bool true) .bool=true by first |rfl |decide |simp[WShape.has,WShape.arms,WShape.armsAll])
  (show(WTm.eq .res (.lit (.bool true))).value [] {args:=args,res:=some (.bool true),after:=args}=some (.bool (true==true)) from w_eq_bool (w_res rfl) w_lit) rfl
theorem attach_call {l:OpenLaw}{n:Nat}{q:Program}{loose:List Str}{XP:(Str->Option Value)->Heap->Prop}{YP:World->Heap->Prop}{d:DefRec}
  (hn:l.most=some n)(hdf:d.params.defaults=[])
  (call:∀(w:World) (s₀ s₁:Shared) (mg mb:Str->Option Value) (fa:Addr) (o:Obj) (pm cd doc:Value) (a:Addr) (vs:List Value) (ns:List Int),
   Ground q loose [] XP w s₀ mg mb s₁.heap->YP w s₁.heap->
   s₁.heap.get? fa=some o->o.data= .func (docDef d.name d.params d.body d.scope pm cd doc)->s₁.heap.CodeRec cd d.name->mg d.name=some (.ref fa)->
   s₁.heap.get? a=some {cls:=.type "list",data:=.seq vs.toArray}->IntsAre vs ns->ns.length<=n->s₁.gens= #[]->
   codeAny (model l.prog w) callerA (.call (.ref fa) ⟨[.ref a],[]⟩) (λr s'=>r= .ok (.ret (.bool true))/\OldK s₁.heap s'.heap/\s'.os=s₁.os/\AllBare s'.gens) s₁):
  WalkO q loose XP YP l.row.toRowW d [] (λf vs=>PySem.call f vs):=by
 intro w s₀ s₁ mg mb G Y fa o pm cd doc dV kV ho hd hcd hD hmg hg args vals as hpre hlay hrd hwl hlo
 obtain rfl:dV= .none:=Dflts.none hD hdf
 obtain rfl:kV= .none:=Dflts.noKw hD
 obtain⟨a,vs,ns,rfl,rfl,hobj,hints,hlen⟩:=Bq hn hpre hwl
 refine enter_call (codeAny_mono (call w s₀ s₁ mg mb fa o pm cd doc a vs ns G Y ho (fd_plain hd) hcd hmg hobj hints hlen hg) λr s' hq=>?_)
 obtain⟨rfl,h2,h3,h4⟩:=hq
 exact⟨.inl ⟨.bool true, .bool true,[],rfl,λ_=>rfl, .bool true,BB l _,λ_=>⟨List.Pairwise.nil,λ_ hm=>(nomatch hm)⟩⟩,h2,h3,h4⟩
section
variable {prog:Program}{w:World}{A:Around}{E:Value->Shared->Prop}{s:Shared}{K:Frag}
noncomputable def Nh (h:Heap)(L d:Addr):List (Addr×Obj):=(List.range h.objs.size).filterMap λa=>if a=L∨a=d then none else(h.get? a).map λo=>(a,o)
end
end Att
namespace L2
open PySem PySem.Spec PyProof.Rows
theorem BL:∀{vs:List Value}{ns:List Int},IntsAre vs ns->Yv (ns.map V.int) vs:=λp=>by
 induction p with
 |nil=>exact .nil
 |cons n t _ ih=>exact .cons ⟨t,rfl⟩ ih
noncomputable def Nb (H:Hp):Prop:=∀ b,H b=none∨∃o xs,H b=some (.frz o (.lst xs))
theorem E8 {P:Program}{w:World}{K:PySem.W.Frag}{mg mb:Str->Option Value}{CX:CXT}{k:Nat}{fa a:Addr}{fd:FuncData}{x:Str}{sp:Sp}{s₁:Shared}{vs:List Value}{ns:List Int}
  (KX:K.In s₁.heap)(hns:s₁.heap.Ns mainGlobals mg)(hb:s₁.heap.Ns builtinsNs mb)(hbb:∀x:Str,x≠ "__name__" ->mb x=bootBuiltins x)(hlim:s₁.heap.NoLimit)(hg:s₁.gens= #[])
  (ha:s₁.heap.get? a=some {cls:=.type "list",data:=.seq vs.toArray})(hi:IntsAre vs ns)(hl:ns.length<=sizeLine)(hr:Room k callerA)
  (F:∀base:Heap,K.In base->base.Ns mainGlobals mg->FnOk P w K mg base CX k fa fd [x] sp)(hbind:∀(s:Shared) (u:Value),BindsTo s fd ⟨[u],[]⟩ [(x,u)])
  (hsp:∀H:Hp,Nb H->SqL K H a (ns.map V.int)->sp [.ref a] H (λv _=>v= .bl true) λ_ _ _=>False)
  (hCX:∀H e s',CX [] H s₁ (λ_ _ _=>False) e s'->False):
  codeAny (model P w) callerA (.call (.ref fa) ⟨[.ref a],[]⟩) (λr s'=>r= .ok (.ret (.bool true))/\OldK s₁.heap s'.heap/\s'.os=s₁.os/\AllBare s'.gens) s₁:=by
 have rv:=BL hi
 have lenV:=hi.length
 -- from an abstract heap in which nothing but the script may be tracked
 have core:∀H:Hp,Nb H->SqL K H a (ns.map V.int)->HOk P w H s₁.heap->(∀b,H b≠none->b=a)->(H a≠none->K.lookup a=none)->
   codeAny (model P w) callerA (.call (.ref fa) ⟨[.ref a],[]⟩) (λr s'=>r= .ok (.ret (.bool true))/\OldK s₁.heap s'.heap/\s'.os=s₁.os/\AllBare s'.gens) s₁:=by
  intro H hO hS hok hA hK
  have base_of:∀{b:Addr}{o:Obj},s₁.heap.get? b=some o->H b=none->(B9 s₁.heap H).get? b=some o:=λe n=>Fo e n
  have noA:∀{b:Addr}{o:Obj}{es:Array DictEntry}{ep:Nat},s₁.heap.get? b=some o->o.data= .dict es ep->H b=none:=fun {b o es ep} e d=>by
   cases q:H b with
   |none=>rfl
   |some u=>
    have e':b=a:=hA b (by rw[q];simp)
    subst e'
    rw[ha] at e;cases e
    have d':Data.seq vs.toArray _=Data.dict es ep:=d
    cases d'
  have nsK:∀{b:Addr}{m:Str->Option Value},s₁.heap.Ns b m->(B9 s₁.heap H).Ns b m:=fun {b m} ⟨o,es,ep,e,d,r⟩=>⟨o,es,ep,base_of e (noA e d),d,r⟩
  have hKb:K.In (B9 s₁.heap H):=λb o e=>base_of (KX b o e) (by
   cases q:H b with
   |none=>rfl
   |some u=>
    have e':b=a:=hA b (by rw[q];simp)
    subst e'
    rw[hK (by rw[q];simp)] at e;cases e)
  have hM:Mod K mg (B9 s₁.heap H):=⟨hKb,nsK hns,⟨mb,nsK hb,hbb⟩,let ⟨mc,h1,h2⟩:=hlim;⟨mc,nsK h1,h2⟩⟩
  have e0:Env0 P w K mg (B9 s₁.heap H) callerA [] s₁ H:=⟨rfl,hM,λb o e=>IV e,Nat.le_of_eq (CW _ _),trivial,λb hb=>absurd (show b∈([]:List Addr) from hb) (by simp),hok, .of_eq hg⟩
  refine codeAny_mono ((F _ hKb (nsK hns)).run callerA [] s₁ H ⟨[.ref a],[]⟩ [.ref a] [.ref a] _ _ hr e0 (hbind s₁ (.ref a)) (.cons rfl .nil) (hsp H hO hS)) λr s' h=>?_
  cases r with
  |error e=>exact(hCX H e s' h).elim
  |ok fl=>
   cases fl with
   |next=>exact False.elim h
   |brk=>exact False.elim h
   |cont=>exact False.elim h
   |ret u=>
    obtain⟨v,H',os,bare,un,hok',r',q⟩:=h
    have q':v= .bl true:=q
    subst q'
    obtain rfl:u=Value.bool true:=r'
    refine⟨rfl,OldK.of_keep λb o e=>?_,os,bare⟩
    cases q:H b with
    |none=>exact un.keep b o e q (by intro z;exact absurd (show b∈([]:List Addr) from z) (by simp)) (by simp)
    |some u=>
     rcases hO b with z | ⟨ob,xs,z⟩
     ·rw[q] at z;cases z
     ·have z2:=un.frzs b ob _ z
      obtain⟨e1,_⟩:=hok b _ z
      obtain⟨e2,_⟩:=hok' b _ z2
      rw[e] at e1;cases e1
      exact e2
 cases hk:K.lookup a with
 |some o=>
  -- the script is one of the module's own objects
  have e:=KX a o hk
  rw[ha] at e
  cases e
  refine core (λ_=>none) (λ_=>.inl rfl) (.inr ⟨_,vs.toArray,_,hk,rfl,rfl,rfl,by rw[List.size_toArray,lenV];exact hl,by simpa using rv⟩) (λb u z=>by have z':(none:Option HO)=some u:=z;cases z') (λb z=>absurd rfl z) λz=>absurd rfl z
 |none=>
  refine core (λb=>if b=a then some (.frz {cls:=.type "list",data:=.seq vs.toArray} (.lst (ns.map V.int))) else none) (λb=>?_) (.inl (.inr ⟨{cls:=.type "list",data:=.seq vs.toArray},if_pos rfl⟩)) (λb u z=>?_) (λb z=>?_) λ_=>hk
  ·by_cases hb:b=a
   ·exact .inr ⟨_,_,if_pos hb⟩
   ·exact .inl (if_neg hb)
  ·by_cases hb:b=a
   ·have z':=(if_pos hb).symm.trans z
    cases z'
    subst hb
    exact⟨ha,by rw[List.length_map];exact hl,vs,_,rv,ha⟩
   ·have z':=(if_neg hb).symm.trans z
    cases z'
  ·by_cases hb:b=a
   ·exact hb
   ·exact absurd (if_neg hb) z
theorem HH {l:PySem.W.OpenLaw}{n k:Nat}{q:Program}{loose:List Str}{XP:(Str->Option Value)->Heap->Prop}{YP:World->Heap->Prop}{d:DefRec}{K:Params->PySem.W.Frag}{CX:World->CXT}{sp:World->Sp}{x:Str}
  (hn:l.most=some n)(hn2:n<=sizeLine)(hdf:d.params.defaults=[])(hr:Room k callerA)
  (hY:∀(w:World) (h:Heap),YP w h->(K w.params).In h)
  (F:∀(w:World) (mg:Str->Option Value) (fa:Addr) (h:Heap),(K w.params).In h->h.Ns mainGlobals mg->mg d.name=some (.ref fa)->
   ∃fd:FuncData,(∀(s:Shared) (u:Value),BindsTo s fd ⟨[u],[]⟩ [(x,u)])/\
    ∀base:Heap,(K w.params).In base->base.Ns mainGlobals mg->FnOk l.prog w (K w.params) mg base (CX w) k fa fd [x] (sp w))
  (hsp:∀(w:World) (H:Hp) (a:Addr) (ns:List Int),ns.length<=n->Nb H->SqL (K w.params) H a (ns.map V.int)->sp w [.ref a] H (λv _=>v= .bl true) λ_ _ _=>False)
  (hCX:∀(w:World) (H:Hp) (s:Shared) (e:Value) (s':Shared),CX w [] H s (λ_ _ _=>False) e s'->False):
  PySem.W.WalkO q loose XP YP l.row.toRowW d [] (λf vs=>PySem.call f vs):=by
 refine Att.attach_call hn hdf λw s₀ s₁ mg mb fa o pm cd doc a vs ns G Y ho hd hcd hmg hobj hints hlen hg=>?_
 have KX:=hY w _ Y
 obtain⟨fd,hb,hF⟩:=F w mg fa _ KX G.T.g hmg
 exact E8 KX G.T.g G.T.b G.T.builtins G.T.nolimit hg hobj hints (Nat.le_trans hlen hn2) hr hF hb (λH hO hS=>hsp w H a ns hlen hO hS) λH e s'=>hCX w H s₁ e s'
noncomputable def Zb (s:Stmt):Arguments:=match s with
 | .FunctionDef _ a _ _ _ _ _ _ _ _=>a
 |_=>{posonlyargs:=[],args:=[],vararg:=none,kwonlyargs:=[],kw_defaults:=[],kwarg:=none,defaults:=[]}
noncomputable def YT (s:Stmt):List Stmt:=match s with
 | .FunctionDef _ _ b _ _ _ _ _ _ _=>b
 |_=>[]
noncomputable def Xk (s:Stmt):Scope:=match s with
 | .FunctionDef _ _ _ _ _ _ sc _ _ _=>sc
 |_=>{kind:=.function,names:=[],isGenerator:=false,isCoroutine:=false}
noncomputable abbrev CX0:CXT:=λ_ _ _ _ _ _=>False
noncomputable abbrev E0:XK:=λ_ _ _=>False
theorem M3 {X:Cx}:CF CX0 X E0:=λ_ _ _ _ _ _ _ h=>h.elim
structure Fun (K:PySem.W.Frag)(x qual:Str)(st:Stmt)(f:Addr)(fd:FuncData):Prop where
 ex:∃(oc:Value) (od:Option Addr) (kV doc pm:Value) (an:Option Addr) (cdv ct:Value) (osl:Array (Option Value)),
  fd=PySem.W.fnOf x qual (Zb st) (YT st) (Xk st) .none kV doc pm an cdv ct/\K.lookup f=some ⟨oc,od, .func fd,osl⟩/\PySem.W.codeIn K cdv qual=true
 kp:PySem.W.keepIn K (.ref f)=true
section
variable {P:Program}{w:World}{K:PySem.W.Frag}{mg:Str->Option Value}{base:Heap}
theorem Fun.ok {x qual:Str}{st:Stmt}{f:Addr}{fd:FuncData}{N ps:List Str}{k:Nat}{sp:Sp}(F:Fun K x qual st f fd)(S:FnScope N ps (Xk st))(len:∀vs H Q E,sp vs H Q E->vs.length=ps.length)
  (hbody:∀(cdv:Value) (A:Around) (outer:List Env) (s:Shared) (H:Hp) (vs:List V) (Q:VK) (E:XK),Room k (A.deeper (envOfC qual (Xk st) s.heap.objs.size f cdv))->sp vs H Q E->
   ∃t,PSs (Ib CX0 P w K mg base N qual (Xk st) f cdv A outer s H E).nox (YT st) t/\t {nx:=λ_ H'=>Q .non H',rt:=Q} (Kq N vs) H):FnOk P w K mg base CX0 (k+1) f fd ps sp:=by
 obtain⟨oc,od,kV,doc,pm,an,cdv,ct,osl,rfl,lk,hcd⟩:=F.ex
 refine MN lk hcd S len λA outer s H vs Q E hr hsp=>?_
 obtain⟨t,h,q⟩:=hbody cdv A outer s H vs Q E hr hsp
 exact⟨t,h.nox,q⟩
theorem Fun.binds {x qual:Str}{st:Stmt}{f:Addr}{fd:FuncData}{ps:List Str}(F:Fun K x qual st f fd)
  (h:∀(kV doc pm:Value) (an:Option Addr) (cdv ct:Value) (us:List Value),us.length=ps.length->bindArgs (PySem.W.fnOf x qual (Zb st) (YT st) (Xk st) .none kV doc pm an cdv ct) ⟨us,[]⟩=pure (ps.zip us)):Gy K fd ps []:=by
 obtain⟨oc,od,kV,doc,pm,an,cdv,ct,osl,rfl,lk,hcd⟩:=F.ex
 exact .all (h kV doc pm an cdv ct)
theorem QJ {x qual:Str}{st:Stmt}{f:Addr}{oc:Value}{od an:Option Addr}{osl:Array (Option Value)}{kV doc pm cdv ct:Value}(l:K.lookup f=some ⟨oc,od, .func (PySem.W.fnOf x qual (Zb st) (YT st) (Xk st) .none kV doc pm an cdv ct),osl⟩)
  (c:PySem.W.codeIn K cdv qual=true)(k:PySem.W.keepIn K (.ref f)=true):Fun K x qual st f (PySem.W.fnOf x qual (Zb st) (YT st) (Xk st) .none kV doc pm an cdv ct):=⟨⟨oc,od,kV,doc,pm,an,cdv,ct,osl,rfl,l,c⟩,k⟩
end
theorem Yo {A:Around}{k:Nat}(hr:Room k A):A.units+1<cLine:=Nat.lt_of_le_of_lt (Nat.add_le_add_left (by decide:1<=64) _) hr.units
theorem B2 {n:Nat}(h:n<=1000):n<sizeLine:=Nat.lt_of_le_of_lt h (by decide)
section
variable {X:Cx}
theorem pv (i:Nat){x:Str}{pos:Pos}(hN:X.N[i]?=some x:=by rfl)(hv:Vis X.env.scope x:=by first |exact Or.inl rfl |exact Or.inr (Or.inl rfl) |exact Or.inr (Or.inr rfl))(hd:(x==("__debug__":Str))=false:=by decide)
  (hcd:(x==("__classdict__":Str))=false:=by decide):PE X (.Name x pos) (Ks i):=LX hN hv hd hcd
end
noncomputable def XG (H H':Hp):Prop:=∀ b o,H b=some o->H' b=some o
theorem XG.refl (H:Hp):XG H H:=λ_ _ h=>h
theorem XG.trans {H H1 H2:Hp}(a:XG H H1)(b:XG H1 H2):XG H H2:=λc o h=>b c o (a c o h)
theorem XG.free {H H':Hp}(e:XG H H'){l:Addr}(h:H' l=Option.none):H l=Option.none:=by
 cases q:H l with
 |none=>rfl
 |some o=>
  rw[e l o q] at h
  cases h
theorem XG.seq {K:PySem.W.Frag}{H H':Hp}{a:Addr}{xs:List V}(e:XG H H')(h:SqL K H a xs):SqL K H' a xs:=by
 rcases h with(h | ⟨o,h⟩) |h
 ·exact .inl (.inl (e _ _ h))
 ·exact .inl (.inr ⟨o,e _ _ h⟩)
 ·exact .inr h
section
variable {κ:Type}[DecidableEq κ]
noncomputable def Gk (kvs:List (κ×V))(k:κ):Option V:=(kvs.find? λkv=>decide (kv.1=k)).map (·.2)
noncomputable def Ve (kvs:List (κ×V))(k:κ)(v:V):List (κ×V):=
 if(kvs.any λkv=>decide (kv.1=k))=true then kvs.map (λkv=>if kv.1=k then(kv.1,v) else kv) else kvs++[(k,v)]
noncomputable def Mk (kvs:List (κ×V))(k:κ):List (κ×V):=kvs.filter λkv=>decide (kv.1≠k)
theorem JF {p:κ×V}{r:List (κ×V)}{k:κ}(e:p.1=k):Gk (p::r) k=some p.2:=by simp[Gk,List.find?_cons,e]
theorem Jj {p:κ×V}{r:List (κ×V)}{k:κ}(e:¬p.1=k):Gk (p::r) k=Gk r k:=by simp[Gk,List.find?_cons,e]
theorem Fk (k:κ):∀kvs:List (κ×V),(kvs.any λkv=>decide (kv.1=k))=(Gk kvs k).isSome
 | []=>rfl
 |p::r=>by
  rw[List.any_cons]
  by_cases e:p.1=k
  ·simp only[JF e,decide_eq_true e,Bool.true_or,Option.isSome_some]
  ·rw[Jj e,decide_eq_false e,Bool.false_or];exact Fk k r
theorem VQ (kvs:List (κ×V))(k:κ)(v:V):(Ve kvs k v).length<=kvs.length+1:=by
 unfold Ve
 split
 ·rw[List.length_map];omega
 ·rw[List.length_append,List.length_cons,List.length_nil];omega
theorem Df.isSome_eq {o:Option V}{u:Option Value}(r:Df o u):o.isSome=u.isSome:=by
 cases o with
 |none=>cases u with
  |none=>rfl
  |some _=>exact(show False from r).elim
 |some _=>cases u with
  |none=>exact(show False from r).elim
  |some _=>rfl
theorem Df.getD {o:Option V}{u:Option Value}{d:V}{d':Value}(r:Df o u)(rd:Yy d d'):Yy (o.getD d) (u.getD d'):=by
 cases o with
 |none=>cases u with
  |none=>exact rd
  |some _=>exact(show False from r).elim
 |some _=>cases u with
  |none=>exact(show False from r).elim
  |some _=>exact r
theorem KV.val {kvs:List (κ×V)}{vs:List (κ×Value)}(r:KV kvs vs)(k:κ):Df (Gk kvs k) (valueAt vs k):=by
 unfold KV at r
 induction r with
 |nil=>exact True.intro
 | @cons p q ps qs h t ih=>
  obtain⟨h1,h2⟩:=h
  by_cases e:p.1=k
  ·have e':q.1=k:=h1.symm.trans e
   have b:valueAt (q::qs) k=some q.2:=by simp[valueAt,List.find?_cons,e']
   rw[JF e,b];exact h2
  ·have e':¬q.1=k:=λz=>e (h1.trans z)
   have b:valueAt (q::qs) k=valueAt qs k:=by simp[valueAt,List.find?_cons,e']
   rw[Jj e,b];exact ih
theorem KV.any {kvs:List (κ×V)}{vs:List (κ×Value)}(r:KV kvs vs)(k:κ):(kvs.any λkv=>decide (kv.1=k))=vs.any λkv=>decide (kv.1=k):=by
 unfold KV at r
 induction r with
 |nil=>rfl
 |cons h t ih=>rw[List.any_cons,List.any_cons,ih,h.1]
theorem KV.repl {kvs:List (κ×V)}{vs:List (κ×Value)}(r:KV kvs vs)(k:κ){y:V}{u:Value}(ry:Yy y u):
  KV (kvs.map λkv=>if kv.1=k then(kv.1,y) else kv) (vs.map λkv=>if kv.1=k then(kv.1,u) else kv):=by
 unfold KV at r⊢
 induction r with
 |nil=>exact .nil
 | @cons p q ps qs h t ih=>
  rw[List.map_cons,List.map_cons]
  refine .cons ?_ ih
  obtain⟨h1,h2⟩:=h
  by_cases e:p.1=k
  ·rw[if_pos e,if_pos (h1.symm.trans e)];exact⟨h1,ry⟩
  ·rw[if_neg e,if_neg (λz=>e (h1.trans z))];exact⟨h1,h2⟩
theorem KV.put {kvs:List (κ×V)}{vs:List (κ×Value)}(r:KV kvs vs)(k:κ){y:V}{u:Value}(ry:Yy y u):KV (Ve kvs k y) (stored vs k u):=by
 unfold Ve stored
 rw[r.any k]
 by_cases e:(vs.any λkv=>decide (kv.1=k))=true
 ·rw[if_pos e,if_pos e];exact r.repl k ry
 ·rw[if_neg e,if_neg e];exact Paired.snoc r ⟨rfl,ry⟩
theorem KV.drop {kvs:List (κ×V)}{vs:List (κ×Value)}(r:KV kvs vs)(k:κ):KV (Mk kvs k) (without vs k):=by
 unfold KV at r⊢
 unfold Mk without
 induction r with
 |nil=>exact .nil
 | @cons p q ps qs h t ih=>
  obtain⟨h1,h2⟩:=h
  rw[List.filter_cons,List.filter_cons]
  by_cases e:p.1=k
  ·have a:¬decide (p.1≠k)=true:=by simp[e]
   have b:¬decide (q.1≠k)=true:=by simp[h1.symm.trans e]
   rw[if_neg a,if_neg b];exact ih
  ·have e':¬q.1=k:=λz=>e (h1.trans z)
   have a:decide (p.1≠k)=true:=by simp[e]
   have b:decide (q.1≠k)=true:=by simp[e']
   rw[if_pos a,if_pos b];exact .cons ⟨h1,h2⟩ ih
theorem KV.keys {kvs:List (κ×V)}{vs:List (κ×Value)}(r:KV kvs vs):kvs.map (·.1)=vs.map (·.1):=by
 unfold KV at r
 induction r with
 |nil=>rfl
 |cons h t ih=>rw[List.map_cons,List.map_cons,ih,h.1]
theorem KV.length {kvs:List (κ×V)}{vs:List (κ×Value)}(r:KV kvs vs):kvs.length=vs.length:=Paired.length r
end
theorem E6 {P:Program}{w:World}{k:Key}{u:Value}(r:Yy (kV k) u):(YY P w).is k u=true:=by
 cases k with
 |inl i=>obtain⟨t,e⟩:=(show ∃t,u=Value.int i t from r);subst e;exact GK P w i t
 |inr x=>obtain⟨t,e⟩:=(show ∃t,u=Value.str x t from r);subst e;exact GW P w x t
theorem Kt {P:Program}{w:World}:∀{ks:List Key}{us:List Value},Yv (ks.map kV) us->ItemsAre (YY P w) ks us
 | [],_,r=>by rw[List.map_nil] at r;cases r;exact .nil
 |k::ks,_,r=>by
  rw[List.map_cons] at r
  cases r with
  |cons h t=>exact .cons (E6 h) (Kt t)
noncomputable abbrev KT (H:Hp):List (List Key×V)->List (List Key×Addr×Value)->Prop:=Paired λp q=>p.1=q.1/\H q.2.1=some (.tup (p.1.map kV))/\Yy p.2 q.2.2
theorem KT.val {H:Hp}{kvs:List (List Key×V)}{xs:List (List Key×Addr×Value)}(r:KT H kvs xs)(k:List Key):Df (Gk kvs k) ((atKey xs k).map (·.2)):=by
 induction r with
 |nil=>exact True.intro
 | @cons p q ps qs h t ih=>
  obtain⟨h1,_,h2⟩:=h
  by_cases e:p.1=k
  ·have e':q.1=k:=h1.symm.trans e
   have b:atKey (q::qs) k=some q.2:=by simp[atKey,List.find?_cons,e']
   rw[JF e,b];exact h2
  ·have e':¬q.1=k:=λz=>e (h1.trans z)
   have b:atKey (q::qs) k=atKey qs k:=by simp[atKey,List.find?_cons,e']
   rw[Jj e,b];exact ih
theorem KT.repl {H:Hp}{kvs:List (List Key×V)}{xs:List (List Key×Addr×Value)}(r:KT H kvs xs)(k:List Key){y:V}{u:Value}(ry:Yy y u):
  KT H (kvs.map λkv=>if kv.1=k then(kv.1,y) else kv) (xs.map (putAt k u)):=by
 induction r with
 |nil=>exact .nil
 | @cons p q ps qs h t ih=>
  rw[List.map_cons,List.map_cons]
  refine .cons ?_ ih
  obtain⟨h1,h2,h3⟩:=h
  unfold putAt
  by_cases e:p.1=k
  ·rw[if_pos e,if_pos (h1.symm.trans e)];exact⟨h1,h2,ry⟩
  ·rw[if_neg e,if_neg (λz=>e (h1.trans z))];exact⟨h1,h2,h3⟩
theorem KT.put {H:Hp}{kvs:List (List Key×V)}{xs:List (List Key×Addr×Value)}(r:KT H kvs xs)(k:List Key){b:Addr}{y:V}{u:Value}(hb:H b=some (.tup (k.map kV)))(ry:Yy y u):
  KT H (Ve kvs k y) (storedH xs k b u):=by
 have e:(kvs.any λkv=>decide (kv.1=k))=(atKey xs k).isSome:=by
  rw[Fk,(r.val k).isSome_eq,Option.isSome_map]
 unfold Ve storedH
 rw[e]
 by_cases q:(atKey xs k).isSome=true
 ·rw[if_pos q,if_pos q];exact r.repl k ry
 ·rw[if_neg q,if_neg q];exact Paired.snoc r ⟨rfl,hb,ry⟩
theorem KT.keeps {H H':Hp}{kvs:List (List Key×V)}{xs:List (List Key×Addr×Value)}(r:KT H kvs xs)(ht:∀b ys,H b=some (.tup ys)->H' b=some (.tup ys)):KT H' kvs xs:=
 Paired.mapP r λ_ _ z=>⟨z.1,ht _ _ z.2.1,z.2.2⟩
section
variable {P:Program}{w:World}{H:Hp}{h:Heap}{a:Addr}
theorem Mg {u:HO}(ok:HOk P w H h)(e:Rd H a u):Zg P w H h a u:=e.ok ok
theorem E3 {kvs:List (Key×V)}(ok:HOk P w H h)(e:Rd H a (.dK kvs)):kvs.length<=sizeLine/\(a==sysModules)=false/\∃vs,KV kvs vs/\h.DictOf (YY P w) a vs:=
 show Zg P w H h a (.dK kvs) from Mg ok e
theorem MM {kvs:List (Key×V)}(ok:HOk P w H h)(e:H a=some (.dK kvs)):kvs.length<=sizeLine/\(a==sysModules)=false/\∃vs,KV kvs vs/\h.DictOf (YY P w) a vs:=E3 ok (.inl e)
theorem Gg {ks:List Key}(ok:HOk P w H h)(e:H a=some (.tup (ks.map kV))):(tupleKind (YY P w)).is h ks a:=by
 obtain⟨_,its,r,o,h1,h2,n,h3⟩:=(show Zg P w H h a (.tup (ks.map kV)) from ok a _ e)
 exact⟨o,its.toArray,n,h1,h2.1,h3,by simpa using Kt r⟩
theorem ED {kvs:List (List Key×V)}(ok:HOk P w H h)(e:Rd H a (.dT kvs)):kvs.length<=sizeLine/\(a==sysModules)=false/\
  ∃xs,KT H kvs xs/\h.DictOfH (tupleKind (YY P w)) a xs:=by
 obtain⟨z,y,xs,r,o,es,ep,h1,h2,h3,h4,h5⟩:=(show Zg P w H h a (.dT kvs) from Mg ok e)
 refine⟨z,y,xs,r,o,es,ep,h1,h2,h3,h4,λx hx=>?_,h5⟩
 have all:∀{l:List (List Key×V)}{m:List (List Key×Addr×Value)},KT H l m->∀x∈m,(tupleKind (YY P w)).is h x.1 x.2.1:=by
  intro l m q
  induction q with
  |nil=>intro x hx;exact nomatch hx
  | @cons p q ps qs hq t ih=>
   intro x hx
   rcases List.mem_cons.mp hx with e |hx
   ·subst e
    exact Gg ok (by rw[←hq.1];exact hq.2.1)
   ·exact ih x hx
 exact all r x hx
theorem M8 {kvs:List (List Key×V)}(ok:HOk P w H h)(e:H a=some (.dT kvs)):kvs.length<=sizeLine/\(a==sysModules)=false/\
  ∃xs,KT H kvs xs/\h.DictOfH (tupleKind (YY P w)) a xs:=ED ok (.inl e)
end
noncomputable def EI (H:Hp)(a:Addr)(y:V)(r:Option V):Prop:=
 (∃kvs k,Rd H a (.dK kvs)/\y=kV k/\r=Gk kvs k)∨∃kvs k b,Rd H a (.dT kvs)/\y= .ref b/\H b=some (.tup (k.map kV))/\r=Gk kvs k
noncomputable def Lp (H:Hp)(a:Addr)(y v:V)(H':Hp):Prop:=
 (∃kvs k,H a=some (.dK kvs)/\y=kV k/\kvs.length<sizeLine/\H'=upd H a (.dK (Ve kvs k v)))∨
 ∃kvs k b,H a=some (.dT kvs)/\y= .ref b/\H b=some (.tup (k.map kV))/\kvs.length<sizeLine/\H'=upd H a (.dT (Ve kvs k v))
theorem EI.k {H:Hp}{a:Addr}{kvs:List (Key×V)}{k:Key}(e:H a=some (.dK kvs)):EI H a (kV k) (Gk kvs k):=.inl ⟨kvs,k, .inl e,rfl,rfl⟩
theorem EI.t {H:Hp}{a b:Addr}{kvs:List (List Key×V)}{k:List Key}(e:H a=some (.dT kvs))(eb:H b=some (.tup (k.map kV))):EI H a (.ref b) (Gk kvs k):=.inr ⟨kvs,k,b, .inl e,rfl,eb,rfl⟩
theorem Lp.k {H:Hp}{a:Addr}{kvs:List (Key×V)}{k:Key}{v:V}(e:H a=some (.dK kvs))(hl:kvs.length<sizeLine):Lp H a (kV k) v (upd H a (.dK (Ve kvs k v))):=.inl ⟨kvs,k,e,rfl,hl,rfl⟩
theorem Lp.t {H:Hp}{a b:Addr}{kvs:List (List Key×V)}{k:List Key}{v:V}(e:H a=some (.dT kvs))(eb:H b=some (.tup (k.map kV)))(hl:kvs.length<sizeLine):
  Lp H a (.ref b) v (upd H a (.dT (Ve kvs k v))):=.inr ⟨kvs,k,b,e,rfl,eb,hl,rfl⟩
section
variable {X:Cx}{pins:List (Addr×Obj)}{σ:St}{H:Hp}{s:Shared}{a:Addr}{y v:V}{u r:Value}{o:Option V}{A:Around}{E:Value->Shared->Prop}
theorem Inv.big (I:Inv X pins σ H s):sysModules<s.heap.objs.size:=by
 have h:mainGlobals<s.heap.objs.size:=(I.mod.glob.keeps I.bk).lt
 exact Nat.lt_trans (by decide) h
theorem DY {Q:Value->Shared->Prop}(hu:A.units+1<cLine)(I:Inv X pins σ H s)(g:EI H a y (some v))(ry:Yy y u)(h:∀w' s',Inv X pins σ H s'->Yy v w'->Q w' s'):
  wpAny (model X.prog X.w) A (getItem (.ref a) u) Q E s:=by
 rcases g with⟨kvs,k,e,ey,l⟩ | ⟨kvs,k,b,e,ey,eb,l⟩
 ·subst ey
  obtain⟨z,hd,vs,rel,dd⟩:=E3 I.hok e
  obtain⟨w',hw,rw'⟩:=Df.some_of (v:=v) (o:=valueAt vs k) (by rw[l];exact rel.val k)
  exact wpAny_getItem_of (E6 ry) dd.mapOf hw (h w' _ (I.tok _) rw')
 ·subst ey
  cases(show u=Value.ref b from ry)
  obtain⟨z,hd,xs,rel,dd⟩:=ED I.hok e
  obtain⟨w',hw,rw'⟩:=Df.some_of (v:=v) (o:=(atKey xs k).map (·.2)) (by rw[l];exact rel.val k)
  obtain⟨p,hp,hp2⟩:=Option.map_eq_some_iff.mp hw
  refine wpAny_getItem_heap (tupleKind_room_in1 hu) (Gg I.hok eb) dd hp ?_
  rw[hp2]
  exact h w' _ (I.tok _) rw'
theorem Ic {Q:Value->Shared->Prop}(hu:A.units+1<cLine)(I:Inv X pins σ H s)(g:EI H a y o)(ry:Yy y u)(h:∀s',Inv X pins σ H s'->Q (.bool (!o.isSome)) s'):
  wpAny (model X.prog X.w) A (compareOp .NotIn u (.ref a)) Q E s:=by
 rcases g with⟨kvs,k,e,ey,l⟩ | ⟨kvs,k,b,e,ey,eb,l⟩
 ·subst ey
  obtain⟨z,hd,vs,rel,dd⟩:=E3 I.hok e
  refine wpAny_notIn_of (E6 ry) hd dd.mapOf ?_
  rw[←(rel.val k).isSome_eq, ←l]
  exact h _ (I.tok _)
 ·subst ey
  cases(show u=Value.ref b from ry)
  obtain⟨z,hd,xs,rel,dd⟩:=ED I.hok e
  refine wpAny_notIn_heap (tupleKind_room_in1 hu) (Gg I.hok eb) hd dd ?_
  have q:=(rel.val k).isSome_eq
  rw[Option.isSome_map] at q
  rw[←q, ←l]
  exact h _ (I.tok _)
theorem DU {h':Heap}{t':Nat}{ob:HO}(I:Inv X pins σ H s)(mu:Mut (H a))(hs:Heap.SameBut a s.heap h')(he:∃q,h'.get? a=some q)(new:Zg X.prog X.w (upd H a ob) h' a ob):
  Inv X pins σ (upd H a ob) {s with heap:=h',toks:=t'}:=
 I.write (x:=a) (e:=a) mu (.inl rfl) (λb q hb z=>(hs.2 b hb).trans z) he new
theorem LM {P:Program}{w:World}{H':Hp}{h':Heap}{kvs:List (Key×V)}{vs:List (Key×Value)}(z:kvs.length<=sizeLine)(hd:(a==sysModules)=false)(rel:KV kvs vs)(dd:h'.DictOf (YY P w) a vs):
  Zg P w H' h' a (.dK kvs):=⟨z,hd,vs,rel,dd⟩
theorem CA {H':Hp}{Q:Unit->Shared->Prop}(hu:A.units+1<cLine)(I:Inv X pins σ H s)(g:Lp H a y v H')(ry:Yy y u)(rv:Yy v r)(h:∀s',Inv X pins σ H' s'->Q () s'):
  wpAny (model X.prog X.w) A (setItem (.ref a) u r) Q E s:=by
 rcases g with⟨kvs,k,e,ey,l,eH⟩ | ⟨kvs,k,b,e,ey,eb,l,eH⟩
 ·subst ey eH
  obtain⟨z,hd,vs,rel,dd⟩:=MM I.hok e
  have hz:vs.length<=sizeLine:=by rw[←rel.length];exact z
  have hl:(Ve kvs k v).length<=sizeLine:=by have:=VQ kvs k v;omega
  refine wpAny_setItem_pairs (hsz:=hz) (E6 ry) dd λh' dd' hs=>h _ ?_
  have he:∃q,h'.get? a=some q:=let ⟨q,_,_,hq,_⟩:=dd';⟨q,hq⟩
  exact DU I (by rw[e];exact True.intro) hs he (LM hl hd (rel.put k rv) dd')
 ·subst ey eH
  cases(show u=Value.ref b from ry)
  obtain⟨z,hd,xs,rel,dd⟩:=M8 I.hok e
  have hz:xs.length<=sizeLine:=by rw[←Paired.length rel];exact z
  have hl:(Ve kvs k v).length<=sizeLine:=by have:=VQ kvs k v;omega
  refine wpAny_setItem_heap (hsz:=hz) (tupleKind_room_in1 hu) (Gg I.hok eb) dd λh' dd' hs=>h _ ?_
  obtain⟨q,es,ep,hq,h2,h3,h4,_,h5⟩:=dd'
  refine DU I (by rw[e];exact True.intro) hs ⟨q,hq⟩ ⟨hl,hd,_,(rel.put k eb rv).keeps λc ys ec=>?_,q,es,ep,hq,h2,h3,h4,h5⟩
  rw[X3 (ML ec e (λz=>nomatch z))]
  exact ec
end
section
variable {X:Cx}{pins:List (Addr×Obj)}{σ:St}{H:Hp}{s:Shared}{a:Addr}{kvs:List (Key×V)}{k:Key}{u:Value}{A:Around}{E:Value->Shared->Prop}
end
noncomputable def Nn (i:Expr):Prop:=∀ ov iv,subscripted i false ov iv=operate [ov,iv] (getItem ov iv)
theorem IR {prog:Program}{w:World}{A:Around}{E:Value->Shared->Prop}{s:Shared}{env:Env}{value slice:Expr}{pos:Pos}{T id:String}{Q:Value->Shared->Prop}
  (hl:typeLookup (.type T) "__getitem__" =pure (some (.builtin id)))(hs:Nn slice)
  (h:wpAny (model prog w) A (eval value env) (λo s₁=>wpAny (model prog w) A (eval slice env) (λi s₂=>s₂.TypeIs o T/\wpAny (model prog w) A (getItem o i) Q E s₂) E s₁) E s):
  wpAny (model prog w) A (eval (.Subscript value slice pos) env) Q E s:=by
 refine Subscript_ (wpAny_mono h (λo s₁ h₁=>wpAny_mono h₁ (λi s₂ h₂=>?_) λ_ _ x=>x) λ_ _ x=>x)
 obtain⟨hT,h₂⟩:=h₂
 unfold subscriptTail
 refine wpAny_bind ?_
 rw[getitemInPython_of_ne hT.not_modules]
 refine wpAny_bind (wpAny_specialOf hT hl ?_)
 have fin:wpAny (model prog w) A (subscripted slice false o i) (λr s₃=>wpAny (model prog w) A (letTemporaryGo value o r >>= λ_=>pure r) Q E s₃) E s₂:=by
  rw[hs o i]
  exact wpAny_operating (wpAny_mono h₂ (λr s₃ h₃=>wpAny_bind (wpAny_letTemporaryGo (wpAny_pure h₃))) λ_ _ x=>x)
 first
  |exact wpAny_pure (wpAny_bind fin)
  |exact wpAny_bind (wpAny_pure (wpAny_bind fin))
  |exact wpAny_bind fin
theorem GN {X:Cx}{pins:List (Addr×Obj)}{σ:St}{H:Hp}{s:Shared}{a:Addr}{y:V}{o:Option V}(I:Inv X pins σ H s)(g:EI H a y o):s.TypeIs (.ref a) "dict":=by
 rcases g with⟨kvs,k,e,_,_⟩ | ⟨kvs,k,b,e,_,_,_⟩
 ·obtain⟨_,_,vs,_,dd⟩:=E3 I.hok e
  exact dd.typeIs
 ·obtain⟨_,_,xs,_,dd⟩:=ED I.hok e
  exact dd.typeIs
noncomputable def LE (td ty:TE):TE:=λσ H Q=>td σ H λx H1=>ty σ H1 λy H2=>∃ a v,x= .ref a/\EI H2 a y (some v)/\Q v H2
noncomputable def Br (ty td:TE):TE:=λσ H Q=>ty σ H λy H1=>td σ H1 λx H2=>∃ a o,x= .ref a/\EI H2 a y o/\Q (.bl (!o.isSome)) H2
noncomputable def HS (td ty tv:TE):TS:=λD σ H=>tv σ H λv H1=>td σ H1 λx H2=>ty σ H2 λy H3=>∃ a H4,x= .ref a/\Lp H3 a y v H4/\D.nx σ H4
section
variable {X:Cx}{o i e value:Expr}{pos pos' tpos:Pos}{td ty tv:TE}
theorem GX (hu:X.A.units+1<cLine)(ho:PE X o td)(hi:PE X i ty)(hs:Nn i):PE X (.Subscript o i pos) (LE td ty):=by
 intro pins s σ H Q I h
 refine IR PySem.F.slot_dict_getitem.lookup hs (thn (ho pins s σ H _ I h) λu s1 ⟨x,H1,I1,rx,q1⟩=>thn (hi pins s1 σ H1 _ I1 q1) λiv s2 r9=>?_)
 obtain⟨y,H2,I2,ry,a,v,ex,g,q2⟩:=r9
 subst ex
 obtain rfl:u=Value.ref a:=rx
 exact⟨GN I2 g,DY hu I2 g ry λw' s3 I3 rw'=>⟨v,H2,I3,rw',q2⟩⟩
theorem Cm (hu:X.A.units+1<cLine)(hi:PE X i ty)(ho:PE X o td):PC X .NotIn i o (Br ty td):=by
 intro pins s σ H Q I h
 refine thn (hi pins s σ H _ I h) λiv s1 ⟨y,H1,I1,ry,q1⟩=>thn (ho pins s1 σ H1 _ I1 q1) λu s2 r9=>?_
 obtain⟨x,H2,I2,rx,a,ov,ex,g,q2⟩:=r9
 subst ex
 obtain rfl:u=Value.ref a:=rx
 exact Ic hu I2 g ry λs3 I3=>⟨.bl (!ov.isSome),H2,I3,rfl,q2⟩
theorem Bd (hu:X.A.units+1<cLine)(ho:PE X o td)(hi:PE X i ty)(hv:PE X value tv)(hs:swapsWith value (some (.Subscript o i pos')) pos.line X.env=pure false):
  PS X (.Assign [.Subscript o i pos'] value pos) (HS td ty tv):=by
 intro pins s σ H D I h
 refine wpAny_Assign_Subscript (thn (hv pins s σ H _ I h) λr s1 ⟨v,H1,I1,rv,q1⟩=>thn (ho pins s1 σ H1 _ I1 q1) λu s2 ⟨x,H2,I2,rx,q2⟩=>thn (hi pins s2 σ H2 _ I2 q2) λiv s3 r9=>?_) hs
 obtain⟨y,H3,I3,ry,a,H4,ex,g,q3⟩:=r9
 subst ex
 obtain rfl:u=Value.ref a:=rx
 exact CA hu I3 g ry rv λs4 I4=>⟨σ,H4,I4,q3⟩
end
theorem EB {P:Program}{w:World}{H:Hp}(h:Heap)(hb:sysModules<h.objs.size):Zg P w H (h.push {cls:=.type "dict",data:=.dict #[]}) h.objs.size (.dK []):=
 ⟨Nat.zero_le _,beq_eq_false_iff_ne.mpr (Ne.symm (Nat.ne_of_lt hb)),[], .nil,Heap.DictOf.new h⟩
theorem Ek {P:Program}{w:World}{H:Hp}(h:Heap)(hb:sysModules<h.objs.size):Zg P w H (h.push {cls:=.type "dict",data:=.dict #[]}) h.objs.size (.dT []):=
 ⟨Nat.zero_le _,beq_eq_false_iff_ne.mpr (Ne.symm (Nat.ne_of_lt hb)),[], .nil,_, #[],0,Heap.get?_push_size _ rfl,⟨rfl,rfl,rfl⟩,rfl,rfl,List.nodup_nil⟩
noncomputable def Hr:TE:=λ_ H Q=>∀ p,H p=none->Q (.ref p) (upd H p (.dK []))
noncomputable def Ho:TE:=λ_ H Q=>∀ p,H p=none->Q (.ref p) (upd H p (.dT []))
section
variable {X:Cx}{pos:Pos}
theorem EY:PE X (.Dict [] [] pos) Hr:=λpins s σ H Q I h=>
 wpAny_Dict_empty ⟨.ref s.heap.objs.size,_,I.laid (a:=s.heap.objs.size) (o:=.dK []) (t':=s.toks) (λ_ _ q=>Heap.get?_push_of_some _ q) (Nat.le_refl _) (EB s.heap I.big),rfl,h _ (I.hok.fresh (Nat.le_refl _))⟩
theorem Ef:PE X (.Dict [] [] pos) Ho:=λpins s σ H Q I h=>
 wpAny_Dict_empty ⟨.ref s.heap.objs.size,_,I.laid (a:=s.heap.objs.size) (o:=.dT []) (t':=s.toks) (λ_ _ q=>Heap.get?_push_of_some _ q) (Nat.le_refl _) (Ek s.heap I.big),rfl,h _ (I.hok.fresh (Nat.le_refl _))⟩
end
section
variable {X:Cx}{pins:List (Addr×Obj)}{σ:St}{H:Hp}{s:Shared}{a:Addr}{y d:V}{u r:Value}{o:Option V}{A:Around}{E:Value->Shared->Prop}
end
section
variable {X:Cx}{o e f:Expr}{apos cpos:Pos}{td ty tx:TE}
end
section
variable {X:Cx}{pins:List (Addr×Obj)}{σ:St}{H:Hp}{s:Shared}{a:Addr}{kvs:List (Key×V)}{A:Around}{E:Value->Shared->Prop}
end
section
variable {X:Cx}{pins:List (Addr×Obj)}{σ:St}{H:Hp}{s:Shared}{a:Addr}{y:V}{u:Value}{A:Around}{E:Value->Shared->Prop}
end
section
variable {X:Cx}
end
section
variable {κ:Type}[DecidableEq κ]
end
theorem BM {env:Env}:∀(names:List (Str×NameKind)),(∀x∈names,x.2=NameKind.free->∃c,env.cells.lookup x.1=some c)->
  ∀cs:List (Str×Addr),(∀x c,cs.lookup x=some c->env.cells.lookup x=some c)->
  ∃cl:List (Str×Addr),(forIn names cs (λ(x:Str×NameKind) (r:List (Str×Addr))=>(if(x.2==NameKind.free)=true then do let a ←cellOf env x.1;pure (ForInStep.yield ((x.1,a)::r)) else pure (ForInStep.yield r):Sem (ForInStep (List (Str×Addr))))))=(pure cl:Sem (List (Str×Addr)))/\
   (∀x c,cl.lookup x=some c->env.cells.lookup x=some c)/\(∀x,((x,NameKind.free)∈names∨∃c,cs.lookup x=some c)->∃c,cl.lookup x=some c)
 | [],_,cs,hs=>⟨cs,by rw[List.forIn_nil],hs,λx h=>h.elim (λz=>nomatch z) id⟩
 | (n,k)::r,hf,cs,hs=>by
  have hr:∀x∈r,x.2=NameKind.free->∃c,env.cells.lookup x.1=some c:=λx hx=>hf x (List.mem_cons_of_mem _ hx)
  by_cases hk:k=NameKind.free
  ·subst hk
   obtain⟨a,ha⟩:=hf (n,NameKind.free) List.mem_cons_self rfl
   have hs':∀x c,((n,a)::cs).lookup x=some c->env.cells.lookup x=some c:=λx c h=>by
    rw[List.lookup_cons] at h
    by_cases hx:x=n
    ·subst hx
     simp only[beq_self_eq_true] at h
     rw[←h];exact ha
    ·have:(x==n)=false:=beq_eq_false_iff_ne.mpr hx
     rw[this] at h
     exact hs x c h
   obtain⟨cl,e,h1,h2⟩:=BM r hr ((n,a)::cs) hs'
   refine⟨cl,?_,h1,λx h=>h2 x ?_⟩
   ·rw[List.forIn_cons]
    have e1:cellOf env n=pure a:=by unfold cellOf;rw[show env.cells.lookup n=some a from ha]
    simp only[beq_self_eq_true,if_true,e1]
    exact e
   ·rcases h with h | ⟨c,h⟩
    ·rcases List.mem_cons.mp h with h |h
     ·have:x=n:=congrArg Prod.fst h
      subst this
      exact .inr ⟨a,by rw[List.lookup_cons];simp⟩
     ·exact .inl h
    ·by_cases hx:x=n
     ·subst hx;exact .inr ⟨a,by rw[List.lookup_cons];simp⟩
     ·exact .inr ⟨c,by rw[List.lookup_cons,beq_eq_false_iff_ne.mpr hx];exact h⟩
  ·obtain⟨cl,e,h1,h2⟩:=BM r hr cs hs
   refine⟨cl,?_,h1,λx h=>h2 x ?_⟩
   ·rw[List.forIn_cons]
    have hb:(k==NameKind.free)=false:=by simpa using hk
    simp only[hb,Bool.false_eq_true,if_false]
    exact e
   ·rcases h with h |h
    ·rcases List.mem_cons.mp h with h |h
     ·exact absurd (congrArg Prod.snd h).symm hk
     ·exact .inl h
    ·exact .inr h
theorem D0 {scope:Scope}{env:Env}(hf:∀x∈scope.names,x.2=NameKind.free->∃c,env.cells.lookup x.1=some c):
  ∃cl:List (Str×Addr),closureFor scope env=pure cl/\(∀x c,cl.lookup x=some c->env.cells.lookup x=some c)/\(∀x,(x,NameKind.free)∈scope.names->∃c,cl.lookup x=some c):=by
 obtain⟨cl,e,h1,h2⟩:=BM scope.names hf [] (λx c h=>by simp at h)
 refine⟨cl,?_,h1,λx h=>h2 x (.inl h)⟩
 unfold closureFor
 show((forIn scope.names [] (λ(x:Str×NameKind) (r:List (Str×Addr))=>(if(x.2==NameKind.free)=true then do let a ←cellOf env x.1;pure (ForInStep.yield ((x.1,a)::r)) else pure (ForInStep.yield r):Sem (ForInStep (List (Str×Addr)))))) >>= λs=>pure s)=pure cl
 rw[e]
 rfl
theorem Jb {env:Env}:∀{names:List (Str×NameKind)}{x:Str}{k:NameKind},(∀y∈names,y.2≠NameKind.cell)->
  (names.map λ(n,k)=>if(k==NameKind.free&&env.scope.kind== .function&&env.kindOf n==some .cell) then(n,NameKind.cell) else(n,k)).lookup x=some k->(k= .cell∨k= .free)->(x,NameKind.free)∈names
 | [],_,_,_,h,_=>by simp at h
 | (n,kk)::r,x,k,hc,h,hk=>by
  have ih:=@Jb env r x k (λy hy=>hc y (List.mem_cons_of_mem _ hy))
  have hh:=hc (n,kk) List.mem_cons_self
  simp only[List.map_cons] at h
  by_cases hcond:(kk==NameKind.free&&env.scope.kind== .function&&env.kindOf n==some .cell)=true
  ·rw[if_pos hcond,List.lookup_cons] at h
   have hfree:kk=NameKind.free:=by
    rw[Bool.and_eq_true,Bool.and_eq_true] at hcond
    simpa using hcond.1.1
   cases hx:x==n with
   |true=>
    have:x=n:=by simpa using hx
    subst this;subst hfree
    exact List.mem_cons_self
   |false=>rw[hx] at h;exact List.mem_cons_of_mem _ (ih h hk)
  ·rw[if_neg hcond,List.lookup_cons] at h
   cases hx:x==n with
   |true=>
    rw[hx] at h
    have hkk:kk=k:=Option.some.inj h
    have:x=n:=by simpa using hx
    subst this;subst hkk
    rcases hk with z |z
    ·exact absurd z hh
    ·subst z;exact List.mem_cons_self
   |false=>rw[hx] at h;exact List.mem_cons_of_mem _ (ih h hk)
theorem J7 {env:Env}:∀{names:List (Str×NameKind)}{x:Str},names.lookup x=some .free->
  let l:=(names.map λ(n,k)=>if(k==NameKind.free&&env.scope.kind== .function&&env.kindOf n==some .cell) then(n,NameKind.cell) else(n,k))
  l.lookup x=some .cell∨l.lookup x=some .free
 | [],_,h=>by simp at h
 | (n,kk)::r,x,h=>by
  have ih:=@J7 env r x
  simp only[List.map_cons]
  rw[List.lookup_cons] at h
  by_cases hcond:(kk==NameKind.free&&env.scope.kind== .function&&env.kindOf n==some .cell)=true
  ·rw[if_pos hcond,List.lookup_cons]
   cases hx:x==n with
   |true=>exact .inl rfl
   |false=>rw[hx] at h;exact ih h
  ·rw[if_neg hcond,List.lookup_cons]
   cases hx:x==n with
   |true=>rw[hx] at h;exact .inr h
   |false=>rw[hx] at h;exact ih h
noncomputable abbrev Cx.comp (X:Cx)(N:List Str)(scope:Scope)(cl:List (Str×Addr))(C:Addr)(s:Shared)(H:Hp)(ex:List Addr)(E:Value->Shared->Prop):Cx:=
 {X with N:=N,s₀:=s,H₀:=H,env:=compEnvC scope cl C X.env,outer:=X.stack,ex:=ex,fn:=λ_=>false,pn:=[],xe:=E}
noncomputable def PTs (X:Cx)(ifs:List Expr)(t:TT):Prop:=
 ∀(pins:List (Addr×Obj)) (s:Shared) (σ:St) (H:Hp) (Q:Bool->Hp->Prop),Inv X pins σ H s->t σ H Q->
  wpAny (model X.prog X.w) X.A (forIn ifs true λc r=>if r=true then do let ok ←isTrue c X.env (eval c X.env);pure (ForInStep.yield ok) else pure (ForInStep.yield r)) (TP X pins σ Q) X.xe s
noncomputable def Kb:TT:=λ_ H Q=>Q true H
theorem LW {σ:St}{H:Hp}{A B:Hp->Prop}(h:A H):Kb σ H λc H5=>if c=true then A H5 else B H5:=by
 show if true=true then A H else B H
 rw[if_pos rfl]
 exact h
theorem Y0 {X:Cx}:PTs X [] Kb:=λ_ _ _ H _ I h=>wpAny_tests_nil ⟨H,I,h⟩
theorem G5 {X:Cx}{c:Expr}{t:TT}(h:PT X c t):PTs X [c] t:=λpins s σ H Q I hw=>wpAny_tests_one (h pins s σ H Q I hw)
noncomputable def UV (n:Nat)(g:TG):Prop:=∀ x σ H Q,g x σ H Q->g x σ H λσ2 H2=>Q σ2 H2/\σ2.length=σ.length/\∀i,n<=i->σ2[i]?=σ[i]?
theorem YI {n i:Nat}(h:i<n):UV n (Zx i):=λx σ H Q q=>⟨q,by simp,λj hj=>by rw[List.getElem?_set_ne (by lia)]⟩
noncomputable def Jz (n:Nat)(caps:List (Nat×Str))(σ:St):St:=List.replicate n none++caps.map λp=>(σ[p.1]?).join
noncomputable def IY (g:TG)(tt:TT)(te:TE)(σ:St)(Q:VK)(J:It)(W:Nat->Nat->List V->Hp->Prop):Prop:=
 ∀i m ys H2,W i m ys H2->ys.length<=sizeLine/\
  ((J.stop i H2/\∀p,H2 p=none->Q (.ref p) (upd H2 p (.lst ys)))∨
  (J.go i H2/\∃N:List V->Hp->Prop,(∀ys' H',N ys' H'->∃m',m'<m/\W (i+1) m' ys' H')/\∀x H3,J.yld i H2 x H3->g x σ H3 λσ4 H4=>tt σ4 H4 λc H5=>
   if c=true then te σ4 H5 λv H6=>N (ys++[v]) H6 else N ys H5))
noncomputable def Hk (n:Nat)(caps:List (Nat×Str))(g:TG)(tt:TT)(te:TE)(σ:St)(Q:VK)(J:It)(H1:Hp):Prop:=
 ∃W:Nat->Nat->List V->Hp->Prop,(∃m,W 0 m [] H1)/\IY g tt te (Jz n caps σ) Q J W
noncomputable def CO (n:Nat)(caps:List (Nat×Str))(wi:TI)(g:TG)(tt:TT)(te:TE):TE:=λσ H Q=>wi σ H λJ H1=>Hk n caps g tt te σ Q J H1
noncomputable def KB (sc scope:Scope)(N0 tns:List Str)(caps:List (Nat×Str)):Bool:=
 scope.kind== .function&&scope.names.all (λy=>!(y.2== .cell))&&scope.names.all (λy=>!(y.2== .local) || scope.names.lookup y.1==some .local)&&
 scope.names.all (λy=>!(y.2== .free) || sc.names.lookup y.1==some .cell)&&caps.all (λp=>N0[p.1]?==some p.2&&sc.names.lookup p.2==some .cell&&scope.names.lookup p.2==some .free)
theorem Fw {α:Type}{p:α}{P:Prop}(h:p∈([]:List α)):P:=nomatch h
noncomputable def Ml (M:Model)(A:Around)(elt tg:Expr)(ifs:List Expr)(acc:Value)(env:Env)(E:Value->Shared->Prop)(K:Shared->Prop)(v:Value)(s:Shared):Prop:=
 wpAny M A (assign tg env v) (λ_ s₂=>wpAny M A (forIn ifs true λc r=>if r=true then do let ok ←isTrue c env (eval c env);pure (ForInStep.yield ok) else pure (ForInStep.yield r)) (λok s₃=>
  if ok=true then wpAny M A (eval elt env) (λx s₄=>wpAny M A (call (.builtin "list.append") [acc,x]) (λ_ s₅=>K s₅) E s₄) E s₃ else K s₃) E s₂) E s
noncomputable def MU (M:Model)(A:Around)(elt tg:Expr)(ifs:List Expr)(it acc:Value)(env:Env)(E:Value->Shared->Prop)(Rn K:Shared->Prop)(s:Shared):Prop:=
 wpAny M A (pyNext it) (λr s₁=>r=none/\Rn s₁∨∃v,r=some v/\wpAny M A (letOwnedTupleGo tg it v) (λ_ s₁=>Ml M A elt tg ifs acc env E K v s₁) E s₁) E s
section
variable {prog:Program}{w:World}{A:Around}{R:Result->Shared->Prop}{s:Shared}
theorem Gi {elt target iter:Expr}{ifs:List Expr}{scope:Scope}{pos:Pos}{it acc:Value}{env:Env}{E:Value->Shared->Prop}(I:Nat->Shared->Prop)(hE:(notedBy (model prog w) A env λe s'=>R (.error e) s')=E)
  (turn:∀n s,I n s->MU (model prog w) A elt target ifs it acc env E (λs=>R (.ok .next) s) (λs=>∃ m,m<n/\I m s) s)(n:Nat)(h:I n s):
  codeAny (model prog w) A (.compLoop (.ListComp elt [⟨target,iter,ifs,0⟩] scope pos) 0 it acc env) R s:=by
 subst hE
 refine codeAny_loop rfl I (λn s hI=>?_) n h
 show wpAny _ A ((compTurn (.ListComp elt [⟨target,iter,ifs,0⟩] scope pos) 0 it acc env).onRaise (λx=>do noteFrame x env;theTreesLotGoes x)) _ _ s
 refine wpAny_noted ?_
 rw[compTurn_list]
 refine wpAny_bind (wpAny_standAt (wpAny_bind (thn (turn n s hI) λr s₁ h₁=>?_)))
 rcases h₁ with⟨rfl,h₁⟩ | ⟨v,rfl,h₁⟩
 ·exact wpAny_pure h₁
 ·refine wpAny_bind (thn h₁ λ_ s₁' h₁'=>wpAny_bind (thn h₁' λ_ s₂ h₂=>wpAny_bind (thn h₂ λok s₃ h₃=>?_)))
  cases ok with
  |false=>exact wpAny_pure ⟨rfl,h₃⟩
  |true=>exact wpAny_bind (wpAny_bind (thn h₃ λx s₄ h₄=>wpAny_bind (thn h₄ λ_ s₅ h₅=>wpAny_pure (wpAny_pure ⟨rfl,h₅⟩))))
end
noncomputable def lob (its:List Value)(k:Nat):Obj:={cls:=.type "list",data:=.seq (List.toArray its) k}
structure CIn (Y:Cx)(tn:Nat->Heap->Prop)(fp:List Addr)(D:Addr)(σ:St)(i:Nat)(H:Hp)(o:Obj)(s:Shared):Prop where
 I:Inv Y [] σ H s
 t:tn i s.heap
 f:∀b∈fp,H b=none
 l:s.heap.get? D=some o
 n:H D=none
inductive CI (Y:Cx)(tn:Nat->Heap->Prop)(fp:List Addr)(D:Addr)(σ:St)(W:Nat->Nat->List V->Hp->Prop)(m:Nat)(s:Shared):Prop
 |mk (i:Nat) (H:Hp) (ys:List V) (its:List Value) (k:Nat) (c:CIn Y tn fp D σ i H (lob its k) s) (r:Yv ys its) (w:W i m ys H)
structure CAt (Y:Cx)(fp:List Addr)(D:Addr):Prop where
 calm:Y.calm=true
 pn:Y.pn=[]
 ne:D≠Y.env.locals
 fs:D∉Y.fs
 sz:Y.s₀.heap.objs.size<=D
 cl:∀x c,Y.env.cells.lookup x=some c->c≠D
 fpn:∀b∈fp,b≠D
 ok:∀b∈fp,∀H:Hp,H b=none->Fq Y [] H b
section
variable {Y:Cx}{tn:Nat->Heap->Prop}{fp:List Addr}{D it:Addr}{σ:St}{tg elt iter:Expr}{ifs:List Expr}{J:It}{g:TG}{tt:TT}{te:TE}{n i:Nat}{H:Hp}{s:Shared}{o:Obj}{Kn:Shared->Prop}
theorem CAt.pins (c:CAt Y fp D)(hn:∀b∈fp,H b=none):∀b∈fp,Fq Y [(D,o)] H b:=λb hb=>
 have z:=c.ok b hb H (hn b hb)
 ⟨z.1,z.2.1,z.2.2.1,z.2.2.2.1,z.2.2.2.2.1,λp hp e=>by
  rw[c.pn] at hp
  cases List.mem_singleton.mp hp
  exact c.fpn b hb e.symm⟩
theorem FN (T:Turn Y.prog Y.w Y.K tg J fp it tn){h5:Heap}(t:tn i h5)(I:Inv Y ([(D,o)]++KD fp h5) σ H s):CIn Y tn fp D σ i H o s:=
 have p:=I.pin (D,o) (List.mem_append_right _ (.head _))
 have q:∀b∈fp,∀o',h5.get? b=some o'->s.heap.get? b=some o'/\H b=none:=λb hb o' e=>have z:=I.pin (b,o') (List.mem_append_right _ (.tail _ (JM hb e)));⟨z.1,z.2.1⟩
 ⟨I.pins_of (pins':=[]) λ_ h=>Fw h,T.keep _ _ _ t λb hb o' e=>(q b hb o' e).1,λb hb=>(T.obj _ _ t b hb).elim λo' e=>(q b hb o' e.1).2,p.1,p.2.1⟩
theorem NG (T:Turn Y.prog Y.w Y.K tg J fp it tn)(a:CAt Y fp D){its:List Value}{k:Nat}{v:Value}{E:Value->Shared->Prop}(c:CIn Y tn fp D σ i H (lob its k) s)(hz:its.length<=sizeLine)
  (hQ:∀k' s',CIn Y tn fp D σ i H (lob (its++[v]) k') s'->Kn s'):wpAny (model Y.prog Y.w) Y.A (call (.builtin "list.append") [.ref D,v]) (λ_ s=>Kn s) E s:=by
 refine call_meets F.slot_list_append ⟨_,c.l,rfl⟩ F.entry_list_append (F.args_list_append_2 _ _) (PySem.list_append D (List.toArray its) k v hz) ⟨c.l,?_⟩
 have q:∃k',PySem.IsL (s.heap.update D (Obj.mapSeq (·.push v))) D ((List.toArray its).push v) k':=⟨_,PySem.IsL.update c.l (·.push v)⟩
 rw[List.push_toArray] at q
 obtain⟨k',q⟩:=q
 exact hQ k' _ ⟨c.I.turned (t':=s.toks) (h':=s.heap.update D (Obj.mapSeq (·.push v))) (it:=D) (λb o hb' e=>(Heap.get?_update_other s.heap _ (Ne.symm hb')).trans e) c.n a.ne (.inr a.sz) a.cl (λp hp=>by rw[a.pn] at hp;exact Fw hp),
  T.keep _ _ _ c.t λb hb o e=>(Heap.get?_update_other s.heap _ (Ne.symm (a.fpn b hb))).trans e,c.f,q,c.n⟩
theorem Ej {acc:Value}{pins:List (Addr×Obj)}{N:List V->Hp->Prop}{ys:List V}{x:V}{u:Value}(hg:PG Y tg g)(ht:PTs Y ifs tt)(he:PE Y elt te)(hG:UV n g)(h0:∀(j:Nat) v,σ[j]?=some (some v)->n<=j)
  (I:Inv Y pins σ H s)(r:Yy x u)(st:g x σ H λσ4 H4=>tt σ4 H4 λc H5=>if c=true then te σ4 H5 λv H6=>N (ys++[v]) H6 else N ys H5)
  (hF:∀H7 s7,Inv Y pins σ H7 s7->N ys H7->Kn s7)(hT:∀H8 s8 y v,Inv Y pins σ H8 s8->Yy y v->N (ys++[y]) H8->wpAny (model Y.prog Y.w) Y.A (call (.builtin "list.append") [acc,v]) (λ_ s=>Kn s) Y.xe s8):
  Ml (model Y.prog Y.w) Y.A elt tg ifs acc Y.env Y.xe Kn u s:=by
 refine thn (hg _ s _ H x u _ I r (hG _ _ _ _ st)) λ_ s6 r9=>?_
 obtain⟨σ6,H6,I6,q6,l6,k6⟩:=r9
 have wk:∀(j:Nat) v,σ[j]?=some (some v)->σ6[j]?=some (some v):=λj v e=>(k6 j (h0 j v e)).trans e
 refine thn (ht _ s6 σ6 H6 _ I6 q6) λc s7 r9=>?_
 obtain⟨H7,I7,q7⟩:=r9
 cases c with
 |false=>exact hF _ _ (I7.weak l6.symm wk) q7
 |true=>exact thn (he _ s7 σ6 H7 _ I7 q7) λv8 s8 r9=>by obtain⟨y8,H8,I8,r8,n8⟩:=r9;exact hT _ _ _ _ (I8.weak l6.symm wk) r8 n8
theorem Dt {scope:Scope}{pos:Pos}{Q:V->Hp->Prop}{R:Result->Shared->Prop}(hE:(notedBy (model Y.prog Y.w) Y.A Y.env λe s'=>R (.error e) s')=Y.xe)
  (T:Turn Y.prog Y.w Y.K tg J fp it tn)(hG:UV n g)(hg:PG Y tg g)(ht:PTs Y ifs tt)(he:PE Y elt te)(a:CAt Y fp D)(h0:∀(j:Nat) v,σ[j]?=some (some v)->n<=j)
  {W:Nat->Nat->List V->Hp->Prop}(turn:IY g tt te σ Q J W)
  (hEnd:∀ys its k H3 s4,Inv Y [(D,lob its k)] σ H3 s4->Yv ys its->ys.length<=sizeLine->Q (.ref D) (upd H3 D (.lst ys))->R (.ok .next) s4){m0:Nat}(hi:CI Y tn fp D σ W m0 s):
  codeAny (model Y.prog Y.w) Y.A (.compLoop (.ListComp elt [⟨tg,iter,ifs,0⟩] scope pos) 0 (.ref it) (.ref D) Y.env) R s:=by
 refine Gi (CI Y tn fp D σ W) hE (λm s3 c=>?_) m0 hi
 cases c with
 |mk i H3 ys its k c rv w3=>
 have I3:Inv Y [(D,lob its k)] σ H3 s3:=c.I.pins_of λp hp=>List.mem_singleton.mp hp▸⟨c.l,c.n,a.ne,a.fs,λ_ z=>by cases z⟩
 have t:=turn i m ys H3 w3
 refine t.2.elim (λq=>?_) λq=>?_
 ·exact thn (T.done Y rfl rfl rfl a.calm i _ s3 _ H3 Y.xe I3 (a.pins c.f) c.t q.1) λr s4 h=>.inl ⟨h.1,hEnd ys its k H3 s4 h.2 rv t.1 (q.2 D c.n)⟩
 ·refine q.2.elim λNN h=>?_
  refine thn (T.item Y rfl rfl rfl a.calm i _ s3 _ H3 Y.xe I3 (a.pins c.f) c.t q.1) λr s4 h4=>.inr (h4.elim λu h4=>⟨u,h4.1,thn h4.2 λ_ s5 h5=>h5.elim λx h5=>h5.elim λH5 h5=>?_⟩)
  exact Ej hg ht he hG h0 (h5.1.pinned (a.pins h5.2.2.2.2) (T.obj _ _ h5.2.2.2.1)) h5.2.1 (h.2 x H5 h5.2.2.1)
   (λH7 s7 I7 q7=>(h.1 _ _ q7).elim λm' z=>⟨m',z.1, .mk (i+1) H7 ys its k (FN T h5.2.2.2.1 I7) rv z.2⟩)
   λH8 s8 y v I8 r8 q8=>(h.1 _ _ q8).elim λm' z=>NG T a (FN T h5.2.2.2.1 I8) (rv.length▸t.1) λk' s' c'=>⟨m',z.1, .mk (i+1) H8 (ys++[y]) (its++[v]) k' c' (rv.append (.cons r8 .nil)) z.2⟩
end
section
variable {X:Cx}{elt tg iter:Expr}{ifs:List Expr}{scope sc:Scope}{pos:Pos}{n:Nat}{tns:List Str}{caps:List (Nat×Str)}{wi:TI}{g:TG}{tt:TT}{te:TE}
structure CompEnd (X:Cx)(pins:List (Addr×Obj))(σ:St)(H3:Hp)(D C:Addr)(ys:List V)(s':Shared):Prop where
 inv:Inv X pins σ (upd H3 D (.lst ys)) s'
 fresh:H3 D=none
 fp:Fq X pins (upd H3 D (.lst ys)) C
 ns:∃m,s'.heap.Ns C m
theorem Em {pins:List (Addr×Obj)}{σ σ':St}{H H3:Hp}{s s4:Shared}{D C:Addr}{fp:List Addr}{its:List Value}{k:Nat}{ys:List V}{Y:Cx}(I:Inv X pins σ H s)(hf:∀b∈fp,Fq X pins H b)(hD:s.heap.objs.size<=D)(hDlt:D<C)
  (I4:Inv Y [(D,lob its k)] σ' H3 s4)(hos:s4.os=s.os)(u:Un (frs X.stack) fp H H3 s.heap s4.heap)(hok:HOk X.prog X.w H3 s4.heap)(hC:Y.env.locals=C)(rv:Yv ys its)(hz:ys.length<=sizeLine):CompEnd X pins σ H3 D C ys s4:=by
 subst hC
 have p:=I4.pin (D,lob its k) (List.mem_append_right _ (.head _))
 have hDn:H3 D=none:=p.2.1
 have up:∀{b:Addr}{o:HO},H3 b=some o->upd H3 D (.lst ys) b=some o:=λe=>(X3 (Ya e hDn)).trans e
 refine⟨I.call' (ch:=fp) hos ⟨u.keep,u.slot,λb o e nn hx=>(X3 (Nat.ne_of_lt (Nat.lt_of_lt_of_le (Heap.lt_size e) hD))).trans (u.free b o e nn hx),u.there,λb xs e=>up (u.tups b xs e),λb o xs e=>up (u.frzs b o xs e),λb ps e=>(u.tbls b ps e).elim λmore z=>⟨more,up z⟩⟩ (λa o e=>?_) I4.bare λb hb=>have z:=hf b hb;⟨z.2.2.2.1,z.2.1,z.2.2.2.2.1,z.2.2.2.2.2⟩,hDn,I.fpOk (Nat.le_trans hD (Nat.le_of_lt hDlt)) ((X3 (Nat.ne_of_gt hDlt)).trans I4.free),I4.loc.elim λm z=>⟨m,z.1⟩⟩
 by_cases ha:a=D
 ·subst ha
  rw[YV] at e;cases e
  exact⟨hz,its,k,rv,p.1⟩
 ·rw[X3 ha] at e
  exact(hok a o e).stay (λb u _ q=>q) (λb q=>up q) λb xs q=>up q
noncomputable def NF (X:Cx)(elt tg iter:Expr)(ifs:List Expr)(scope:Scope)(pos:Pos)(it:Value)(cl:List (Str×Addr))(RR:Value->Addr->Result->Shared->Prop)(E:Value->Shared->Prop)(s:Shared):Prop:=
 wpAny (model X.prog X.w) X.A (newList []) (λacc s₃=>wpAny (model X.prog X.w) X.A (newFunctionEnv scope X.env.globals cl [] X.env.qual none .none (some X.env)) (λcenv s₄=>
   codeAny (model X.prog X.w) X.A (.compStart (.ListComp elt [⟨tg,iter,ifs,0⟩] scope pos) 0 it acc {cenv with scope:=relabel scope X.env}) (RR acc cenv.locals) s₄) E s₃) E s
theorem KW {σ:St}{i:Nat}{v:V}(e:(Jz n caps σ)[i]?=some (some v)):n<=i/\∃p,caps[i-n]?=some p/\σ[p.1]?=some (some v):=by
 unfold Jz at e
 by_cases h:i<n
 ·rw[List.getElem?_append_left (by simpa using h),List.getElem?_replicate,if_pos h] at e
  cases e
 ·have hi:=Nat.le_of_not_lt h
  rw[List.getElem?_append_right (by simpa using hi),List.length_replicate,List.getElem?_map] at e
  refine⟨hi,?_⟩
  cases hcp:caps[i-n]? with
  |none=>rw[hcp] at e;cases e
  |some p=>
   rw[hcp] at e
   exact⟨p,rfl,Option.join_eq_some_iff.mp (Option.some.inj e)⟩
structure COk (X:Cx)(scope:Scope)(caps:List (Nat×Str)):Prop where
 kind:scope.kind= .function
 cell:∀y∈scope.names,y.2≠NameKind.cell
 loc:∀y∈scope.names,y.2= .local->scope.names.lookup y.1=some .local
 free:∀y∈scope.names,y.2= .free->X.env.scope.names.lookup y.1=some .cell
 caps:∀p∈caps,(X.N[p.1]?=some p.2/\X.env.scope.names.lookup p.2=some .cell)/\scope.names.lookup p.2=some .free
theorem COk.of {N0:List Str}(hsc:X.env.scope=sc)(hN0:X.N=N0)(ok:KB sc scope N0 tns caps=true):COk X scope caps:=by
 subst hsc
 subst hN0
 unfold KB at ok
 simp only[Bool.and_eq_true,List.all_eq_true,beq_iff_eq,Bool.or_eq_true,Bool.not_eq_true',beq_eq_false_iff_ne] at ok
 exact⟨ok.1.1.1.1,ok.1.1.1.2,λy hy e=>(ok.1.1.2 y hy).resolve_left (absurd e),λy hy e=>(ok.1.2 y hy).resolve_left (absurd e),ok.2⟩
section
variable {pins:List (Addr×Obj)}{σ:St}{H:Hp}{s:Shared}{fp:List Addr}{cl:List (Str×Addr)}{C:Addr}{E:Value->Shared->Prop}{N:List Str}{h₁:Heap}
theorem HK (ok:COk X scope caps)(I:Inv X pins σ H s)(hf:∀b∈fp,Fq X pins H b)(hlt:∀b∈fp,b<s.heap.objs.size)
  (hsub:∀x c,cl.lookup x=some c->X.env.cells.lookup x=some c)(hall:∀x,(x,NameKind.free)∈scope.names->∃c,cl.lookup x=some c)(hC:s.heap.objs.size<C):(X.comp N scope cl C s H fp E).Ok:=
 ⟨I.ok.mod,ok.kind,I.ok.glob,I.ok.blt,Nat.le_of_lt hC,λx y c h1 h2=>I.ok.inj x y c (hsub x c h1) (hsub y c h2),λx hx=>hall x (hx.elim (λz=>Jb ok.cell z (.inl rfl)) λz=>Jb ok.cell z (.inr rfl)),(λx c hx=>by cases hx),I.ok.hd,I.ok.frames, .inl rfl,
  λb hb=>⟨Nat.ne_of_lt (Nat.lt_trans (hlt b hb) hC),λx c e=>(hf b hb).2.2.2.2.1 x c (hsub x c e)⟩,I.bs,Nat.le_trans I.ok.bsz I.sz,λb o e hb=>(hf b hb).2.2.2.1.elim (I.ok.noex b o e) λz=>absurd (Nat.lt_of_lt_of_le (Heap.lt_size e) (Nat.le_trans I.ok.bsz z)) (Nat.lt_irrefl _),
  λb hb hz=>(List.mem_cons.mp (I.stkSub b hz)).elim (hf b hb).2.1 (hf b hb).2.2.1,I.stack,I.stkFree⟩
theorem E7 (okc:COk X scope caps)(hn:tns.length=n)(ok:(X.comp (tns++caps.map (·.2)) scope cl C s H fp E).Ok)(I:Inv X pins σ H s)
  (hsub:∀x c,cl.lookup x=some c->X.env.cells.lookup x=some c)(hall:∀x,(x,NameKind.free)∈scope.names->∃c,cl.lookup x=some c)(hC:s.heap.objs.size<C)(hns:h₁.Ns C λ_=>none)(old:∀b o,s.heap.get? b=some o->h₁.get? b=some o){tk:Nat}:
  Inv (X.comp (tns++caps.map (·.2)) scope cl C s H fp E) [] (Jz n caps σ) H {s with heap:=h₁,toks:=tk}:=by
 refine⟨ok,rfl,I.bare,Un.kept old,⟨_,hns,λi x v e1 e2 _=>?_⟩,λx c e=>(I.cell x c (hsub x c e)).elim λv z=>z.elim λo z=>⟨v,o,old _ _ z.1,z.2⟩,I.hok.fresh (Nat.le_of_lt hC),λx c e=>I.freeC x c (hsub x c e),λp hp=>Fw (α:=Addr×Obj) hp,I.hok.kept old,by simp[Jz,hn]⟩
 obtain⟨hi,p,hp,hσ⟩:=KW e2
 have e1':(tns++caps.map (·.2))[i]?=some x:=e1
 rw[List.getElem?_append_right (hn▸hi),hn,List.getElem?_map,hp] at e1'
 cases Option.some.inj e1'
 have p5:=okc.caps p (List.mem_of_getElem? hp)
 obtain⟨m,hm,hl⟩:=I.loc
 obtain⟨u,r,l⟩:=hl p.1 p.2 v p5.1.1 hσ (.inr (.inl p5.1.2))
 refine⟨u,r, .inr ?_⟩
 rcases l with⟨k,_⟩ | ⟨k,c,e,z⟩
 ·cases p5.1.2.symm.trans k
 ·obtain⟨c',e'⟩:=hall p.2 (PySem.mem_of_lookup p5.2)
  cases e.symm.trans (hsub _ _ e')
  exact⟨J7 (env:=X.env) p5.2,c,e',z.elim λo z=>⟨o,old _ _ z.1,z.2⟩⟩
variable {J:It}{it:Addr}{tn:Nat->Heap->Prop}{Q:V->Hp->Prop}{RR:Value->Addr->Result->Shared->Prop}{W:Nat->Nat->List V->Hp->Prop}{m0:Nat}
theorem IA (ok:COk X scope caps)(hc:X.calm=true)(hn:tns.length=n)(hG:UV n g)
  (hb:∀cl C s H ex E,PG (X.comp (tns++caps.map (·.2)) scope cl C s H ex E) tg g/\PTs (X.comp (tns++caps.map (·.2)) scope cl C s H ex E) ifs tt/\PE (X.comp (tns++caps.map (·.2)) scope cl C s H ex E) elt te)
  (I:Inv X pins σ H s)(T:Turn X.prog X.w X.K tg J fp it tn)(t0:tn 0 s.heap)(hf:∀b∈fp,Fq X pins H b)
  (hsub:∀x c,cl.lookup x=some c->X.env.cells.lookup x=some c)(hall:∀x,(x,NameKind.free)∈scope.names->∃c,cl.lookup x=some c)
  (w0:W 0 m0 [] H)(turn:IY g tt te (Jz n caps σ) Q J W)
  (hRR:∀D C ys H3 s',CompEnd X pins σ H3 D C ys s'->Q (.ref D) (upd H3 D (.lst ys))->RR (.ref D) C (.ok .next) s')
  (hC:s.heap.objs.size<C)(hns:h₁.Ns C λ_=>none)(old:∀b o,s.heap.get? b=some o->h₁.get? b=some o)(hacc:h₁.get? s.heap.objs.size=some (lob [] 0)){tk:Nat}:
  codeAny (model X.prog X.w) X.A (.compStart (.ListComp elt [⟨tg,iter,ifs,0⟩] scope pos) 0 (.ref it) (.ref s.heap.objs.size) (compEnvC scope cl C X.env)) (RR (.ref s.heap.objs.size) C) {s with heap:=h₁,toks:=tk}:=by
 have hlt:∀b∈fp,b<s.heap.objs.size:=λb hb=>(T.obj _ _ t0 b hb).elim λo e=>Heap.lt_size e.1
 have okY:∀E,(X.comp (tns++caps.map (·.2)) scope cl C s H fp E).Ok:=λE=>HK ok I hf hlt hsub hall hC
 have t1:tn 0 h₁:=T.keep _ _ _ t0 λb _ o e=>old b o e
 have loop:∀tk,codeAny (model X.prog X.w) X.A (.compLoop (.ListComp elt [⟨tg,iter,ifs,0⟩] scope pos) 0 (.ref it) (.ref s.heap.objs.size) (compEnvC scope cl C X.env)) (RR (.ref s.heap.objs.size) C) {s with heap:=h₁,toks:=tk}:=λtk=>
  have z:=hb cl C s H fp (notedBy (model X.prog X.w) X.A (compEnvC scope cl C X.env) λe s'=>RR (.ref s.heap.objs.size) C (.error e) s')
  Dt (Y:=X.comp (tns++caps.map (·.2)) scope cl C s H fp _) rfl T hG z.1 z.2.1 z.2.2
   ⟨hc,rfl,Nat.ne_of_lt hC,λhz=>(I.stack.mem hz).2.elim λo ho=>absurd (Heap.lt_size ho.1) (Nat.lt_irrefl _),Nat.le_refl _,λx c e=>(I.cell x c (hsub x c e)).elim λv z=>Nat.ne_of_lt z.lt,λb hb=>Nat.ne_of_lt (hlt b hb),
    λb hb H' h'=>⟨h',Nat.ne_of_lt (Nat.lt_trans (hlt b hb) hC),(okY λ_ _=>True).exfs b hb, .inl hb,λx c e=>(hf b hb).2.2.2.2.1 x c (hsub x c e),λp hp=>Fw (α:=Addr×Obj) hp⟩⟩
   (λj v e=>(KW e).1) turn (λys its k H3 s4 I4 rv hz q=>hRR _ C ys H3 s4 (Em I hf (Nat.le_refl _) hC I4 I4.os I4.base I4.hok rfl rv hz) q)
   (.mk 0 H [] [] 0 ⟨E7 ok hn (okY _) I hsub hall hC hns old,t1,λb hb=>(hf b hb).1,hacc,I.hok.fresh (Nat.le_refl _)⟩ .nil w0)
 exact codeAny_compStart_list (loop _) (T.self _ 0 _ _ _ t1 (loop _))
theorem UE (ok:COk X scope caps)(hc:X.calm=true)(hn:tns.length=n)(hG:UV n g)
  (hb:∀cl C s H ex E,PG (X.comp (tns++caps.map (·.2)) scope cl C s H ex E) tg g/\PTs (X.comp (tns++caps.map (·.2)) scope cl C s H ex E) ifs tt/\PE (X.comp (tns++caps.map (·.2)) scope cl C s H ex E) elt te)
  {itv:Value}(h:PIE X pins σ tg (λJ H1=>Hk n caps g tt te σ Q J H1) itv s)
  (hsub:∀x c,cl.lookup x=some c->X.env.cells.lookup x=some c)(hall:∀x,(x,NameKind.free)∈scope.names->∃c,cl.lookup x=some c)
  (hRR:∀D C ys H3 s',CompEnd X pins σ H3 D C ys s'->Q (.ref D) (upd H3 D (.lst ys))->RR (.ref D) C (.ok .next) s'):
  NF X elt tg iter ifs scope pos itv cl RR E s:=by
 obtain⟨it,fp,tn,J,H',rfl,I,T,t0,hf,W,⟨m0,w0⟩,turn⟩:=h
 refine wpAny_newObj_type (wpAny_newFunctionEnv ok.cell (by intro y hy;simp at hy) (λh₁ hns₁ hsb₁=>?_) ok.kind)
 have hs:∀o,(s.heap.push o).objs.size=s.heap.objs.size+1:=λo=>Heap.size_push ..
 exact IA ok hc hn hG hb I T t0 hf hsub hall w0 turn hRR (Nat.lt_of_lt_of_eq (Nat.lt_succ_self _) (hs _).symm) hns₁
  (λb o e=>hsb₁.extBut b o (Nat.ne_of_lt (Nat.lt_trans (Heap.lt_size e) (Nat.lt_of_lt_of_eq (Nat.lt_succ_self _) (hs _).symm))) (Heap.get?_push_of_some _ (Heap.get?_push_of_some _ e)))
  (hsb₁.extBut _ _ (Nat.ne_of_lt (Nat.lt_of_lt_of_eq (Nat.lt_succ_self _) (hs _).symm)) (Heap.get?_push_of_some _ (Heap.get?_push_size _ rfl)))
end
theorem Ih (sc:Scope)(N0:List Str)(tns:List Str)(caps:List (Nat×Str))(hc:X.calm=true)(hi:PI X tg iter wi)(hG:UV tns.length g)
  (hb:∀cl C s H ex E,PG (X.comp (tns++caps.map (·.2)) scope cl C s H ex E) tg g/\PTs (X.comp (tns++caps.map (·.2)) scope cl C s H ex E) ifs tt/\PE (X.comp (tns++caps.map (·.2)) scope cl C s H ex E) elt te)
  (hsc:X.env.scope=sc:=by rfl)(hN0:X.N=N0:=by rfl)(ok:KB sc scope N0 tns caps=true:=by decide+kernel)
  (hs:∀x,foldedSetIterable iter X.env x=pure x:=by intro _;rfl):
  PE X (.ListComp elt [⟨tg,iter,ifs,0⟩] scope pos) (CO tns.length caps wi g tt te):=by
 intro pins s σ H Q I h
 have okc:=COk.of hsc hN0 ok
 obtain⟨cl,ecl,hsub,hall⟩:=D0 (scope:=scope) (env:=X.env) λx hx hfr=>I.ok.has x.1 (.inl (okc.free x hx hfr))
 rw[eval_ListComp]
 exact wpAny_comprehension_free (use:=none) rfl hs ecl okc.kind okc.loc (thn (hi pins s σ H _ I h) λxv s₁ h₁=>thn h₁ λitv s₂ h₂=>
  UE (RR:=λacc C=>compPost (model X.prog X.w) X.A X.xe none (EP X pins σ Q) acc C) okc hc rfl hG hb h₂ hsub hall λD C ys H3 s' ce q=>ce.ns.elim λmm hns=>
   ⟨mm,hns,λh' hs'=>⟨.ref D,_,ce.inv.turned (t':=s'.toks) (λb o hb' e=>(hs'.extBut b o hb' e)) ce.fp.1 ce.fp.2.1 ce.fp.2.2.2.1 ce.fp.2.2.2.2.1 ce.fp.2.2.2.2.2,rfl,q⟩⟩)
theorem JT {x:Str}{px spos:Pos}(j:Nat)(sc:Scope)(N0:List Str)(tns:List Str)(caps:List (Nat×Str))(hc:X.calm=true)(hN:X.N.Nodup)(hj:X.N[j]?=some x)(hx:X.env.scope.names.lookup x=some .local)(hi:PI X tg iter wi)(hG:UV tns.length g)
  (hb:∀cl C s H ex E,PG (X.comp (tns++caps.map (·.2)) scope cl C s H ex E) tg g/\PTs (X.comp (tns++caps.map (·.2)) scope cl C s H ex E) ifs tt/\PE (X.comp (tns++caps.map (·.2)) scope cl C s H ex E) elt te)
  (hsc:X.env.scope=sc:=by rfl)(hN0:X.N=N0:=by rfl)(ok:KB sc scope N0 tns caps=true:=by decide+kernel)
  (hsw:swapsWith (.ListComp elt [⟨tg,iter,ifs,0⟩] scope pos) (some (.Name x px)) spos.line X.env=pure true:=by rfl)
  (hs:∀x,foldedSetIterable iter X.env x=pure x:=by intro _;rfl):
  PS X (.Assign [.Name x px] (.ListComp elt [⟨tg,iter,ifs,0⟩] scope pos) spos) (Ea (CO tns.length caps wi g tt te) (Zx j)):=by
 intro pins s σ H D I h
 have okc:=COk.of hsc hN0 ok
 obtain⟨cl,ecl,hsub,hall⟩:=D0 (scope:=scope) (env:=X.env) λx hx hfr=>I.ok.has x.1 (.inl (okc.free x hx hfr))
 rw[exec_Assign_Name_used _ _ _ _ hsw]
 refine wpAny_bind (wpAny_standAt (wpAny_bind ?_))
 show wpAny _ _ (do let _ ←comprehension (.ListComp elt [⟨tg,iter,ifs,0⟩] scope pos) scope X.env _ (newList []) false (eval iter X.env) (some (assign (.Name x px) X.env))) _ _ s
 refine wpAny_bind (thn (wpAny_comprehension_free (use:=some (assign (.Name x px) X.env)) (Q:=λ_ s'=>SP X pins D .next s') rfl hs ecl okc.kind okc.loc
  (thn (hi pins s σ H _ I h) λxv s₁ h₁=>thn h₁ λitv s₂ h₂=>?_)) λ_ s' hq=>wpAny_pure (wpAny_pure hq))
 refine UE (Q:=λv H1=>Zx j v σ H1 D.nx) (RR:=λacc C=>compPost (model X.prog X.w) X.A X.xe (some (assign (.Name x px) X.env)) (λ_ s'=>SP X pins D .next s') acc C) okc hc rfl hG hb h₂ hsub hall ?_
 intro DD C ys H3 s' ce q
 obtain⟨mm,hns⟩:=ce.ns
 obtain⟨c0,c1,c2,c3,c4,c5⟩:=ce.fp
 show wpAny _ _ (assign (.Name x px) X.env (.ref DD)) _ _ _
 refine wpAny_assign_Name (K5 ce.inv hN hj (.inl hx) (v:=.ref DD) rfl (λs2 I2 chg=>?_) (.inr hx))
 obtain⟨c,hsb,hcc⟩:=chg
 have hCc:C≠c:=by
  rcases hcc with z |z
  ·rw[z];exact c1
  ·exact λe=>c4 x c z e.symm
 refine⟨mm,?_,λh' hs'=>?_⟩
 ·obtain⟨o,es,ep,ho,r⟩:=hns
  exact⟨o,es,ep,(hsb.2 C hCc).trans ho,r⟩
 ·exact⟨_,_,I2.turned (t':=s2.toks) (λb o hb' e=>(hs'.extBut b o hb' e)) c0 c1 c3 c4 c5,q⟩
end
section
variable {K:PySem.W.Frag}{a:Addr}{xs:List V}{n:Nat}{caps:List (Nat×Str)}{g:TG}{tt:TT}{te:TE}{σ:St}{H:Hp}{Q:V->Hp->Prop}
end
section
variable {X:Cx}{pos:Pos}
noncomputable def CD (K:PySem.W.Frag):List V->Hp->VK->Prop:=λxs H Q=>∃ p ys,xs=[.ref p]/\(SqL K H p ys∨SqT K H p ys)/\∀l,H l=none->Q (.ref l) (upd H l (.lst ys))
noncomputable def Cv (K:PySem.W.Frag):List V->Hp->VK->Prop:=λxs H Q=>∃ p ys,xs=[.ref p]/\(SqL K H p ys∨SqT K H p ys)/\Q (.int ys.length) H
theorem X6 (K:PySem.W.Frag)(h:X.K=K):Qx X (.type "list") (CD K):=by subst h;exact K0
theorem Xi (K:PySem.W.Frag)(h:X.K=K):Qx X (.builtin "len") (Cv K):=by subst h;exact KS
theorem Xj (K:PySem.W.Frag)(h:X.K=K):IxR X (HN K):=by subst h;exact HW
theorem Zy (K:PySem.W.Frag)(h:X.K=K):IxR X (Ls K):=by subst h;exact L7
theorem Js (K:PySem.W.Frag)(h:X.K=K):SlR X (MF K):=by subst h;exact IS
theorem HM (K:PySem.W.Frag)(h:X.K=K){es:List Expr}{k:Nat}{t:TGs}{n:Nat}(hc:X.calm=true)(hh:PGs X es t)
  (hn:(assignEach es X.env).length=n:=by rfl)(hst:(assignEach es X.env).findIdx? (·.1)=none:=by rfl):PG X (.Tuple es k pos) (Ht K n t):=by subst h;exact Q0 hc hh hn hst
end
structure Fn (P:Program)(w:World)(K:PySem.W.Frag)(mg:Str->Option Value)(base:Heap)(k:Nat)(x:Str)(ps:List Str)(sp:Sp):Prop where
 ex:∃f fd,FnOk P w K mg base CX0 k f fd ps sp/\Gy K fd ps []/\PySem.W.keepIn K (.ref f)=true/\mg x=some (.ref f)
section
variable {X:Cx}{k j:Nat}{x:Str}{ps:List Str}{sp:Sp}{e:Expr}{es:List Expr}{t:TA}{p pos:Pos}
theorem X5 (G:Fn X.prog X.w X.K X.mg X.base k x ps sp)(hr:Room j X.A)(hj:k<=j)(ha:PA X (e::es) t)(hg:Gl X x:=by rfl)(hdb:(x==("__debug__":Str))=false:=by decide)
  (he:starEach (e::es) X.env=(false,eval e X.env)::starEach es X.env:=by rfl)(hpl:(backTo pos (starEach es X.env)).any (·.1)=false:=by rfl):
  PE X (.Call (.Name x p) (e::es) [] pos) (KC sp [] E0 t):=by
 obtain⟨f,fd,F,b,kp,m⟩:=G.ex
 exact HU F (hr.mono hj) hg m kp b .nil M3 ha hdb he hpl
end
noncomputable def Def (K:PySem.W.Frag)(mg:Str->Option Value)(x:Str)(st:Stmt)(ps:List Str):Prop:=∃ f fd,Fun K x x st f fd/\Gy K fd ps []/\mg x=some (.ref f)
theorem Ys {P:Program}{w:World}{K:PySem.W.Frag}{mg:Str->Option Value}{base:Heap}{x:Str}{st:Stmt}{N ps:List Str}{k:Nat}{sp:Sp}(D:Def K mg x st ps)(S:FnScope N ps (Xk st))(len:∀vs H Q E,sp vs H Q E->vs.length=ps.length)
  (hbody:∀(f:Addr) (cdv:Value) (A:Around) (outer:List Env) (s:Shared) (H:Hp) (vs:List V) (Q:VK) (E:XK),Room k (A.deeper (envOfC x (Xk st) s.heap.objs.size f cdv))->sp vs H Q E->
   ∃t,PSs (Ib CX0 P w K mg base N x (Xk st) f cdv A outer s H E).nox (YT st) t/\t {nx:=λ_ H'=>Q .non H',rt:=Q} (Kq N vs) H):Fn P w K mg base (k+1) x ps sp:=by
 obtain⟨f,fd,F,b,m⟩:=D
 exact⟨f,fd,F.ok S len (hbody f),b,F.kp,m⟩
theorem Ii {a d c:Nat}(h:d<=8)(hu:a+8<c):a+d<c:=by omega
theorem XY {H:Hp}{p:Addr}(h:H p=none)(o:HO):XG H (upd H p o):=λb u q=>by rw[X3 (Ya q h)];exact q
theorem XG.own {H H2:Hp}{p:Addr}(s:XG H H2)(h:H p=none)(o:HO):XG H (upd H2 p o):=λb u q=>by rw[X3 (Ya q h)];exact s b u q
theorem XG.new {H H2:Hp}{p:Addr}(s:XG H H2)(h:H2 p=none)(o:HO):XG H (upd H2 p o):=s.trans (XY h o)
theorem hu8 {A:Around}{k:Nat}(hr:Room k A):A.units+8<cLine:=Nat.lt_of_le_of_lt (Nat.add_le_add_left (by decide:8<=64) _) hr.units
noncomputable abbrev Enc (α:Type):=PySem.W.Frag->Hp->V->α->Prop
noncomputable def Xa:Enc Int:=λ_ _ v i=>v= .int i
noncomputable def rL {α:Type}(r:Enc α):Enc (List α):=λK H v as=>∃ a xs,v= .ref a/\SqL K H a xs/\Paired (r K H) xs as
theorem Paired.getL {α β:Type}{F:α->β->Prop}:∀{l:List α}{m:List β}{i:Nat}{a:α},Paired F l m->l[i]?=some a->∃b,m[i]?=some b/\F a b
 |_,_,_,_, .nil,e=>by simp at e
 |_,_,0,_, .cons r _,e=>by simp at e;subst e;exact⟨_,rfl,r⟩
 |_,_,i+1,a, .cons _ t,e=>by
  obtain⟨b,h1,h2⟩:=Paired.getL (i:=i) (a:=a) t (by simpa using e)
  exact⟨b,by simpa using h1,h2⟩
theorem Paired.getR {α β:Type}{F:α->β->Prop}:∀{l:List α}{m:List β}{i:Nat}{b:β},Paired F l m->m[i]?=some b->∃a,l[i]?=some a/\F a b
 |_,_,_,_, .nil,e=>by simp at e
 |_,_,0,_, .cons r _,e=>by simp at e;subst e;exact⟨_,rfl,r⟩
 |_,_,i+1,b, .cons _ t,e=>by
  obtain⟨a,h1,h2⟩:=Paired.getR (i:=i) (b:=b) t (by simpa using e)
  exact⟨a,by simpa using h1,h2⟩
theorem Paired.len {α β:Type}{F:α->β->Prop}{l:List α}{m:List β}(h:Paired F l m):l.length=m.length:=Paired.length h
theorem Paired.app {α β:Type}{F:α->β->Prop}:∀{l l':List α}{m m':List β},Paired F l m->Paired F l' m'->Paired F (l++l') (m++m'):=λp h=>by
 induction p with
 |nil=>exact h
 |cons r _ ih=>exact .cons r ih
theorem GQ (ns:List Int):∀{K:PySem.W.Frag}{H:Hp},Paired (Xa K H) (ns.map V.int) ns:=by
 intro K H
 induction ns with
 |nil=>exact .nil
 |cons n r ih=>exact .cons rfl ih
theorem Ja:∀{xs:List V}{ns:List Int}{K:PySem.W.Frag}{H:Hp},Paired (Xa K H) xs ns->xs=ns.map V.int
 |_,_,_,_, .nil=>rfl
 |_,_,_,_, .cons r t=>by
  have r':_=V.int _:=r
  rw[r',Ja t];rfl
structure EqOk {α:Type}[DecidableEq α](r:Enc α)(d:Nat):Prop where
 uniq:∀{X:Cx}{pins:List (Addr×Obj)}{σ:St}{H:Hp}{s:Shared}{x:V}{a b:α},Inv X pins σ H s->r X.K H x a->r X.K H x b->a=b
 eq:∀{X:Cx}{pins:List (Addr×Obj)}{σ:St}{H:Hp}{s:Shared}{x y:V}{v u:Value}{a b:α}{A:Around},Inv X pins σ H s->Yy x v->Yy y u->r X.K H x a->r X.K H y b->A.units+d<cLine->SeqAt.EqAt A s v u (decide (a=b))
 rc:∀{X:Cx}{pins:List (Addr×Obj)}{σ:St}{H:Hp}{s:Shared}{x y:V}{v u:Value}{a b:α}{A:Around},Inv X pins σ H s->Yy x v->Yy y u->r X.K H x a->r X.K H y b->A.units+d<cLine->SeqAt.RcAt A s v u (decide (a=b))
 ne:∀{X:Cx}{pins:List (Addr×Obj)}{σ:St}{H:Hp}{s:Shared}{x y:V}{v u:Value}{a b:α}{A:Around},Inv X pins σ H s->Yy x v->Yy y u->r X.K H x a->r X.K H y b->A.units+d<cLine->SeqAt.RcNeAt A s v u (!decide (a=b))
 keep:∀{K:PySem.W.Frag}{H H':Hp}{x:V}{a:α},XG H H'->r K H x a->r K H' x a
theorem EqOk.up {α:Type}[DecidableEq α]{r:Enc α}{d e:Nat}(E:EqOk r d)(h:d<=e):EqOk r e:=
 ⟨E.uniq,λI rx ry h1 h2 hu=>E.eq I rx ry h1 h2 (by omega),λI rx ry h1 h2 hu=>E.rc I rx ry h1 h2 (by omega),λI rx ry h1 h2 hu=>E.ne I rx ry h1 h2 (by omega),E.keep⟩
theorem BG (A:Around):A.in1.units=A.units+1:=rfl
theorem EA {a b:Int}:(a==b)=decide (a=b):=by rw[Bool.eq_iff_iff];simp
theorem eq_int:EqOk Xa 0 where
 uniq:=λ_ h1 h2=>by
  have h1':_=V.int _:=h1
  have h2':_=V.int _:=h2
  rw[h1'] at h2';injection h2'
 eq:=fun {X pins σ H s x y v u a b A} I rx ry h1 h2 _=>by
  have h1':x=V.int a:=h1
  have h2':y=V.int b:=h2
  subst h1' h2'
  obtain⟨t,rfl⟩:=rx
  obtain⟨t',rfl⟩:=ry
  rw[←EA];exact SeqAt.EqAt.int_int a t b t'
 rc:=fun {X pins σ H s x y v u a b A} I rx ry h1 h2 _=>by
  have h1':x=V.int a:=h1
  have h2':y=V.int b:=h2
  subst h1' h2'
  obtain⟨t,rfl⟩:=rx
  obtain⟨t',rfl⟩:=ry
  rw[←EA];exact SeqAt.RcAt.int_int a t b t'
 ne:=fun {X pins σ H s x y v u a b A} I rx ry h1 h2 _=>by
  have h1':x=V.int a:=h1
  have h2':y=V.int b:=h2
  subst h1' h2'
  obtain⟨t,rfl⟩:=rx
  obtain⟨t',rfl⟩:=ry
  rw[←EA];exact SeqAt.RcNeAt.int_int a t b t'
 keep:=λ_ h=>h
theorem Cr {α:Type}[DecidableEq α]{as bs:List α}(h:as.length=bs.length):(List.range as.length).all (λj=>decide (as[j]?=bs[j]?))=decide (as=bs):=by
 rw[Bool.eq_iff_iff]
 simp only[List.all_eq_true,List.mem_range,decide_eq_true_eq]
 constructor
 ·intro hh
  apply List.ext_getElem?
  intro i
  by_cases hi:i<as.length
  ·exact hh i hi
  ·rw[List.getElem?_eq_none (by omega),List.getElem?_eq_none (by omega)]
 ·rintro rfl;intros;rfl
theorem Paired.uniq {α β:Type}{F:α->β->Prop}(hu:∀a b c,F a b->F a c->b=c):∀{l:List α}{m m':List β},Paired F l m->Paired F l m'->m=m':=fun {l m m'} p=>by
 induction p generalizing m' with
 |nil=>intro q;cases q;rfl
 |cons r _ ih=>intro q;cases q with |cons r' t'=>rw[hu _ _ _ r r',ih t']
theorem Paired.imp2 {α β:Type}{F G:α->β->Prop}(h:∀a b,F a b->G a b):∀{l:List α}{m:List β},Paired F l m->Paired G l m:=λp=>by
 induction p with
 |nil=>exact .nil
 |cons r _ ih=>exact .cons (h _ _ r) ih
section
variable {α:Type}[DecidableEq α]{r:Enc α}{d:Nat}
theorem UQ (E:EqOk r d){X:Cx}{pins:List (Addr×Obj)}{σ:St}{H:Hp}{s:Shared}{A:Around}(I:Inv X pins σ H s)(hu:A.units+(d+1)<cLine){xs ys:List V}{as bs:List α}{its its2:List Value}
  (r1:Yv xs its)(r2:Yv ys its2)(p1:Paired (r X.K H) xs as)(p2:Paired (r X.K H) ys bs):
  ∀j (h1:j<its.toArray.size) (h2:j<its2.toArray.size),SeqAt.EqAt A.in1 s its.toArray[j] its2.toArray[j] (decide (as[j]?=bs[j]?)):=by
 intro j h1 h2
 have h1':j<its.length:=by simpa using h1
 have h2':j<its2.length:=by simpa using h2
 obtain⟨x,ex,rx⟩:=Paired.getR (i:=j) (b:=its[j]) r1 (by simp[h1'])
 obtain⟨y,ey,ry⟩:=Paired.getR (i:=j) (b:=its2[j]) r2 (by simp[h2'])
 obtain⟨a,ea,ra⟩:=Paired.getL p1 ex
 obtain⟨b,eb,rb⟩:=Paired.getL p2 ey
 have:=E.eq (A:=A.in1) I rx ry ra rb (by rw[BG];omega)
 rw[ea,eb]
 simpa using this
theorem HG (E:EqOk r d):EqOk (rL r) (d+1):=by
 have un:∀{X:Cx}{pins:List (Addr×Obj)}{σ:St}{H:Hp}{s:Shared}{x:V}{a b:List α},Inv X pins σ H s->rL r X.K H x a->rL r X.K H x b->a=b:=by
  intro X pins σ H s x as bs I h1 h2
  obtain⟨a,xs,rfl,q1,p1⟩:=h1
  obtain⟨b,ys,e,q2,p2⟩:=h2
  cases e
  cases I.list_inj q1 q2
  exact Paired.uniq (F:=r X.K H) (λ_ _ _ z z'=>E.uniq I z z') p1 p2
 have rc:∀{X:Cx}{pins:List (Addr×Obj)}{σ:St}{H:Hp}{s:Shared}{x y:V}{v u:Value}{a b:List α}{A:Around},Inv X pins σ H s->Yy x v->Yy y u->rL r X.K H x a->rL r X.K H y b->A.units+(d+1)<cLine->SeqAt.RcAt A s v u (decide (a=b)):=by
  intro X pins σ H s x y v u as bs A I rx ry h1 h2 hu
  obtain⟨a,xs,rfl,q1,p1⟩:=h1
  obtain⟨b,ys,rfl,q2,p2⟩:=h2
  cases rx;cases ry
  obtain⟨its,r1,l1,_⟩:=I.list q1
  obtain⟨its2,r2,l2,_⟩:=I.list q2
  have n1:=r1.length
  have n2:=r2.length
  have m1:=Paired.len p1
  have m2:=Paired.len p2
  by_cases hl:as.length=bs.length
  ·have:=SeqAt.RcAt.lists (A:=A) (e:=λj=>decide (as[j]?=bs[j]?)) l1.isList l2.isList (by simp only[List.size_toArray];omega) (by omega) (UQ E I hu r1 r2 p1 p2)
   rw[show its.toArray.size=as.length by simp only[List.size_toArray];omega,Cr hl] at this
   exact this
  ·rw[decide_eq_false (λe=>hl (congrArg List.length e))]
   exact SeqAt.RcAt.lists_lengths l1.isList l2.isList (by simp only[List.size_toArray,bne_iff_ne];omega) (by omega)
 refine⟨un,?_,rc,?_,?_⟩
 ·intro X pins σ H s x y v u as bs A I rx ry h1 h2 hu
  obtain⟨a,xs,rfl,q1,p1⟩:=id h1
  obtain⟨b,ys,rfl,q2,p2⟩:=id h2
  have R:=rc (A:=A) I rx ry h1 h2 hu
  cases rx;cases ry
  by_cases e:a=b
  ·subst e
   rw[decide_eq_true (un I h1 h2)]
   exact SeqAt.EqAt.same _
  ·exact SeqAt.EqAt.of_refs e R
 ·intro X pins σ H s x y v u as bs A I rx ry h1 h2 hu
  obtain⟨a,xs,rfl,q1,p1⟩:=h1
  obtain⟨b,ys,rfl,q2,p2⟩:=h2
  cases rx;cases ry
  obtain⟨its,r1,l1,_⟩:=I.list q1
  obtain⟨its2,r2,l2,_⟩:=I.list q2
  have n1:=r1.length
  have n2:=r2.length
  have m1:=Paired.len p1
  have m2:=Paired.len p2
  by_cases hl:as.length=bs.length
  ·have:=SeqAt.RcNeAt.lists (A:=A) (e:=λj=>decide (as[j]?=bs[j]?)) l1.isList l2.isList (by simp only[List.size_toArray];omega) (by omega) (UQ E I hu r1 r2 p1 p2)
   rw[show its.toArray.size=as.length by simp only[List.size_toArray];omega,Cr hl] at this
   exact this
  ·rw[decide_eq_false (λe=>hl (congrArg List.length e))]
   exact SeqAt.RcNeAt.lists_lengths l1.isList l2.isList (by simp only[List.size_toArray,bne_iff_ne];omega) (by omega)
 ·intro K H H' x as e h
  obtain⟨a,xs,rfl,q1,p1⟩:=h
  exact⟨a,xs,rfl,e.seq q1,Paired.imp2 (λ_ _ z=>E.keep e z) p1⟩
end
section
variable {α β:Type}[DecidableEq α][DecidableEq β]{r:Enc α}{q:Enc β}{d:Nat}
end
section
variable {X:Cx}{α:Type}[DecidableEq α]{r:Enc α}{d:Nat}
noncomputable def Nj (K:PySem.W.Frag)(r:Enc α):R2:=λx y H Q=>∃ a b,r K H x a/\r K H y b/\Q (.bl (!decide (a=b))) H
theorem Ce (E:EqOk r d)(hu:X.A.units+d<cLine):OpR X (compareOp .NotEq) (Nj X.K r):=by
 intro pins s σ H x y v u Q I rx ry h
 obtain⟨a,b,h1,h2,q⟩:=h
 exact E.ne (A:=X.A) I rx ry h1 h2 hu _ _ _ _ ⟨.bl _,H,I,rfl,q⟩
theorem ZO:Qx X (.builtin "isinstance") (λxs H Q=>∃ x n t b,xs=[x, .ty n]/\TyOf X.K H x t/\PySem.W.kitOne X.K t (.type n)=some b/\Q (.bl b) H):=by
 intro pins s σ H xs us Q I r h
 obtain⟨x,n,t,b,rfl,ty,e,q⟩:=h
 obtain⟨u,v,rfl,ru,rv⟩:=Yv.two r
 cases(show v=Value.type n from rv)
 exact B4 I ru ty e λtk=>⟨.bl b,H,I.tok tk,rfl,q⟩
theorem QT:OpR X (binaryOp .FloorDiv) (rI (λ_ j=>0<j/\j.natAbs.log2<9000) λi j=>.int (i/j)):=opI λi j _ _ _ _ _ hc q=>by
 refine floordiv_int (by omega) ?_ (.inl (PyProof.noPylong_of_log2 hc.2))
 rw[Int.fdiv_eq_ediv_of_nonneg i (by omega)]
 exact q
end
end L2
namespace PySem
open Sem (wp)
section
variable {prog:Program}{w:World}{A:Around}{E:Value->Shared->Prop}{s:Shared}
end
end PySem
namespace L2
open PySem PySem.Spec PyProof.Rows
theorem U5 {α β:Type}{F:α->β->Prop}:∀{l:List α}{m:List β}{i:Nat}{b:β},Paired F l m->m[i]?=some b->∃a,l[i]?=some a/\F a b
 |_,_,_,_, .nil,e=>by simp at e
 |_,_,0,_, .cons r _,e=>by simp at e;subst e;exact⟨_,rfl,r⟩
 |_,_,i+1,b, .cons _ t,e=>by
  obtain⟨a,h1,h2⟩:=U5 (i:=i) (b:=b) t (by simpa using e)
  exact⟨a,by simpa using h1,h2⟩
section
variable {X:Cx}{e:Expr}{te:TE}
noncomputable def Nt (K:PySem.W.Frag):List V->Hp->VK->Prop:=λxs H Q=>∃ (a:Addr) (ns:List Int),xs=[.ref a]/\SqL K H a (ns.map V.int)/\Q (.int ns.sum) H
theorem Bn (hc:X.calm=true):Qx X (.builtin "sum") (Nt X.K):=by
 intro pins s σ H xs us Q I r h
 obtain⟨a,ns,rfl,hq,q⟩:=h
 obtain⟨u,rfl,ru⟩:=G6 r
 cases ru
 obtain⟨its,rv,pl,hz⟩:=I.list hq
 have hi:IntsAre its ns:=Dc rv
 have hlen:=hi.length
 have hlt:a<s.heap.objs.size:=by obtain⟨o,n,ho,_⟩:=pl;exact Heap.lt_size ho
 refine call_sum_walkG ?_
 refine wpAny_pyIter_list pl.isList ?_
 have W:=Walks.list (prog:=X.prog) (w:=X.w) (A:=X.A.in1) (I.ok.hd hc) s.heap.objs.size a (Nat.ne_of_lt hlt) its.toArray
 refine⟨s.heap.objs.size,_,_,_,_,_,λi=>ns.getD i 0,rfl,W,⟨⟨_,Heap.get?_push_size _ rfl,rfl,rfl⟩,pl.isList.at λo e=>Heap.get?_push_of_some _ e⟩,λb hb=>?_,λi v hv=>?_,λh' tk t' hk=>?_⟩
 ·rcases List.mem_cons.mp hb with e |hb
  ·rw[e,Heap.size_push];exact Nat.lt_succ_self _
  ·rw[List.mem_singleton.mp hb,Heap.size_push];exact Nat.lt_succ_of_lt hlt
 ·have hv':its[i]?=some v:=by simpa using hv
  have hil:i<its.length:=(List.getElem?_eq_some_iff.mp hv').1
  obtain⟨x,ex,rx⟩:=U5 rv hv'
  rw[List.getElem?_map] at ex
  cases e:ns[i]? with
  |none=>rw[e] at ex;cases ex
  |some z=>
   rw[e] at ex
   have ex':V.int z=x:=Option.some.inj ex
   subst ex'
   obtain⟨t,rfl⟩:=rx
   exact⟨t,by simp[List.getD,e]⟩
 ·have I2:Inv X pins σ H {s with heap:=h',toks:=tk}:=I.kept (t':=tk) λb o e=>hk b o (λhm=>by
   rw[List.mem_singleton.mp hm] at e
   exact absurd (Heap.lt_size e) (Nat.lt_irrefl _)) (Heap.get?_push_of_some _ e)
  refine⟨.int ns.sum,H,I2,⟨t',?_⟩,q⟩
  rw[List.size_toArray,hlen,preSum_getD,List.take_length]
end
section
variable {X:Cx}{pins:List (Addr×Obj)}{σ:St}{H:Hp}{s:Shared}{h':Heap}
theorem Inv.turnLay {t':Nat}{ch:List Addr}{T:Addr}{u:HO}(I:Inv X pins σ H s)(k:∀b o,b∉ch->s.heap.get? b=some o->h'.get? b=some o)(hf:∀b∈ch,Fq X pins H b)
  (hp:s.heap.objs.size<=T)(new:Zg X.prog X.w (upd H T u) h' T u):Inv X pins σ (upd H T u) {s with heap:=h',toks:=t'}:=by
 have hn:H T=none:=I.hok.fresh hp
 have nit:∀b o,H b=some o->b∉ch:=λb o e z=>by rw[(hf b z).1] at e;cases e
 refine I.step (g':=s.gens) (d':=s.drawn) (ch:=ch) (λb hb=>?_) (λb o _ _ hc e _=>k b o hc e) (λb o _ _ hc e _=>⟨o.slots,k b o hc e⟩)
  (λb o _ e n=>by rw[X3 (Nat.ne_of_lt (Nat.lt_of_lt_of_le (Heap.lt_size e) hp))];exact n)
  (λb o hc e=>⟨o,k b o hc e⟩) (λb xs e=>by rw[X3 (Ya e hn)];exact e) (λb o xs e=>by rw[X3 (Ya e hn)];exact e) (λb ps e=>⟨#[],by rw[X3 (Ya e hn),e];simp⟩) (λm hm=>?_) (λb v e=>?_) I.bare
 ·obtain⟨f0,f1,f2,f3,f4,f5⟩:=hf b hb
  exact⟨f3,f1,f4,f5⟩
 ·obtain⟨o,es,ep,ho,r⟩:=hm
  exact⟨o,es,ep,k _ o (λz=>(hf _ z).2.1 rfl) ho,r⟩
 ·by_cases hb:b=T
  ·subst hb;rw[YV] at e;cases e;exact new
  ·rw[X3 hb] at e
   refine(I.hok b v e).stay (λc o hc q=>k c o ?_ q) (λc q=>by rw[X3 (Ya q hn)];exact q) λc xs q=>by rw[X3 (Ya q hn)];exact q
   rcases hc with z |z
   ·rw[z];exact nit b v e
   ·exact nit c _ z
end
noncomputable def Ite (K:PySem.W.Frag)(a:Addr):It:=
 ⟨λi H=>∃ xs x,SqL K H a xs/\xs[i]?=some x,λi H y H'=>∃ p x,y= .ref p/\H p=none/\H'=upd H p (.tup [.int (i:Int),x])/\∀xs,SqL K H a xs->xs[i]?=some x,λi H=>∃ xs,SqL K H a xs/\xs.length<=i⟩
theorem CN {P:Program}{w:World}{K:PySem.W.Frag}{elts:List Expr}{k:Nat}{pos:Pos}(a e it:Addr)(h1:e≠it)(h2:a≠e)(h3:a≠it):
  Turn P w K (.Tuple elts k pos) (Ite K a) [e,it] e (λi h=>(∃old,IsEnum h e it (i:Int) old)/\h.IsListIter it a i) where
 mem:=by simp
 obj:=λi h st b hb=>by
  obtain⟨⟨old,eo⟩,o,io,c,d⟩:=st
  rcases List.mem_cons.mp hb with z |z
  ·subst z
   exact⟨_,eo,λv z=>by cases z⟩
  ·have z:=List.mem_singleton.mp z
   subst z
   exact⟨o,io,λv z=>by rw[d] at z;cases z⟩
 keep:=λi h h' st k=>⟨let ⟨old,eo⟩:=st.1;⟨old,k e (by simp) _ eo⟩,st.2.at λo q=>k it (by simp) o q⟩
 item:=by
  intro X hP hw hK hc i pins s σ H E I hf st hg
  subst hP hw hK
  obtain⟨xs,x,hq,hx⟩:=hg
  obtain⟨its,rv,p,hz⟩:=I.list hq
  obtain⟨u,hu,ru⟩:=rv.get hx
  obtain⟨⟨old,eo⟩,io⟩:=id st
  have hu':its.toArray[i]?=some u:=by simpa using hu
  have W:=WalksT.enumerate (prog:=X.prog) (w:=X.w) (A:=X.A) (I.ok.hd hc) e it a h1 h2 h3 its.toArray
  refine wpAny_pyNext_enum_item eo io p.isList hu' h1 λh' eo' io' tup sz kk=>?_
  have hT:∀b o,s.heap.get? b=some o->s.heap.objs.size≠b:=λb o q z=>absurd (Heap.lt_size q) (by rw[←z];exact Nat.lt_irrefl _)
  have hTe:=hT e _ eo
  have hTi:s.heap.objs.size≠it:=by obtain⟨o,q,_⟩:=io;exact hT it o q
  have ha':h'.IsList a its.toArray:=p.isList.at λo q=>kk a o h2 h3 q
  refine⟨_,rfl,W.go elts k pos i s.heap.objs.size _ _ _ ⟨⟨_,eo'⟩,io',ha',hTe,hTi⟩ λh'' st' kk'=>?_⟩
  obtain⟨st2,io2,_⟩:=st'
  have tup2:=kk' _ _ (by simp[hTe,hTi]) tup
  have k2:∀b o,b∉ [e,it]->s.heap.get? b=some o->h''.get? b=some o:=λb o q1 q=>kk' b o q1 (kk b o (λz=>q1 (by simp[z])) (λz=>q1 (by simp[z])) q)
  refine⟨.ref s.heap.objs.size,upd H s.heap.objs.size (.tup [.int (i:Int),x]),I.turnLay (h':=h'') (t':=s.toks+1) k2 hf (Nat.le_refl _) ⟨by show 2<=sizeLine;decide,[.int (i:Int) s.toks,u], .cons ⟨_,rfl⟩ (.cons ru .nil),⟨_,tup2,⟨rfl,rfl⟩,_,rfl⟩⟩,rfl,
   ⟨_,x,rfl,I.hok.fresh (Nat.le_refl _),rfl,λys hy=>by rw[I.list_inj hy hq];exact hx⟩,⟨by simpa using st2,io2⟩,λb hb=>?_⟩
  rcases List.mem_cons.mp hb with z |z
  ·rw[z,X3 hTe.symm];exact(hf e (by simp)).1
  ·rw[List.mem_singleton.mp z,X3 hTi.symm];exact(hf it (by simp)).1
 done:=by
  intro X hP hw hK hc i pins s σ H E I hf st hg
  subst hP hw hK
  obtain⟨xs,hq,hx⟩:=hg
  obtain⟨its,rv,p,hz⟩:=I.list hq
  obtain⟨⟨old,eo⟩,io⟩:=id st
  obtain⟨f0,f1,f2,f3,f4,f5⟩:=hf it (by simp)
  have hl:=rv.length
  exact wpAny_pyNext_enum_end (I.ok.hd hc) eo io p.isList (by simp;omega) λh' eb=>⟨rfl,I.turned (t':=s.toks) (λb o hb q=>eb b o hb q) f0 f1 f3 f4 f5⟩
 self:=by
  intro A i s Q E st h
  obtain⟨⟨old,eo⟩,io⟩:=st
  exact wpAny_pyIter_enum eo h
section
variable {X:Cx}{elts:List Expr}{k:Nat}{pos0:Pos}
noncomputable def Mb (K:PySem.W.Frag)(tl:TE):TI:=λσ H R=>tl σ H λx H1=>∃ a,x= .ref a/\(∃xs,SqL K H1 a xs)/\R (Ite K a) H1
theorem Iy {l:Expr}{tl:TE}{p pos:Pos}(hg:Gl X "enumerate")(hm:X.mg "enumerate" =none)(hl:PE X l tl)(hs:starEach [l] X.env=[(false,eval l X.env)]:=by rfl):
  PI X (.Tuple elts k pos0) (.Call (.Name "enumerate" p) [l] [] pos) (Mb X.K tl):=by
 intro pins s σ H R I h
 refine wpAny_Call_Name_kw (VV I hg hm boot_enumerate ?_)
 refine PyProof.Rows.callWith_type1 ?_ hs rfl
 rw[hs]
 show wpAny _ _ (spliced ((false,eval l X.env)::backTo pos [])) _ _ s
 refine Calls.spliced_cons (thn (hl pins s σ H _ I h) λv s1 ⟨x,H1,I1,r1,a,ex,⟨xs,hq⟩,q⟩=>?_)
 subst ex
 cases r1
 obtain⟨its,rv,pl,hz⟩:=I1.list hq
 refine Calls.spliced_nil ?_
 have hlt:a<s1.heap.objs.size:=by obtain⟨o,n,ho,_⟩:=pl;exact Heap.lt_size ho
 refine call_enumerate_list pl.isList λh' en io sz kk=>?_
 refine wpAny_pyIter_enum en ?_
 refine⟨_,[s1.heap.objs.size+1,s1.heap.objs.size],_,_,H1,rfl,I1.kept (t':=s1.toks) kk,CN a _ _ (Nat.ne_of_gt (Nat.lt_succ_self _)) (Nat.ne_of_lt (Nat.lt_succ_of_lt hlt)) (Nat.ne_of_lt hlt),⟨⟨_,en⟩,io⟩,λb hb=>?_,q⟩
 have hb':s1.heap.objs.size<=b:=by
  rcases List.mem_cons.mp hb with z |z
  ·rw[z];exact Nat.le_succ _
  ·rw[List.mem_singleton.mp z];exact Nat.le_refl _
 exact I1.fpOk hb' (I1.hok.fresh hb')
end
noncomputable def C0 (K:PySem.W.Frag):V->List V->Hp->VK->Prop:=λx vs H Q=>∃ l xs y,∃j:Nat,x= .ref l/\vs=[y]/\SqL K H l xs/\Vi y=true/\xs.all Vi=true/\(∃z,xs[j]?=some z/\eqV z y=true)/\(∀(m:Nat) z,m<j->xs[m]?=some z->eqV z y=false)/\Q (.int (j:Int)) H
section
variable {X:Cx}
theorem Eg:MtR X "list.index" (C0 X.K):=by
 intro pins s σ H x vs v us Q I rx rv h
 obtain⟨l,xs,y,j,rfl,rfl,hq,fy,fs,⟨z,hz,ez⟩,hm,q⟩:=h
 cases rx
 obtain⟨u,rfl,ry⟩:=Yv.one rv
 obtain⟨its,r,pl,hle⟩:=I.list hq
 have hl:=r.length
 have hjl:=(List.getElem?_eq_some_iff.mp hz).1
 have ge:∀(m:Nat) (w:V),xs[m]?=some w->∀hm:m<its.toArray.size,eqU y its.toArray[m]=eqV w y:=λm w hw hm=>by
  obtain⟨u',hu',ru'⟩:=r.get hw
  have e:its.toArray[m]=u':=by
   have:=(List.getElem?_eq_some_iff.mp hu').2
   simpa using this
  rw[e]
  exact By ru' (List.all_eq_true.mp fs w (List.mem_of_getElem? hw))
 obtain⟨o,n,ho,hc,hd,hs⟩:=id pl
 obtain⟨cls,dict,data,slots⟩:=o
 cases hc;cases hd;cases hs
 refine call_meets F.slot_list_index ⟨_,ho,rfl⟩ F.entry_list_index (F.args_list_index_2 _ _) (SeqAt.list_indexAt l its.toArray n none slots u (eqU y) j (by rw[List.size_toArray];omega) ?_ ?_ ?_) ⟨ho,λw hw=>Vt ry fy r fs w (by simpa using hw),?_⟩
 ·have:sizeLine<2^63-1:=by decide
  omega
 ·rw[ge j z hz];exact ez
 ·intro m hm' hlt
  rw[ge m xs[m] (List.getElem?_eq_getElem (by omega))]
  exact hm m _ hlt (List.getElem?_eq_getElem (by omega))
 ·exact⟨.int (j:Int),H,I.tok _,⟨_,rfl⟩,q⟩
end
section
variable {α:Type}[DecidableEq α]{r:Enc α}{d:Nat}
end
section
variable {X:Cx}{o e f:Expr}{td ty tx:TE}{apos cpos:Pos}
end
section
variable {X:Cx}{elt tg iter:Expr}{ifs:List Expr}{scope sc:Scope}{pos:Pos}{n:Nat}{tns:List Str}{caps:List (Nat×Str)}{wi:TI}{g:TG}{tt:TT}{te:TE}
end
theorem V4:∀(xs:List V) (us:List Value),xs.length=us.length->(∀(j:Nat) x u,xs[j]?=some x->us[j]?=some u->Yy x u)->Yv xs us
 | [],[],_,_=>.nil
 | [],_::_,h,_=>by simp at h
 |_::_,[],h,_=>by simp at h
 |x::xs,u::us,h,r=>.cons (r 0 x u rfl rfl) (V4 xs us (by simpa using h) λj y v e1 e2=>r (j+1) y v (by simpa using e1) (by simpa using e2))
noncomputable def Fr (ta:TA):TE:=λσ H Q=>ta σ H λvs H1=>∃ j:Int,vs=[.int j]/\0<=j/\j<=1000/\∀p,H1 p=none->Q (.ref p) (upd H1 p (.lst ((List.range j.toNat).map λi=>V.int ((i:Nat):Int))))
variable {X:Cx}
theorem Vb {e:Expr}{ta:TA}{p q q2 pos:Pos}(hc:X.calm=true)(hg:Gl X "list")(hg2:Gl X "range")(hm:X.mg "list" =none)(hm2:X.mg "range" =none)(ha:PA X [e] ta)
  (hs:starEach [.Call (.Name "range" q) [e] [] q2] X.env=[(false,eval (.Call (.Name "range" q) [e] [] q2) X.env)]:=by rfl)(hs2:starEach [e] X.env=[(false,eval e X.env)]:=by rfl):
  PE X (.Call (.Name "list" p) [.Call (.Name "range" q) [e] [] q2] [] pos) (Fr ta):=by
 intro pins s σ H Q I h
 refine wpAny_Call_Name_kw (VV I hg hm PyProof.Rows.boot_list ?_)
 refine PyProof.Rows.callWith_type1 ?_ hs rfl
 rw[hs]
 show wpAny _ _ (spliced ((false,eval (.Call (.Name "range" q) [e] [] q2) X.env)::backTo pos [])) _ _ s
 refine Calls.spliced_cons ?_
 refine wpAny_Call_Name_kw (VV I hg2 hm2 boot_range ?_)
 refine PyProof.Rows.callWith_type1 (thn (ha q2 pins s σ H _ I h) λus s1 r9=>?_) hs2 rfl
 obtain⟨vs,H1,I1,r1,q1⟩:=r9
 obtain⟨j,e,h0,h1,k⟩:=q1
 subst e
 cases r1 with
 |cons r rr=>
  cases rr
  obtain⟨t,rfl⟩:=r
  refine call_range_1 ?_
  refine Calls.spliced_nil ?_
  refine call_list_range (n:=j.toNat) (I.ok.hd hc) (IsRange.new ..) (small_one (by omega) (by omega) (by omega) (by omega)) (by rw[rangeSize_one];split<;> omega) (by omega) λh' tk acc' c' hk hS hacc=>?_
  refine⟨.ref _,_,I1.laid (h':=h') (t':=tk) (o:=.lst ((List.range j.toNat).map λi=>V.int ((i:Nat):Int))) (λb o e=>hk b o (Heap.get?_push_of_some _ e)) (by rw[Heap.size_push];exact Nat.le_succ _) ?_,rfl,k _ (I1.hok.fresh (by rw[Heap.size_push];exact Nat.le_succ _))⟩
  refine⟨by rw[List.length_map,List.length_range];exact Nat.le_of_lt (B2 (by omega)),acc'.toList,c',V4 _ _ (by simp[hacc.1]) λi x u e1 e2=>?_,hS⟩
  have e2':acc'[i]?=some u:=by simpa using e2
  obtain⟨tk,rfl⟩:=hacc.2 i u e2'
  rw[List.getElem?_map] at e1
  cases e3:(List.range j.toNat)[i]? with
  |none=>rw[e3] at e1;cases e1
  |some z=>
   rw[e3] at e1
   have hz:z=i:=by
    have hi:i<j.toNat:=by have:=(List.getElem?_eq_some_iff.mp e3).1;simpa using this
    rw[List.getElem?_range hi] at e3
    exact(Option.some.inj e3).symm
   subst hz
   have:x=V.int (z:Int):=(Option.some.inj e1).symm
   subst this
   exact⟨tk,by simp⟩
theorem VR {l:List Expr}{p:Pos}{es:List Expr}{env:Env}:starEach (.List l p::es) env=(false,eval (.List l p) env)::starEach es env:=rfl
theorem U6 {X:Cx}{l:List Expr}{p:Pos}{es:List Expr}{te:TE}{t:TA}(ha:PE X (.List l p) te)(hr:PA X es t):PA X (.List l p::es) (XM te t):=Xd ha hr VR
theorem KR {X:Cx}(K:PySem.W.Frag)(h:X.K=K):MtR X "list.index" (C0 K):=by subst h;exact Eg
variable {X:Cx}{o e:Expr}{es:List Expr}{to:TE}{t:TA}{name:Str}{apos cpos:Pos}{T id:String}{r:V->List V->Hp->VK->Prop}
theorem L0 (K:PySem.W.Frag)(hK:X.K=K)(pa:PlainAttrs T)(slot:Slot T name id)(hty:typeOf (.builtin id)=pure (.type "method_descriptor"))(hm:MtR X id r)(ho:PE X o to)(ha:PA X (e::es) t)
  (hbase:attributeBase o name X.env (eval o X.env)=eval o X.env:=by rfl)
  (hfew:((backTo cpos (starEach (e::es) X.env)).all (λx=>!x.1)&&(backToKw cpos (keywordEach [] X.env)).all (λx=>x.1.isSome)
   &&decide ((e::es).length+([]:List Keyword).length+(if([]:List Keyword).isEmpty then 0 else 1)<30))=true:=by rfl)
  (hline:(apos.endLine==cpos.line)=true:=by rfl)(hs:starEach (e::es) X.env=(false,eval e X.env)::starEach es X.env:=by rfl)(hplain:(backTo cpos (starEach es X.env)).any (·.1)=false:=by rfl):
  PE X (.Call (.Attribute o name apos) (e::es) [] cpos) (tBM K T r to t):=by
 subst hK
 exact Zt pa slot hty hm ho ha hbase hfew hline hs hplain
end L2
namespace PySem
open PySem.Spec
namespace SeqAt
open MeetsSeq
end SeqAt
end PySem
namespace L2
open PySem PySem.Spec PyProof.Rows
section
variable {X:Cx}
end
noncomputable def Ng (K:PySem.W.Frag):List V->Hp->VK->Prop:=λxs H Q=>∃ (a:Addr) (bs:List Bool),xs=[.ref a]/\SqL K H a (bs.map V.bl)/\Q (.bl (bs.all id)) H
section
variable {X:Cx}
theorem Me:∀(bs:List Bool),((List.range bs.length).all λi=>(bs[i]?).getD true)=bs.all id:=λbs=>by
 rw[Bool.eq_iff_iff,List.all_eq_true,List.all_eq_true]
 constructor
 ·intro h b hb
  obtain⟨i,hi,rfl⟩:=List.getElem_of_mem hb
  have:=h i (List.mem_range.mpr hi)
  simpa[List.getElem?_eq_getElem hi] using this
 ·intro h i hi
  have hi':=List.mem_range.mp hi
  simpa[List.getElem?_eq_getElem hi'] using h _ (List.getElem_mem hi')
theorem KN (hc:X.calm=true):Qx X (.builtin "all") (Ng X.K):=by
 intro pins s σ H xs us Q I r h
 obtain⟨a,bs,rfl,hq,q⟩:=h
 obtain⟨u,rfl,ru⟩:=G6 r
 cases ru
 obtain⟨its,rv,pl,hz⟩:=I.list hq
 have hlen:bs.length=its.length:=by have:=rv.length;rwa [List.length_map] at this
 have hlt:a<s.heap.objs.size:=by obtain⟨o,n,ho,_⟩:=pl;exact Heap.lt_size ho
 refine call_all_walk (wpAny_pyIter_list pl.isList ?_)
 refine⟨s.heap.objs.size,[s.heap.objs.size,a],[s.heap.objs.size],its.toArray.size,_,_,λi=>(bs[i]?).getD true,rfl,Walks.list (A:=X.A.in1) (I.ok.hd hc) _ a (Nat.ne_of_lt hlt) its.toArray,
  ⟨⟨_,Heap.get?_push_size _ rfl,rfl,rfl⟩,pl.isList.at λo e=>Heap.get?_push_of_some _ e⟩,λi v s' Q' E' hP hQ=>?_,λh' tk hk=>?_⟩
 ·have hv':its[i]?=some v:=by simpa using hP
  obtain⟨x,ex,rx⟩:=U5 rv hv'
  rw[List.getElem?_map] at ex
  cases e:bs[i]? with
  |none=>rw[e] at ex;cases ex
  |some z=>
   rw[e] at ex
   have ex':V.bl z=x:=Option.some.inj ex
   subst ex'
   cases rx
   simp only[e,Option.getD_some] at hQ
   exact wpAny_truthy_bool hQ
 ·have e:((List.range its.toArray.size).all λi=>(bs[i]?).getD true)=bs.all id:=by
   rw[List.size_toArray, ←hlen];exact Me bs
  rw[e]
  have I2:Inv X pins σ H {s with heap:=h',toks:=tk}:=I.kept (t':=tk) λb o e=>hk b o (λhm=>by
   rw[List.mem_singleton.mp hm] at e
   exact absurd (Heap.lt_size e) (Nat.lt_irrefl _)) (Heap.get?_push_of_some _ e)
  exact⟨.bl (bs.all id),H,I2,rfl,q⟩
end
section
variable {X:Cx}{α:Type}[DecidableEq α]{r:Enc α}{d:Nat}
end
section
variable {X:Cx}
end
section
variable {X:Cx}
variable {T:String}{name:Str}{id:String}{r:V->List V->Hp->VK->Prop}{o e:Expr}{es:List Expr}{to:TE}{t:TA}{apos cpos:Pos}
theorem Hi {K:PySem.W.Frag}(hK:X.K=K)(pa:PlainAttrs T)(slot:Slot T name id)(hty:typeOf (.builtin id)=pure (.type "method_descriptor"))(hm:MtR X id r)(ho:PE X o to)(ha:PA X (e::es) t)
  (hbase:attributeBase o name X.env (eval o X.env)=eval o X.env:=by rfl)
  (hfew:((backTo cpos (starEach (e::es) X.env)).all (λx=>!x.1)&&(backToKw cpos (keywordEach [] X.env)).all (λx=>x.1.isSome)
   &&decide ((e::es).length+([]:List Keyword).length+(if([]:List Keyword).isEmpty then 0 else 1)<30))=true:=by rfl)
  (hline:(apos.endLine==cpos.line)=true:=by rfl)(hs:starEach (e::es) X.env=(false,eval e X.env)::starEach es X.env:=by rfl)(hplain:(backTo cpos (starEach es X.env)).any (·.1)=false:=by rfl):
  PE X (.Call (.Attribute o name apos) (e::es) [] cpos) (tBM K T r to t):=L0 K hK pa slot hty hm ho ha hbase hfew hline hs hplain
end
section
variable {X:Cx}{elt tg iter:Expr}{ifs:List Expr}{scope:Scope}{pos:Pos}{wi:TI}{g:TG}{tt:TT}{te:TE}
theorem YX {sc:Scope}{N0:List Str}{tns:List Str}{caps:List (Nat×Str)}(hc:X.calm=true)(hi:PI X tg iter wi)(hG:UV tns.length g)
  (hb:∀cl C s H ex E,PG (X.comp (tns++caps.map (·.2)) scope cl C s H ex E) tg g/\PTs (X.comp (tns++caps.map (·.2)) scope cl C s H ex E) ifs tt/\PE (X.comp (tns++caps.map (·.2)) scope cl C s H ex E) elt te)
  (hsc:X.env.scope=sc:=by rfl)(hN0:X.N=N0:=by rfl)(ok:KB sc scope N0 tns caps=true:=by decide+kernel)
  (hs:∀x,foldedSetIterable iter X.env x=pure x:=by intro _;rfl):
  PE X (.ListComp elt [⟨tg,iter,ifs,0⟩] scope pos) (CO tns.length caps wi g tt te):=Ih sc N0 tns caps hc hi hG hb hsc hN0 ok hs
end
section
variable {X:Cx}{tg l:Expr}{tl:TE}{p pos:Pos}{K:PySem.W.Frag}
theorem XO (h:X.K=K)(hl:PE X l tl):PI X tg l (Ll K tl):=by subst h;exact IQ hl
end
noncomputable def K2:List Int->Int
 | []=>0
 |a::r=>r.foldl max a
theorem F7 (ns:List Int):∀k,k<ns.length->ns.getD (argBest (λi j=>decide (ns.getD i 0 > ns.getD j 0)) k) 0=K2 (ns.take (k+1))
 |0,h=>by
  cases ns with
  |nil=>simp at h
  |cons a r=>simp[argBest,K2]
 |k+1,h=>by
  have ih:=F7 ns k (by omega)
  have e:K2 (ns.take (k+1+1))=max (K2 (ns.take (k+1))) (ns.getD (k+1) 0):=by
   rw[List.take_succ_eq_append_getElem h]
   cases ns with
   |nil=>simp at h
   |cons a r=>
    rw[List.take_succ_cons]
    simp only[K2,List.cons_append,List.foldl_append,List.foldl_cons,List.foldl_nil]
    rw[List.getD_eq_getElem?_getD,List.getElem?_eq_getElem h]
    rfl
  rw[e, ←ih]
  show ns.getD (if(decide (ns.getD (k+1) 0 > ns.getD (argBest _ k) 0))=true then k+1 else argBest _ k) 0=_
  by_cases hc:ns.getD (k+1) 0 > ns.getD (argBest (λi j=>decide (ns.getD i 0 > ns.getD j 0)) k) 0
  ·rw[if_pos (by simpa using hc)];omega
  ·rw[if_neg (by simpa using hc)];omega
section
variable {X:Cx}
theorem BX {its:List Value}{ns:List Int}(rv:Yv (ns.map V.int) its):∀(i:Nat) (v:Value),its.toArray[i]?=some v->∃t,v=Value.int (ns.getD i 0) t:=λi v hv=>by
 have hv':its[i]?=some v:=by simpa using hv
 obtain⟨x,ex,rx⟩:=U5 rv hv'
 rw[List.getElem?_map] at ex
 cases e:ns[i]? with
 |none=>rw[e] at ex;cases ex
 |some z=>
  rw[e] at ex
  have ex':V.int z=x:=Option.some.inj ex
  subst ex'
  obtain⟨t,rfl⟩:=rx
  exact⟨t,by simp[List.getD,e]⟩
noncomputable def LN (K:PySem.W.Frag)(f:List Int->Int):List V->Hp->VK->Prop:=λxs H Q=>∃ (a:Addr) (ns:List Int),xs=[.ref a]/\SqT K H a (ns.map V.int)/\0<ns.length/\Q (.int (f ns)) H
theorem CT (K:PySem.W.Frag)(hK:X.K=K)(hc:X.calm=true):Qx X (.builtin "max") (LN K K2):=by
 subst hK
 intro pins s σ H xs us Q I r h
 obtain⟨a,ns,rfl,hq,hne,q⟩:=h
 obtain⟨u,rfl,ru⟩:=G6 r
 cases ru
 obtain⟨its,rv,pl,hz⟩:=I.tuple hq
 have hlen:its.length=ns.length:=by have:=rv.length;simpa using this.symm
 have hlt:a<s.heap.objs.size:=by obtain⟨o,ho,_⟩:=pl;exact Heap.lt_size ho
 refine call_max_walk (wpAny_pyIter_tuple pl ?_)
 refine⟨s.heap.objs.size,_,_,_,_,_,_,rfl,Walks.tuple (prog:=X.prog) (w:=X.w) (A:=X.A.in1) (I.ok.hd hc) s.heap.objs.size a (Nat.ne_of_lt hlt) its.toArray,⟨⟨_,Heap.get?_push_size _ rfl,rfl,rfl⟩,(show s.heap.IsTuple a its.toArray from pl).at λo e=>Heap.get?_push_of_some _ e⟩,λb hb=>?_,by rw[List.size_toArray,hlen];exact hne,CmpOf.ints_gt (λi=>ns.getD i 0) (BX rv),λv h' tk hP hk=>?_⟩
 ·rcases List.mem_cons.mp hb with e |hb
  ·rw[e,Heap.size_push];exact Nat.lt_succ_self _
  ·rw[List.mem_singleton.mp hb,Heap.size_push];exact Nat.lt_succ_of_lt hlt
 ·have I2:Inv X pins σ H {s with heap:=h',toks:=tk}:=I.kept (t':=tk) λb o e=>hk b o (λhm=>by
   rw[List.mem_singleton.mp hm] at e
   exact absurd (Heap.lt_size e) (Nat.lt_irrefl _)) (Heap.get?_push_of_some _ e)
  obtain⟨t,rfl⟩:=BX rv _ _ hP
  refine⟨.int (K2 ns),H,I2,⟨t,?_⟩,q⟩
  rw[List.size_toArray,hlen,F7 ns (ns.length-1) (by omega),show ns.length-1+1=ns.length by omega,List.take_length]
end
inductive Pay where
 |non |int (i:Int) |tag (t:Str) (xs:List Int)
 deriving DecidableEq
structure Exc where
 cls:Str
 pay:Pay
inductive Rs (α:Type) where
 |bad |err (x:Exc) |ok (a:α)
noncomputable def Rs.bind {α β:Type}:Rs α->(α->Rs β)->Rs β
 | .bad,_=>.bad
 | .err x,_=>.err x
 | .ok a,f=>f a
theorem Rs.ok_bind {α β:Type}(a:α)(f:α->Rs β):(Rs.ok a).bind f=f a:=rfl
noncomputable def chk {α:Type}(c:Prop)[Decidable c](m:Rs α):Rs α:=if c then m else .bad
theorem XE {α:Type}{c:Prop}[Decidable c]{m:Rs α}(h:c):chk c m=m:=if_pos h
noncomputable abbrev XF:=Addr×HO
noncomputable def Lu:HO->Bool
 | .lst _=>true
 | .dK _=>true
 | .dT _=>true
 |_=>false
noncomputable def fl (OO:List (List XF)):List Addr:=OO.flatten.map (·.1)
open Classical in
noncomputable def hid (H:Hp)(OO:List (List XF)):Hp:=λb=>if b∈fl OO then none else H b
structure W (OO:List (List XF))(H:Hp):Prop where
 tr:∀c∈OO.flatten,H c.1=some c.2
 nd:(fl OO).Nodup
 mu:∀c∈OO.flatten,Lu c.2=true
theorem Yx {H:Hp}{OO}{b:Addr}{o:HO}(h:hid H OO b=some o):H b=some o/\b∉fl OO:=by
 unfold hid at h
 split at h
 ·cases h
 ·exact⟨h,by assumption⟩
theorem Qd {H:Hp}{OO}{b:Addr}{o:HO}(h:H b=some o)(n:b∉fl OO):hid H OO b=some o:=by
 unfold hid;rw[if_neg n];exact h
theorem XN {H:Hp}{OO}:XG (hid H OO) H:=λb o h=>(Yx h).1
theorem Xm {H H':Hp}{OO}(s:XG H H'):XG (hid H OO) (hid H' OO):=λb o h=>Qd (s _ _ (Yx h).1) (Yx h).2
theorem Q5 {H H':Hp}{OO OO'}(s:XG H H')(h:∀b,b∈fl OO'->b∈fl OO):XG (hid H OO) (hid H' OO'):=λb o q=>Qd (s _ _ (Yx q).1) λz=>(Yx q).2 (h b z)
theorem YG {C:List XF}{OO}:fl (C::OO)=C.map (·.1)++fl OO:=by simp[fl]
theorem Bf {OO}:fl ([]::OO)=fl OO:=by simp[fl]
theorem Zo {H:Hp}{OO}:hid H ([]::OO)=hid H OO:=by unfold hid;rw[Bf]
theorem W.keep {OO}{H H':Hp}(w:W OO H)(s:XG H H'):W OO H':=⟨λc hc=>s _ _ (w.tr c hc),w.nd,w.mu⟩
theorem W.of {OO OO':List (List XF)}{H:Hp}(w:W OO H)(h:OO'.flatten.Perm OO.flatten):W OO' H:=
 ⟨λc hc=>w.tr c (h.mem_iff.mp hc),(h.map _).nodup_iff.mpr w.nd,λc hc=>w.mu c (h.mem_iff.mp hc)⟩
theorem W.sub {OO OO':List (List XF)}{H:Hp}(w:W OO H)(h:OO'.flatten.Sublist OO.flatten):W OO' H:=
 ⟨λc hc=>w.tr c (h.mem hc),(h.map _).nodup w.nd,λc hc=>w.mu c (h.mem hc)⟩
theorem W.tail {C OO}{H:Hp}(w:W (C::OO) H):W OO H:=w.sub (by simp)
theorem W.nil {OO}{H:Hp}(w:W OO H):W ([]::OO) H:=w.of (by simp)
theorem W.cell {C OO}{H:Hp}(w:W (C::OO) H):∀c∈C,H c.1=some c.2:=λc hc=>w.tr c (by simp[hc])
theorem UG {OO:List (List XF)}{c:XF}(h:c∈OO.flatten):c.1∈fl OO:=List.mem_map.mpr ⟨c,h,rfl⟩
theorem Dh {OO:List (List XF)}{b:Addr}(h:b∈fl OO):∃o,(b,o)∈OO.flatten:=by
 obtain⟨⟨a,o⟩,hc,rfl⟩:=List.mem_map.mp h
 exact⟨o,hc⟩
theorem W.fresh {OO}{H:Hp}(w:W OO H){p:Addr}(h:H p=none):p∉fl OO:=λz=>by
 obtain⟨o,ho⟩:=Dh z
 have:=w.tr _ ho
 rw[h] at this;cases this
theorem W.new {OO}{H:Hp}(w:W OO H){p:Addr}(h:H p=none){o:HO}(m:Lu o=true):W ([(p,o)]::OO) (upd H p o):=by
 have hf:=w.fresh h
 refine⟨λc hc=>?_,?_,λc hc=>?_⟩
 ·simp only[List.flatten_cons,List.cons_append,List.nil_append,List.mem_cons] at hc
  rcases hc with rfl |hc
  ·exact YV
  ·rw[X3 (λe=>hf (by rw[←e];exact UG hc))];exact w.tr c hc
 ·rw[YG];simpa using ⟨hf,w.nd⟩
 ·simp only[List.flatten_cons,List.cons_append,List.nil_append,List.mem_cons] at hc
  rcases hc with rfl |hc
  ·exact m
  ·exact w.mu c hc
theorem Ug {OO}{H:Hp}{p:Addr}(h:H p=none){o:HO}:XG (hid H OO) (hid (upd H p o) ([(p,o)]::OO)):=λb u q=>by
 obtain⟨q1,q2⟩:=Yx q
 have hb:b≠p:=Ya q1 h
 refine Qd (by rw[X3 hb];exact q1) ?_
 rw[YG];simpa using ⟨hb,q2⟩
theorem QL {OO}{H:Hp}(w:W OO H){p:Addr}(h:H p=none){o:HO}:hid (upd H p o) OO p=some o:=Qd YV (w.fresh h)
class MonoE {α:Type}(r:Enc α):Prop where
 mono:∀{K:PySem.W.Frag}{H H':Hp}{v:V}{a:α},XG H H'->r K H v a->r K H' v a
noncomputable def Nl:HO->Bool
 | .tup _=>true
 | .frz _ _=>true
 |_=>false
noncomputable def Uv (H H':Hp):Prop:=∀ b o,H b=some o->Nl o=true->H' b=some o
theorem XG.i {H H':Hp}(s:XG H H'):Uv H H':=λb o h _=>s b o h
theorem W.i {OO}{H:Hp}(w:W OO H):Uv H (hid H OO):=λb o h i=>Qd h λz=>by
 obtain⟨u,hu⟩:=Dh z
 have h1:=w.tr _ hu
 have h2:=w.mu _ hu
 rw[h] at h1
 have e:o=u:=Option.some.inj h1
 subst e
 revert i h2;cases o<;> simp[Nl,Lu]
theorem Uv.trans {H H1 H2:Hp}(a:Uv H H1)(b:Uv H1 H2):Uv H H2:=λc o h i=>b c o (a c o h i) i
class FlatE {α:Type}(r:Enc α):Prop where
 flat:∀{K:PySem.W.Frag}{H H':Hp}{v:V}{a:α},Uv H H'->r K H v a->r K H' v a
instance {α:Type}{r:Enc α}[f:FlatE r]:MonoE r:=⟨λs h=>f.flat s.i h⟩
noncomputable def XQ:Enc Bool:=λ_ _ v b=>v= .bl b
noncomputable def Hq {α:Type}(r:Enc α):Enc (Option α):=λK H v a=>match a with
 |none=>v= .non
 |some a=>v≠ .non/\r K H v a
noncomputable def rV {α:Type}(r:Enc α):Enc (List α):=λK H v as=>∃ a xs,v= .ref a/\H a=some (.lst xs)/\Paired (r K H) xs as
noncomputable def rPL {α:Type}(r:Enc α):Enc (List α):=λK H v as=>∃ a xs,v= .ref a/\H a=some (.tup xs)/\Paired (r K H) xs as
noncomputable def rP2 {α β:Type}(r:Enc α)(q:Enc β):Enc (α×β):=λK H v p=>∃ a x y,v= .ref a/\H a=some (.tup [x,y])/\r K H x p.1/\q K H y p.2
noncomputable def rP3 {α β γ:Type}(r:Enc α)(q:Enc β)(t:Enc γ):Enc (α×β×γ):=λK H v p=>∃ a x y z,v= .ref a/\H a=some (.tup [x,y,z])/\r K H x p.1/\q K H y p.2.1/\t K H z p.2.2
instance {α:Type}{r:Enc α}[m:MonoE r]:MonoE (rV r):=⟨λs r9=>by obtain⟨a,xs,e,q,p⟩:=r9;exact⟨a,xs,e,s _ _ q,Paired.imp2 (λ_ _ z=>m.mono s z) p⟩⟩
instance {α:Type}{r:Enc α}[m:MonoE r]:MonoE (rPL r):=⟨λs r9=>by obtain⟨a,xs,e,q,p⟩:=r9;exact⟨a,xs,e,s _ _ q,Paired.imp2 (λ_ _ z=>m.mono s z) p⟩⟩
instance {α:Type}{r:Enc α}[m:FlatE r]:FlatE (rPL r):=⟨λs r9=>by obtain⟨a,xs,e,q,p⟩:=r9;exact⟨a,xs,e,s _ _ q rfl,Paired.imp2 (λ_ _ z=>m.flat s z) p⟩⟩
instance {α β:Type}{r:Enc α}{q:Enc β}[m:MonoE r][n:MonoE q]:MonoE (rP2 r q):=⟨λs r9=>by obtain⟨a,x,y,e,h,p1,p2⟩:=r9;exact⟨a,x,y,e,s _ _ h,m.mono s p1,n.mono s p2⟩⟩
instance {α β:Type}{r:Enc α}{q:Enc β}[m:FlatE r][n:FlatE q]:FlatE (rP2 r q):=⟨λs r9=>by obtain⟨a,x,y,e,h,p1,p2⟩:=r9;exact⟨a,x,y,e,s _ _ h rfl,m.flat s p1,n.flat s p2⟩⟩
instance {α β γ:Type}{r:Enc α}{q:Enc β}{t:Enc γ}[m:MonoE r][n:MonoE q][k:MonoE t]:MonoE (rP3 r q t):=⟨λs r9=>by obtain⟨a,x,y,z,e,h,p1,p2,p3⟩:=r9;exact⟨a,x,y,z,e,s _ _ h,m.mono s p1,n.mono s p2,k.mono s p3⟩⟩
instance {α β γ:Type}{r:Enc α}{q:Enc β}{t:Enc γ}[m:FlatE r][n:FlatE q][k:FlatE t]:FlatE (rP3 r q t):=⟨λs r9=>by obtain⟨a,x,y,z,e,h,p1,p2,p3⟩:=r9;exact⟨a,x,y,z,e,s _ _ h rfl,m.flat s p1,n.flat s p2,k.flat s p3⟩⟩
instance:FlatE Xa:=⟨λ_ h=>h⟩
instance:FlatE XQ:=⟨λ_ h=>h⟩
instance {α:Type}{r:Enc α}[m:MonoE r]:MonoE (rL r):=⟨λs r9=>by obtain⟨a,xs,e,q,p⟩:=r9;exact⟨a,xs,e,s.seq q,Paired.imp2 (λ_ _ z=>m.mono s z) p⟩⟩
instance {α:Type}{r:Enc α}[m:MonoE r]:MonoE (Hq r):=⟨fun {K H H' v a} s h=>by cases a with
 |none=>exact h
 |some a=>exact⟨h.1,m.mono s h.2⟩⟩
instance {α:Type}{r:Enc α}[m:FlatE r]:FlatE (Hq r):=⟨fun {K H H' v a} s h=>by cases a with
 |none=>exact h
 |some a=>exact⟨h.1,m.flat s h.2⟩⟩
noncomputable abbrev OE (α:Type):=PySem.W.Frag->Hp->V->α->List XF->Prop
inductive P3 {α β γ:Type}(F:α->β->γ->Prop):List α->List β->List γ->Prop where
 |nil:P3 F [] [] []
 |cons {a b c l m n}:F a b c->P3 F l m n->P3 F (a::l) (b::m) (c::n)
noncomputable def oF {α:Type}(r:Enc α):OE α:=λK h v a C=>C=[]/\r K h v a
noncomputable def oL {α:Type}(o:OE α):OE (List α):=λK h v as C=>∃ p xs Cs,v= .ref p/\P3 (o K h) xs as Cs/\C=(p, .lst xs)::Cs.flatten
noncomputable def oT2 {α β:Type}(o:OE α)(q:OE β):OE (α×β):=λK h v a C=>∃ p x y C1 C2,v= .ref p/\h p=some (.tup [x,y])/\o K h x a.1 C1/\q K h y a.2 C2/\C=C1++C2
noncomputable def MS {α:Type}(o:OE α):OE (Option α):=λK h v a C=>match a with
 |none=>v= .non/\C=[]
 |some a=>v≠ .non/\o K h v a C
section
variable {α β γ δ:Type}
theorem P3.imp {F G:α->β->γ->Prop}(h:∀a b c,F a b c->G a b c):∀{l m n},P3 F l m n->P3 G l m n:=λp=>by
 induction p with
 |nil=>exact .nil
 |cons r _ ih=>exact .cons (h _ _ _ r) ih
theorem P3.app {F:α->β->γ->Prop}:∀{l m n l' m' n'},P3 F l m n->P3 F l' m' n'->P3 F (l++l') (m++m') (n++n'):=λp h=>by
 induction p with
 |nil=>exact h
 |cons r _ ih=>exact .cons r ih
theorem P3.snoc {F:α->β->γ->Prop}{l m n a b c}(h:P3 F l m n)(r:F a b c):P3 F (l++[a]) (m++[b]) (n++[c]):=h.app (.cons r .nil)
theorem P3.len {F:α->β->γ->Prop}:∀{l m n},P3 F l m n->l.length=m.length/\n.length=m.length:=λp=>by
 induction p with
 |nil=>exact⟨rfl,rfl⟩
 |cons _ _ ih=>exact⟨congrArg Nat.succ ih.1,congrArg Nat.succ ih.2⟩
theorem P3.pair {F:α->β->γ->Prop}{G:α->β->Prop}:∀{l m n},P3 F l m n->(∀a b c,c∈n->F a b c->G a b)->Paired G l m:=λp h=>by
 induction p with
 |nil=>exact .nil
 |cons r _ ih=>exact .cons (h _ _ _ List.mem_cons_self r) (ih λa b c hc=>h a b c (List.mem_cons_of_mem _ hc))
theorem P3.get {F:α->β->γ->Prop}:∀{l m n}{i:Nat}{b:β},P3 F l m n->m[i]?=some b->∃a c,l[i]?=some a/\n[i]?=some c/\F a b c
 |_,_,_,_,_, .nil,e=>by simp at e
 |_,_,_,0,_, .cons r _,e=>by simp at e;subst e;exact⟨_,_,rfl,rfl,r⟩
 |_,_,_,i+1,b, .cons _ t,e=>by
  obtain⟨a,c,h1,h2,h3⟩:=P3.get (i:=i) (b:=b) t (by simpa using e)
  exact⟨a,c,by simpa using h1,by simpa using h2,h3⟩
theorem P3.set {F:α->β->γ->Prop}{a:α}{b:β}{c:γ}(r:F a b c):∀{l m n} (i:Nat),P3 F l m n->P3 F (l.set i a) (m.set i b) (n.set i c)
 |_,_,_,_, .nil=>.nil
 |_,_,_,0, .cons _ t=>.cons r t
 |_,_,_,i+1, .cons q t=>.cons q (P3.set r i t)
theorem P3.flat {F:α->β->Prop}:∀{l:List α}{m:List β}{n:List (List XF)},P3 (λa b c=>c=[]/\F a b) l m n->Paired F l m/\n.flatten=[]:=λp=>by
 induction p with
 |nil=>exact⟨.nil,rfl⟩
 |cons r _ ih=>exact⟨.cons r.2 ih.1,by rw[List.flatten_cons,r.1,ih.2];rfl⟩
theorem P3.of {F:α->β->Prop}:∀{l:List α}{m:List β},Paired F l m->P3 (λa b (c:List XF)=>c=[]/\F a b) l m (List.replicate m.length [])
 |_,_, .nil=>.nil
 |_,_, .cons r t=>.cons ⟨rfl,r⟩ (P3.of t)
theorem YN:∀n:Nat,(List.replicate n ([]:List XF)).flatten=[]
 |0=>rfl
 |n+1=>by simp[List.replicate_succ,YN n]
end
class MonoO {α:Type}(o:OE α):Prop where
 mono:∀{K:PySem.W.Frag}{H H':Hp}{v:V}{a:α}{C:List XF},XG H H'->o K H v a C->o K H' v a C
class FlatO {α:Type}(o:OE α):Prop where
 flat:∀{K:PySem.W.Frag}{H H':Hp}{v:V}{a:α}{C:List XF},Uv H H'->o K H v a C->o K H' v a C
class FrzC {α:Type}(o:OE α)(r:outParam (Enc α)):Prop where
 frz:∀{K:PySem.W.Frag}{H H':Hp}{v:V}{a:α}{C:List XF},o K H v a C->XG H H'->(∀c∈C,H' c.1=some c.2)->r K H' v a
instance {α:Type}{r:Enc α}[m:MonoE r]:MonoO (oF r):=⟨λs h=>⟨h.1,m.mono s h.2⟩⟩
instance {α:Type}{r:Enc α}[m:FlatE r]:FlatO (oF r):=⟨λs h=>⟨h.1,m.flat s h.2⟩⟩
instance {α:Type}{r:Enc α}[m:MonoE r]:FrzC (oF r) r:=⟨λh s _=>m.mono s h.2⟩
instance {α:Type}{o:OE α}[m:MonoO o]:MonoO (oL o):=⟨λs r9=>by obtain⟨p,xs,Cs,e,q,c⟩:=r9;exact⟨p,xs,Cs,e,q.imp λ_ _ _ z=>m.mono s z,c⟩⟩
instance {α:Type}{o:OE α}[m:FlatO o]:FlatO (oL o):=⟨λs r9=>by obtain⟨p,xs,Cs,e,q,c⟩:=r9;exact⟨p,xs,Cs,e,q.imp λ_ _ _ z=>m.flat s z,c⟩⟩
instance {α:Type}{o:OE α}{r:Enc α}[m:FrzC o r]:FrzC (oL o) (rV r):=⟨λ⟨p,xs,Cs,e,q,c⟩ s hc=>by
 subst c
 exact⟨p,xs,e,hc _ List.mem_cons_self,q.pair λa b c hm z=>m.frz z s λx hx=>hc x (List.mem_cons_of_mem _ (List.mem_flatten.mpr ⟨c,hm,hx⟩))⟩⟩
instance {α β:Type}{o:OE α}{q:OE β}[m:MonoO o][n:MonoO q]:MonoO (oT2 o q):=⟨λs r9=>by obtain⟨p,x,y,C1,C2,e,h,h1,h2,c⟩:=r9;exact⟨p,x,y,C1,C2,e,s _ _ h,m.mono s h1,n.mono s h2,c⟩⟩
instance {α β:Type}{o:OE α}{q:OE β}[m:FlatO o][n:FlatO q]:FlatO (oT2 o q):=⟨λs r9=>by obtain⟨p,x,y,C1,C2,e,h,h1,h2,c⟩:=r9;exact⟨p,x,y,C1,C2,e,s _ _ h rfl,m.flat s h1,n.flat s h2,c⟩⟩
instance {α β:Type}{o:OE α}{q:OE β}{r:Enc α}{t:Enc β}[m:FrzC o r][n:FrzC q t]:FrzC (oT2 o q) (rP2 r t):=⟨λ⟨p,x,y,C1,C2,e,h,h1,h2,c⟩ s hc=>by
 subst c
 exact⟨p,x,y,e,s _ _ h,m.frz h1 s λc hm=>hc c (by simp[hm]),n.frz h2 s λc hm=>hc c (by simp[hm])⟩⟩
instance {α:Type}{o:OE α}[m:MonoO o]:MonoO (MS o):=⟨fun {K H H' v a C} s h=>by cases a with
 |none=>exact h
 |some a=>exact⟨h.1,m.mono s h.2⟩⟩
instance {α:Type}{o:OE α}[m:FlatO o]:FlatO (MS o):=⟨fun {K H H' v a C} s h=>by cases a with
 |none=>exact h
 |some a=>exact⟨h.1,m.flat s h.2⟩⟩
instance {α:Type}{o:OE α}{r:Enc α}[m:FrzC o r]:FrzC (MS o) (Hq r):=⟨fun {K H H' v a C} h s hc=>by cases a with
 |none=>exact h.1
 |some a=>exact⟨h.1,m.frz h.2 s hc⟩⟩
structure SC where
 p:Hp->Prop
 mono:∀h h',XG h h'->p h->p h'
noncomputable def SC.nil:SC:=⟨λ_=>True,λ_ _ _ _=>True.intro⟩
noncomputable def SC.and (S T:SC):SC:=⟨λh=>S.p h/\T.p h,λ_ _ s q=>⟨S.mono _ _ s q.1,T.mono _ _ s q.2⟩⟩
noncomputable def SC.one {α:Type}(K:PySem.W.Frag)(r:Enc α)[m:MonoE r](v:V)(a:α):SC:=⟨λh=>r K h v a,λ_ _ s q=>m.mono s q⟩
noncomputable def SC.oneO {α:Type}(K:PySem.W.Frag)(o:OE α)[m:MonoO o](v:V)(a:α)(C:List XF):SC:=⟨λh=>o K h v a C,λ_ _ s q=>m.mono s q⟩
noncomputable abbrev SC.add {α:Type}(S:SC)(K:PySem.W.Frag)(r:Enc α)[m:MonoE r](v:V)(a:α):SC:=S.and (SC.one K r v a)
noncomputable abbrev SC.addO {α:Type}(S:SC)(K:PySem.W.Frag)(o:OE α)[m:MonoO o](v:V)(a:α)(C:List XF):SC:=S.and (SC.oneO K o v a C)
theorem SC.l {S T:SC}{h:Hp}(q:(S.and T).p h):S.p h:=q.1
theorem SC.r {S T:SC}{h:Hp}(q:(S.and T).p h):T.p h:=q.2
theorem SC.i {S T:SC}{h:Hp}(q:S.p h)(p:T.p h):(S.and T).p h:=⟨q,p⟩
theorem SC.t {h:Hp}:SC.nil.p h:=True.intro
theorem SC.p.l {S T:SC}{h:Hp}(q:(S.and T).p h):S.p h:=q.1
theorem SC.p.r {S T:SC}{h:Hp}(q:(S.and T).p h):T.p h:=q.2
noncomputable def PZ {β:Type}(Er:Exc->Hp->Prop)(F:β->Hp->Prop)(H:Hp)(m:Rs β):Prop:=
 match m with
 | .bad=>False
 | .err x=>∀ H',XG H H'->Er x H'
 | .ok b=>F b H
section
variable (K:PySem.W.Frag)(Er:Exc->Hp->Prop)(S:SC)(OO OO':List (List XF))(σ:St)
noncomputable def FB {α:Type}(r:Enc α)(Q:VK)(a:α)(H:Hp):Prop:=∀ v H',XG H H'->r K H' v a->Q v H'
noncomputable def FO {α:Type}(o:OE α)(Q:VK)(a:α)(H:Hp):Prop:=∀ v C H',XG H H'->W (C::OO') H'->XG (hid H OO) (hid H' (C::OO'))->o K (hid H' (C::OO')) v a C->Q v H'
noncomputable def FT (Q:Bool->Hp->Prop)(b:Bool)(H:Hp):Prop:=∀ H',XG H H'->Q b H'
noncomputable def EvB {α:Type}(te:TE)(r:Enc α)(m:Rs α):Prop:=∀ H Q,W OO H->S.p (hid H OO)->PZ Er (FB K r Q) H m->te σ H Q
noncomputable def Ev {α:Type}(te:TE)(o:OE α)(m:Rs α):Prop:=∀ H Q,W OO H->S.p (hid H OO)->PZ Er (FO K OO OO' o Q) H m->te σ H Q
noncomputable def EvT (tt:TT)(m:Rs Bool):Prop:=∀ H Q,W OO H->S.p (hid H OO)->PZ Er (FT Q) H m->tt σ H Q
end
section
variable {K:PySem.W.Frag}{Er:Exc->Hp->Prop}{S:SC}{OO OO' OO2:List (List XF)}{σ:St}{α β γ:Type}
theorem FB.tr {r:Enc α}{Q:VK}:∀a H H',XG H H'->FB K r Q a H->FB K r Q a H':=λa H H' s h v H2 s2 q=>h v H2 (s.trans s2) q
theorem FO.tr {o:OE α}{Q:VK}:∀a H H',XG H H'->FO K OO OO' o Q a H->FO K OO OO' o Q a H':=λa H H' s h v C H2 s2 w m q=>h v C H2 (s.trans s2) w ((Xm s).trans m) q
theorem FT.tr {Q:Bool->Hp->Prop}:∀b H H',XG H H'->FT Q b H->FT Q b H':=λa H H' s h H2 s2=>h H2 (s.trans s2)
theorem EvB.run {te:TE}{r:Enc α}{m:Rs α}(he:EvB K Er S OO σ te r m){H:Hp}{Q:VK}(w:W OO H)(s:S.p (hid H OO)){f:α->Rs β}{F:β->Hp->Prop}(hF:∀b H H',XG H H'->F b H->F b H')(P:PZ Er F H (m.bind f))
  (hk:∀a v H',XG H H'->W OO H'->S.p (hid H' OO)->r K H' v a->PZ Er F H' (f a)->Q v H'):te σ H Q:=by
 refine he H Q w s ?_
 cases m with
 |bad=>exact P
 |err x=>exact P
 |ok a=>
  intro v H' s' hr
  refine hk a v H' s' (w.keep s') (S.mono _ _ (Xm s') s) hr ?_
  have P':PZ Er F H (f a):=P
  revert P'
  cases f a with
  |bad=>exact λz=>z
  |err x=>exact λz H2 s2=>z H2 (s'.trans s2)
  |ok b=>exact λz=>hF b H H' s' z
theorem Ev.run {te:TE}{o:OE α}{m:Rs α}(he:Ev K Er S OO OO' σ te o m){H:Hp}{Q:VK}(w:W OO H)(s:S.p (hid H OO)){f:α->Rs β}{F:β->Hp->Prop}(hF:∀b H H',XG H H'->F b H->F b H')(P:PZ Er F H (m.bind f))
  (hk:∀a v C H',XG H H'->W (C::OO') H'->XG (hid H OO) (hid H' (C::OO'))->S.p (hid H' (C::OO'))->o K (hid H' (C::OO')) v a C->PZ Er F H' (f a)->Q v H'):te σ H Q:=by
 refine he H Q w s ?_
 cases m with
 |bad=>exact P
 |err x=>exact P
 |ok a=>
  intro v C H' s' w' m' ho
  refine hk a v C H' s' w' m' (S.mono _ _ m' s) ho ?_
  have P':PZ Er F H (f a):=P
  revert P'
  cases f a with
  |bad=>exact λz=>z
  |err x=>exact λz H2 s2=>z H2 (s'.trans s2)
  |ok b=>exact λz=>hF b H H' s' z
theorem EvT.run {tt:TT}{m:Rs Bool}(he:EvT Er S OO σ tt m){H:Hp}{Q:Bool->Hp->Prop}(w:W OO H)(s:S.p (hid H OO)){f:Bool->Rs β}{F:β->Hp->Prop}(hF:∀b H H',XG H H'->F b H->F b H')(P:PZ Er F H (m.bind f))
  (hk:∀b H',XG H H'->W OO H'->S.p (hid H' OO)->PZ Er F H' (f b)->Q b H'):tt σ H Q:=by
 refine he H Q w s ?_
 cases m with
 |bad=>exact P
 |err x=>exact P
 |ok a=>
  intro H' s'
  refine hk a H' s' (w.keep s') (S.mono _ _ (Xm s') s) ?_
  have P':PZ Er F H (f a):=P
  revert P'
  cases f a with
  |bad=>exact λz=>z
  |err x=>exact λz H2 s2=>z H2 (s'.trans s2)
  |ok b=>exact λz=>hF b H H' s' z
theorem Ev.toB {te:TE}{o:OE α}{r:Enc α}[z:FrzC o r]{m:Rs α}(he:Ev K Er S OO OO σ te o m):EvB K Er S OO σ te r m:=λH Q w s P=>by
 refine he H Q w s ?_
 cases m with
 |bad=>exact P
 |err x=>exact P
 |ok a=>exact λv C H' s' w' m' ho=>P v H' s' (z.frz ho XN w'.cell)
theorem Ev.frz {te:TE}{o:OE α}{r:Enc α}[z:FrzC o r]{m:Rs α}(he:Ev K Er S OO OO' σ te o m):Ev K Er S OO OO' σ te (oF r) m:=λH Q w s P=>by
 refine he H Q w s ?_
 cases m with
 |bad=>exact P
 |err x=>exact P
 |ok a=>
  intro v C H' s' w' m' ho
  have hs:XG (hid H' (C::OO')) (hid H' ([]::OO')):=Q5 (XG.refl _) λb hb=>by rw[Bf] at hb;rw[YG];simp[hb]
  refine P v [] H' s' w'.tail.nil (m'.trans hs) ⟨rfl,z.frz ho hs λc hc=>Qd (w'.cell c hc) ?_⟩
  rw[Bf]
  have:=w'.nd
  rw[YG] at this
  intro hb
  exact(List.nodup_append.mp this).2.2 c.1 (List.mem_map.mpr ⟨c,hc,rfl⟩) c.1 hb rfl
theorem EvB.flat {te:TE}{r:Enc α}[z:FlatE r]{m:Rs α}(he:EvB K Er S OO σ te r m):Ev K Er S OO OO σ te (oF r) m:=λH Q w s P=>by
 refine he H Q w s ?_
 cases m with
 |bad=>exact P
 |err x=>exact P
 |ok a=>
  intro v H' s' hr
  have w':=w.keep s'
  exact P v [] H' s' w'.nil (by rw[Zo];exact Xm s') ⟨rfl,by rw[Zo];exact z.flat w'.i hr⟩
theorem Xb {r:Enc α}[z:MonoE r]{v:V}{a:α}(i:Nat)(hσ:σ[i]?=some (some v))(h:∀x,S.p x->r K x v a):EvB K Er S OO σ (Ks i) r (.ok a):=λH Q w s P=>
 ⟨v,hσ,P v H (XG.refl _) (z.mono XN (h _ s))⟩
theorem YC {o:OE α}{r:Enc α}[z:FrzC o r]{v:V}{a:α}{C:List XF}(i k:Nat)(hσ:σ[i]?=some (some v))(hk:OO[k]?=some C)(h:∀x,S.p x->o K x v a C):EvB K Er S OO σ (Ks i) r (.ok a):=λH Q w s P=>
 ⟨v,hσ,P v H (XG.refl _) (z.frz (h _ s) XN λc hc=>w.tr c (List.mem_flatten.mpr ⟨C,List.mem_of_getElem? hk,hc⟩))⟩
theorem Yi:∀{OO:List (List XF)}{k:Nat}{C:List XF},OO[k]?=some C->(C::OO.set k []).flatten.Perm OO.flatten
 | [],_,_,h=>by simp at h
 |D::OO,0,C,h=>by simp at h;subst h;simp
 |D::OO,k+1,C,h=>by
  have:=Yi (OO:=OO) (k:=k) (C:=C) (by simpa using h)
  simp only[List.set_cons_succ,List.flatten_cons] at this⊢
  refine List.Perm.trans ?_ (this.append_left D)
  rw[←List.append_assoc, ←List.append_assoc]
  exact List.perm_append_comm.append_right _
theorem VH {OO OO':List (List XF)}(h:OO'.flatten.Perm OO.flatten)(b:Addr):b∈fl OO'↔b∈fl OO:=(h.map (·.1)).mem_iff
theorem Yc {H:Hp}{OO OO':List (List XF)}(h:OO'.flatten.Perm OO.flatten):hid H OO'=hid H OO:=by
 funext b;unfold hid
 by_cases hb:b∈fl OO
 ·rw[if_pos hb,if_pos ((VH h b).mpr hb)]
 ·rw[if_neg hb,if_neg λz=>hb ((VH h b).mp z)]
theorem Yd {o:OE α}{v:V}{a:α}{C:List XF}(i k:Nat)(hσ:σ[i]?=some (some v))(hk:OO[k]?=some C)(h:∀x,S.p x->o K x v a C):Ev K Er S OO (OO.set k []) σ (Ks i) o (.ok a):=λH Q w s P=>by
 have hp:=Yi hk
 exact⟨v,hσ,P v C H (XG.refl _) (w.of hp) (by rw[Yc hp];exact XG.refl _) (by rw[Yc hp];exact h _ s)⟩
theorem Xe (n:Int):EvB K Er S OO σ (tC (.int n)) Xa (.ok n):=λH Q w s P=>P _ H (XG.refl _) rfl
theorem Zn (b:Bool):EvB K Er S OO σ (tC (.bl b)) XQ (.ok b):=λH Q w s P=>P _ H (XG.refl _) rfl
theorem JK {ta tb:TE}{g:Int->Int->V}{r:Enc β}{f:Int->Int->β}{ma mb:Rs Int}(hg:∀K H i j,r K H (g i j) (f i j))(ha:EvB K Er S OO σ ta Xa ma)(hb:EvB K Er S OO σ tb Xa mb):
  EvB K Er S OO σ (tOp (rI0 g) ta tb) r (ma.bind λa=>mb.bind λb=>.ok (f a b)):=λH Q w s P=>
 ha.run w s FB.tr P λa x H1 s1 w1 q1 r1 P1=>hb.run w1 q1 FB.tr P1 λb y H2 s2 w2 q2 r2 P2=>⟨a,b,r1,r2,P2 _ H2 (XG.refl _) (hg K H2 a b)⟩
theorem Kg {ta tb:TE}{Cc:Int->Int->Prop}{g:Int->Int->V}{r:Enc β}{f:Int->Int->Rs β}{ma mb:Rs Int}(hg:∀K H i j c,f i j= .ok c->Cc i j/\r K H (g i j) c)(he:∀i j x,f i j≠ .err x)
  (ha:EvB K Er S OO σ ta Xa ma)(hb:EvB K Er S OO σ tb Xa mb):
  EvB K Er S OO σ (tOp (rI Cc g) ta tb) r (ma.bind λa=>mb.bind λb=>f a b):=λH Q w s P=>
 ha.run w s FB.tr P λa x H1 s1 w1 q1 r1 P1=>hb.run w1 q1 FB.tr P1 λb y H2 s2 w2 q2 r2 P2=>by
  cases e:f a b with
  |bad=>rw[e] at P2;exact P2.elim
  |err x=>exact absurd e (he a b x)
  |ok c=>
   rw[e] at P2
   obtain⟨h1,h2⟩:=hg K H2 a b c e
   exact⟨a,b,r1,r2,h1,P2 _ H2 (XG.refl _) h2⟩
noncomputable def QG (a b:Int):Rs Int:=chk ((-(2^64)<a/\a<2^64)∨(-(2^64)<b/\b<2^64)) (.ok (a*b))
noncomputable def Qg (a b:Int):Rs Int:=chk (0<b) (.ok (a % b))
noncomputable def B8 (a b:Int):Rs Int:=chk (0<b/\b.natAbs.log2<9000) (.ok (a/b))
noncomputable def Mm (a b:Int):Rs Int:=chk (0<=b/\b<=1000000/\a.natAbs<2^64) (.ok (a^b.toNat))
theorem ZQ {c:Prop}[Decidable c]{m:Rs α}{a:α}(h:chk c m= .ok a):c/\m= .ok a:=by
 unfold chk at h;split at h
 ·exact⟨by assumption,h⟩
 ·cases h
theorem Q3 {c:Prop}[Decidable c]{a:α}{x:Exc}:chk c (Rs.ok a)≠ .err x:=by
 unfold chk;split<;> exact λz=>nomatch z
theorem X9 {ta tb:TE}{ma mb:Rs Int}(ha:EvB K Er S OO σ ta Xa ma)(hb:EvB K Er S OO σ tb Xa mb):EvB K Er S OO σ (tOp (rI LI λi j=>.int (i*j)) ta tb) Xa (ma.bind λa=>mb.bind λb=>QG a b):=
 Kg (λK H i j c h=>by obtain⟨h1,h2⟩:=ZQ h;cases h2;exact⟨h1,rfl⟩) (λi j x=>Q3) ha hb
theorem XU {ta tb:TE}{ma mb:Rs Int}(ha:EvB K Er S OO σ ta Xa ma)(hb:EvB K Er S OO σ tb Xa mb):EvB K Er S OO σ (tOp (rI (λ_ j=>0<j) λi j=>.int (i % j)) ta tb) Xa (ma.bind λa=>mb.bind λb=>Qg a b):=
 Kg (λK H i j c h=>by obtain⟨h1,h2⟩:=ZQ h;cases h2;exact⟨h1,rfl⟩) (λi j x=>Q3) ha hb
theorem JU {ta tb:TE}{ma mb:Rs Int}(ha:EvB K Er S OO σ ta Xa ma)(hb:EvB K Er S OO σ tb Xa mb):EvB K Er S OO σ (tOp (rI (λ_ j=>0<j/\j.natAbs.log2<9000) λi j=>.int (i/j)) ta tb) Xa (ma.bind λa=>mb.bind λb=>B8 a b):=
 Kg (λK H i j c h=>by obtain⟨h1,h2⟩:=ZQ h;cases h2;exact⟨h1,rfl⟩) (λi j x=>Q3) ha hb
theorem G2 {ta tb:TE}{ma mb:Rs Int}(ha:EvB K Er S OO σ ta Xa ma)(hb:EvB K Er S OO σ tb Xa mb):EvB K Er S OO σ (tOp (rI Ni λi j=>.int (i^j.toNat)) ta tb) Xa (ma.bind λa=>mb.bind λb=>Mm a b):=
 Kg (λK H i j c h=>by obtain⟨h1,h2⟩:=ZQ h;cases h2;exact⟨h1,rfl⟩) (λi j x=>Q3) ha hb
theorem XL {ta tb:TE}{ma mb:Rs Int}(ha:EvB K Er S OO σ ta Xa ma)(hb:EvB K Er S OO σ tb Xa mb):EvB K Er S OO σ (tOp (rI0 λi j=>.int (i+j)) ta tb) Xa (ma.bind λa=>mb.bind λb=>.ok (a+b)):=JK (λ_ _ _ _=>rfl) ha hb
theorem Zq {ta tb:TE}{ma mb:Rs Int}(ha:EvB K Er S OO σ ta Xa ma)(hb:EvB K Er S OO σ tb Xa mb):EvB K Er S OO σ (tOp (rI0 λi j=>.int (i-j)) ta tb) Xa (ma.bind λa=>mb.bind λb=>.ok (a-b)):=JK (λ_ _ _ _=>rfl) ha hb
theorem Zr {ta tb:TE}{ma mb:Rs Int}(ha:EvB K Er S OO σ ta Xa ma)(hb:EvB K Er S OO σ tb Xa mb):EvB K Er S OO σ (tOp (rI0 λi j=>.bl (decide (i<j))) ta tb) XQ (ma.bind λa=>mb.bind λb=>.ok (decide (a<b))):=JK (λ_ _ _ _=>rfl) ha hb
theorem LH {ta tb:TE}{ma mb:Rs Int}(ha:EvB K Er S OO σ ta Xa ma)(hb:EvB K Er S OO σ tb Xa mb):EvB K Er S OO σ (tOp (rI0 λi j=>.bl (decide (i<=j))) ta tb) XQ (ma.bind λa=>mb.bind λb=>.ok (decide (a<=b))):=JK (λ_ _ _ _=>rfl) ha hb
theorem V8 {ta tb:TE}{ma mb:Rs Int}(ha:EvB K Er S OO σ ta Xa ma)(hb:EvB K Er S OO σ tb Xa mb):EvB K Er S OO σ (tOp (rI0 λi j=>.bl (decide (j<i))) ta tb) XQ (ma.bind λa=>mb.bind λb=>.ok (decide (b<a))):=JK (λ_ _ _ _=>rfl) ha hb
theorem DV {ta tb:TE}{ma mb:Rs Int}(ha:EvB K Er S OO σ ta Xa ma)(hb:EvB K Er S OO σ tb Xa mb):EvB K Er S OO σ (tOp (rI0 λi j=>.bl (decide (j<=i))) ta tb) XQ (ma.bind λa=>mb.bind λb=>.ok (decide (b<=a))):=JK (λ_ _ _ _=>rfl) ha hb
theorem Qq {ta:TE}{ma:Rs Int}(ha:EvB K Er S OO σ ta Xa ma):EvB K Er S OO σ (tUn (rU λi=>.int (-i)) ta) Xa (ma.bind λa=>.ok (-a)):=λH Q w s P=>
 ha.run w s FB.tr P λa x H1 s1 w1 q1 r1 P1=>⟨a,r1,P1 _ H1 (XG.refl _) rfl⟩
class Scal {α:Type}[DecidableEq α](r:Enc α):Prop where
 to:∀{K:PySem.W.Frag}{H H':Hp}{x y:V}{a b:α},r K H x a->r K H' y b->MZ x y=true/\decide (x=y)=decide (a=b)
instance:Scal Xa:=⟨fun {K H H' x y a b} h1 h2=>by cases(show x= .int a from h1);cases(show y= .int b from h2);exact⟨rfl,by simp⟩⟩
instance:Scal XQ:=⟨fun {K H H' x y a b} h1 h2=>by cases(show x= .bl a from h1);cases(show y= .bl b from h2);exact⟨rfl,by simp⟩⟩
theorem YL [DecidableEq α]{r:Enc α}[z:Scal r][MonoE r]{ta tb:TE}{ma mb:Rs α}(ha:EvB K Er S OO σ ta r ma)(hb:EvB K Er S OO σ tb r mb):EvB K Er S OO σ (tOp rEq ta tb) XQ (ma.bind λa=>mb.bind λb=>.ok (decide (a=b))):=λH Q w s P=>
 ha.run w s FB.tr P λa x H1 s1 w1 q1 r1 P1=>hb.run w1 q1 FB.tr P1 λb y H2 s2 w2 q2 r2 P2=>by
  obtain⟨h1,h2⟩:=z.to r1 r2
  exact⟨h1,P2 _ H2 (XG.refl _) (by rw[h2];rfl)⟩
theorem VC [DecidableEq α]{r:Enc α}[z:Scal r][MonoE r]{ta tb:TE}{ma mb:Rs α}(ha:EvB K Er S OO σ ta r ma)(hb:EvB K Er S OO σ tb r mb):EvB K Er S OO σ (tOp rNe ta tb) XQ (ma.bind λa=>mb.bind λb=>.ok (!decide (a=b))):=λH Q w s P=>
 ha.run w s FB.tr P λa x H1 s1 w1 q1 r1 P1=>hb.run w1 q1 FB.tr P1 λb y H2 s2 w2 q2 r2 P2=>by
  obtain⟨h1,h2⟩:=z.to r1 r2
  exact⟨h1,P2 _ H2 (XG.refl _) (by rw[h2];rfl)⟩
theorem GV [DecidableEq α]{r:Enc α}[z:MonoE r]{ta tb:TE}{ma mb:Rs α}(ha:EvB K Er S OO σ ta r ma)(hb:EvB K Er S OO σ tb r mb):EvB K Er S OO σ (tOp (Nj K r) ta tb) XQ (ma.bind λa=>mb.bind λb=>.ok (!decide (a=b))):=λH Q w s P=>
 ha.run w s FB.tr P λa x H1 s1 w1 q1 r1 P1=>hb.run w1 q1 FB.tr P1 λb y H2 s2 w2 q2 r2 P2=>⟨a,b,z.mono s2 r1,r2,P2 _ H2 (XG.refl _) rfl⟩
theorem JX {te:TE}{m:Rs Bool}(h:EvB K Er S OO σ te XQ m):EvT Er S OO σ (tB te) m:=λH Q w s P=>h H _ w s (by
 cases m with
 |bad=>exact P
 |err x=>exact P
 |ok a=>exact λv H' s' r=>⟨a,r,P H' s'⟩)
theorem Xp {te:TE}{m:Rs Bool}(h:EvB K Er S OO σ te XQ m):EvT Er S OO σ (LF te) m:=JX h
theorem Qy {t:TT}{m:Rs Bool}(h:EvT Er S OO σ t m):EvT Er S OO σ (Nf t) (m.bind λb=>.ok (!b)):=λH Q w s P=>h.run w s FT.tr P λb H1 s1 w1 q1 P1=>P1 H1 (XG.refl _)
noncomputable def Uw (a b:Rs Bool):Rs Bool:=a.bind λx=>if x=true then b else .ok false
noncomputable def orR (a b:Rs Bool):Rs Bool:=a.bind λx=>if x=true then .ok true else b
theorem Zj {t u:TT}{m n:Rs Bool}(h:EvT Er S OO σ t m)(k:EvT Er S OO σ u n):EvT Er S OO σ (No t u) (Uw m n):=λH Q w s P=>h.run w s FT.tr P λb H1 s1 w1 q1 P1=>by
 cases b with
 |true=>rw[if_pos rfl] at P1⊢;exact k H1 Q w1 q1 P1
 |false=>exact P1 H1 (XG.refl _)
theorem VE {t u:TT}{m n:Rs Bool}(h:EvT Er S OO σ t m)(k:EvT Er S OO σ u n):EvT Er S OO σ (tOr t u) (orR m n):=λH Q w s P=>h.run w s FT.tr P λb H1 s1 w1 q1 P1=>by
 cases b with
 |true=>exact P1 H1 (XG.refl _)
 |false=>exact k H1 Q w1 q1 P1
theorem F2 {t:TE}{m:Rs Bool}(h:EvB K Er S OO σ t XQ m):EvB K Er S OO σ (L3 t) XQ (m.bind λb=>.ok (!b)):=λH Q w s P=>h.run w s FB.tr P λb x H1 s1 w1 q1 r1 P1=>⟨b,r1,P1 _ H1 (XG.refl _) rfl⟩
theorem Fv {t u:TE}{m n:Rs Bool}(h:EvB K Er S OO σ t XQ m)(k:EvB K Er S OO σ u XQ n):EvB K Er S OO σ (Lz t u) XQ (Uw m n):=λH Q w s P=>h.run w s FB.tr P λb x H1 s1 w1 q1 r1 P1=>⟨b,r1,by
 cases b with
 |true=>rw[if_pos rfl] at P1⊢;exact k H1 Q w1 q1 P1
 |false=>exact P1 _ H1 (XG.refl _) rfl⟩
theorem I0 {t u:TE}{m n:Rs Bool}(h:EvB K Er S OO σ t XQ m)(k:EvB K Er S OO σ u XQ n):EvB K Er S OO σ (Nk t u) XQ (orR m n):=λH Q w s P=>h.run w s FB.tr P λb x H1 s1 w1 q1 r1 P1=>⟨b,r1,by
 cases b with
 |true=>exact P1 _ H1 (XG.refl _) rfl
 |false=>exact k H1 Q w1 q1 P1⟩
theorem M4 {c:TT}{ta tb:TE}{o:OE α}{mc:Rs Bool}{ma mb:Rs α}(hc:EvT Er S OO σ c mc)(ha:Ev K Er S OO OO' σ ta o ma)(hb:Ev K Er S OO OO' σ tb o mb):Ev K Er S OO OO' σ (tIf c ta tb) o (mc.bind λb=>if b=true then ma else mb):=λH Q w s P=>
 hc.run w s FO.tr P λb H1 s1 w1 q1 P1=>by
  cases b with
  |true=>rw[if_pos rfl] at P1⊢;exact ha H1 Q w1 q1 P1
  |false=>exact hb H1 Q w1 q1 P1
end
section
variable (K:PySem.W.Frag)(Er:Exc->Hp->Prop)(S:SC)(OO:List (List XF))(σ:St)
noncomputable def FS {α:Type}(r:Enc α)(Q:VK)(a:α)(H:Hp):Prop:=∀ v H',XG H H'->r K (hid H' OO) v a->Q v H'
noncomputable def EvS {α:Type}(te:TE)(r:Enc α)(m:Rs α):Prop:=∀ H Q,W OO H->S.p (hid H OO)->PZ Er (FS K OO r Q) H m->te σ H Q
noncomputable def rE {α:Type}(r:Enc α)(H:Hp)(v:V)(as:List α):Prop:=∃ p xs,v= .ref p/\H p=some (.lst xs)/\Paired (r K (hid H OO)) xs as
noncomputable def FL {α:Type}(r:Enc α)(Q:VK)(as:List α)(H:Hp):Prop:=∀ v H',XG H H'->rE K OO r H' v as->Q v H'
noncomputable def EvL {α:Type}(te:TE)(r:Enc α)(m:Rs (List α)):Prop:=∀ H Q,W OO H->S.p (hid H OO)->PZ Er (FL K OO r Q) H m->te σ H Q
end
section
variable {K:PySem.W.Frag}{Er:Exc->Hp->Prop}{S:SC}{OO OO' OO2:List (List XF)}{σ:St}{α β γ:Type}
theorem FS.tr {r:Enc α}{Q:VK}:∀a H H',XG H H'->FS K OO r Q a H->FS K OO r Q a H':=λa H H' s h v H2 s2 q=>h v H2 (s.trans s2) q
theorem FL.tr {r:Enc α}{Q:VK}:∀a H H',XG H H'->FL K OO r Q a H->FL K OO r Q a H':=λa H H' s h v H2 s2 q=>h v H2 (s.trans s2) q
theorem PZ.run {F:β->Hp->Prop}{f:α->Rs β}{H H':Hp}{a:α}{m:Rs α}(hm:m= .ok a)(hF:∀b H H',XG H H'->F b H->F b H')(s:XG H H')(P:PZ Er F H (m.bind f)):PZ Er F H' (f a):=by
 subst hm
 have P':PZ Er F H (f a):=P
 revert P'
 cases f a with
 |bad=>exact λz=>z
 |err x=>exact λz H2 s2=>z H2 (s.trans s2)
 |ok b=>exact λz=>hF b H H' s z
theorem EvS.run {te:TE}{r:Enc α}{m:Rs α}(he:EvS K Er S OO σ te r m){H:Hp}{Q:VK}(w:W OO H)(s:S.p (hid H OO)){f:α->Rs β}{F:β->Hp->Prop}(hF:∀b H H',XG H H'->F b H->F b H')(P:PZ Er F H (m.bind f))
  (hk:∀a v H',XG H H'->W OO H'->S.p (hid H' OO)->r K (hid H' OO) v a->PZ Er F H' (f a)->Q v H'):te σ H Q:=by
 refine he H Q w s ?_
 cases e:m with
 |bad=>rw[e] at P;exact P
 |err x=>rw[e] at P;exact P
 |ok a=>exact λv H' s' hr=>hk a v H' s' (w.keep s') (S.mono _ _ (Xm s') s) hr (PZ.run e hF s' P)
theorem EvL.run {te:TE}{r:Enc α}{m:Rs (List α)}(he:EvL K Er S OO σ te r m){H:Hp}{Q:VK}(w:W OO H)(s:S.p (hid H OO)){f:List α->Rs β}{F:β->Hp->Prop}(hF:∀b H H',XG H H'->F b H->F b H')(P:PZ Er F H (m.bind f))
  (hk:∀a v H',XG H H'->W OO H'->S.p (hid H' OO)->rE K OO r H' v a->PZ Er F H' (f a)->Q v H'):te σ H Q:=by
 refine he H Q w s ?_
 cases e:m with
 |bad=>rw[e] at P;exact P
 |err x=>rw[e] at P;exact P
 |ok a=>exact λv H' s' hr=>hk a v H' s' (w.keep s') (S.mono _ _ (Xm s') s) hr (PZ.run e hF s' P)
theorem PZ.imp {F G:β->Hp->Prop}{H:Hp}{m:Rs β}(P:PZ Er F H m)(h:∀b,m= .ok b->F b H->G b H):PZ Er G H m:=by
 cases m with
 |bad=>exact P
 |err x=>exact P
 |ok b=>exact h b rfl P
theorem EvS.toB {te:TE}{r:Enc α}[z:MonoE r]{m:Rs α}(he:EvS K Er S OO σ te r m):EvB K Er S OO σ te r m:=λH Q w s P=>he H Q w s (P.imp λb _ h v H' s' q=>h v H' s' (z.mono XN q))
theorem EvS.ev {te:TE}{r:Enc α}{m:Rs α}(he:EvS K Er S OO σ te r m):Ev K Er S OO OO σ te (oF r) m:=λH Q w s P=>he H Q w s (P.imp λb _ h v H' s' q=>
 h v [] H' s' (w.keep s').nil (by rw[Zo];exact Xm s') ⟨rfl,by rw[Zo];exact q⟩)
theorem EvB.sh {te:TE}{r:Enc α}[z:FlatE r]{m:Rs α}(he:EvB K Er S OO σ te r m):EvS K Er S OO σ te r m:=λH Q w s P=>he H Q w s (P.imp λb _ h v H' s' q=>h v H' s' (z.flat (w.keep s').i q))
theorem Ev.sh {te:TE}{o:OE α}{r:Enc α}[z:FrzC o r]{m:Rs α}(he:Ev K Er S OO OO σ te o m):EvS K Er S OO σ te r m:=λH Q w s P=>he.frz H Q w s (P.imp λb _ h v C H' s' w' m' q=>by
 obtain⟨rfl,q⟩:=q
 rw[Zo] at q
 exact h v H' s' q)
theorem Xl {r:Enc α}{v:V}{a:α}(i:Nat)(hσ:σ[i]?=some (some v))(h:∀x,S.p x->r K x v a):EvS K Er S OO σ (Ks i) r (.ok a):=λH Q w s P=>⟨v,hσ,P v H (XG.refl _) (h _ s)⟩
theorem EvS.ls {te:TE}{r:Enc α}{m:Rs (List α)}(he:EvS K Er S OO σ te (rV r) m):EvL K Er S OO σ te r m:=λH Q w s P=>he H Q w s (P.imp λb _ h v H' s' r9=>by obtain⟨p,xs,e,q,pr⟩:=r9;exact h v H' s' ⟨p,xs,e,XN _ _ q,pr⟩)
theorem EvB.ls {te:TE}{r:Enc α}[z:FlatE r]{m:Rs (List α)}(he:EvB K Er S OO σ te (rV r) m):EvL K Er S OO σ te r m:=λH Q w s P=>he H Q w s (P.imp λb _ h v H' s' r9=>by obtain⟨p,xs,e,q,pr⟩:=r9;exact h v H' s' ⟨p,xs,e,q,Paired.imp2 (λ_ _ z'=>z.flat (w.keep s').i z') pr⟩)
theorem Ev.ls {te:TE}{r:Enc α}[z:MonoE r]{m:Rs (List α)}(he:Ev K Er S OO OO σ te (oL (oF r)) m):EvL K Er S OO σ te r m:=he.sh.ls
theorem Gx {r:Enc α}[z:MonoE r]{v:V}{as:List α}{C:List XF}(i k:Nat)(hσ:σ[i]?=some (some v))(hk:OO[k]?=some C)(h:∀x,S.p x->oL (oF r) K x v as C):EvL K Er S OO σ (Ks i) r (.ok as):=λH Q w s P=>by
 obtain⟨p,xs,Cs,e,q,c⟩:=h _ s
 refine⟨v,hσ,P v H (XG.refl _) ⟨p,xs,e,?_,(P3.flat q).1⟩⟩
 exact w.tr (p, .lst xs) (List.mem_flatten.mpr ⟨C,List.mem_of_getElem? hk,by rw[c];exact List.mem_cons_self⟩)
noncomputable def atR (as:List α)(i:Int):Rs α:=match atI as i with
 |some a=>.ok a
 |none=>.bad
theorem Fi {as:List α}{i:Int}{a:α}(h:atR as i= .ok a):atI as i=some a:=by
 unfold atR at h;split at h
 ·cases h;assumption
 ·cases h
theorem KE {as:List α}{i:Int}{x:Exc}:atR as i≠ .err x:=by unfold atR;split<;> exact λz=>nomatch z
theorem J3 {F:V->α->Prop}{xs:List V}{as:List α}{i:Int}{a:α}(p:Paired F xs as)(h:atI as i=some a):∃x,atI xs i=some x/\F x a:=by
 unfold atI at h⊢
 rw[Paired.len p]
 cases e:ixN as.length i with
 |none=>rw[e] at h;cases h
 |some j=>
  rw[e] at h
  obtain⟨x,h1,h2⟩:=Paired.getR p h
  exact⟨x,h1,h2⟩
theorem PZ.okOf {F:β->Hp->Prop}{H:Hp}{m:Rs β}(he:∀x,m≠ .err x)(P:PZ Er F H m):∃b,m= .ok b/\F b H:=by
 cases m with
 |bad=>exact P.elim
 |err x=>exact absurd rfl (he x)
 |ok b=>exact⟨b,rfl,P⟩
theorem Xr {ta tb:TE}{r:Enc α}[z:MonoE r]{ma:Rs (List α)}{mb:Rs Int}(ha:EvB K Er S OO σ ta (rV r) ma)(hb:EvB K Er S OO σ tb Xa mb):EvB K Er S OO σ (tOp (HN K) ta tb) r (ma.bind λas=>mb.bind λi=>atR as i):=λH Q w s P=>
 ha.run w s FB.tr P λa x H1 s1 w1 q1 ⟨p,xs,e,q,pr⟩ P1=>hb.run w1 q1 FB.tr P1 λb y H2 s2 w2 q2 r2 P2=>by
  obtain⟨c,hc,P3⟩:=P2.okOf λx=>KE
  obtain⟨u,h1,h2⟩:=J3 pr (Fi hc)
  exact⟨p,xs,b,u,e,r2,SqL.of (s2 _ _ q),h1,P3 u H2 (XG.refl _) (z.mono s2 h2)⟩
theorem Hc {ta tb:TE}{r:Enc α}[z:MonoE r]{ma:Rs (List α)}{mb:Rs Int}(ha:EvL K Er S OO σ ta r ma)(hb:EvB K Er S OO σ tb Xa mb):EvS K Er S OO σ (tOp (HN K) ta tb) r (ma.bind λas=>mb.bind λi=>atR as i):=λH Q w s P=>
 ha.run w s FS.tr P λa x H1 s1 w1 q1 ⟨p,xs,e,q,pr⟩ P1=>hb.run w1 q1 FS.tr P1 λb y H2 s2 w2 q2 r2 P2=>by
  obtain⟨c,hc,P3⟩:=P2.okOf λx=>KE
  obtain⟨u,h1,h2⟩:=J3 pr (Fi hc)
  exact⟨p,xs,b,u,e,r2,SqL.of (s2 _ _ q),h1,P3 u H2 (XG.refl _) (z.mono (Xm s2) h2)⟩
theorem Bi {ta:TE}{r:Enc α}{q:Enc β}{m:Rs (α×β)}(ha:EvB K Er S OO σ ta (rP2 r q) m):EvB K Er S OO σ (tOp (Ls K) ta (tC (.int 0))) r (m.bind λp=>.ok p.1):=λH Q w s P=>
 ha.run w s FB.tr P λa x H1 s1 w1 q1 r9 P1=>by obtain⟨p,x,y,e,q,h1,h2⟩:=r9;exact⟨p,_,0,x,e,rfl,SqT.of q,rfl,P1 _ H1 (XG.refl _) h1⟩
theorem V6 {ta:TE}{r:Enc α}{q:Enc β}{m:Rs (α×β)}(ha:EvB K Er S OO σ ta (rP2 r q) m):EvB K Er S OO σ (tOp (Ls K) ta (tC (.int 1))) q (m.bind λp=>.ok p.2):=λH Q w s P=>
 ha.run w s FB.tr P λa x H1 s1 w1 q1 r9 P1=>by obtain⟨p,x,y,e,q,h1,h2⟩:=r9;exact⟨p,_,1,y,e,rfl,SqT.of q,rfl,P1 _ H1 (XG.refl _) h2⟩
theorem VF {ta:TE}{r:Enc α}{q:Enc β}{m:Rs (α×β)}(ha:EvS K Er S OO σ ta (rP2 r q) m):EvS K Er S OO σ (tOp (Ls K) ta (tC (.int 0))) r (m.bind λp=>.ok p.1):=λH Q w s P=>
 ha.run w s FS.tr P λa x H1 s1 w1 q1 r9 P1=>by obtain⟨p,x,y,e,q,h1,h2⟩:=r9;exact⟨p,_,0,x,e,rfl,SqT.of (XN _ _ q),rfl,P1 _ H1 (XG.refl _) h1⟩
theorem II {ta:TE}{r:Enc α}{q:Enc β}{m:Rs (α×β)}(ha:EvS K Er S OO σ ta (rP2 r q) m):EvS K Er S OO σ (tOp (Ls K) ta (tC (.int 1))) q (m.bind λp=>.ok p.2):=λH Q w s P=>
 ha.run w s FS.tr P λa x H1 s1 w1 q1 r9 P1=>by obtain⟨p,x,y,e,q,h1,h2⟩:=r9;exact⟨p,_,1,y,e,rfl,SqT.of (XN _ _ q),rfl,P1 _ H1 (XG.refl _) h2⟩
theorem XA {ta:TE}{r:Enc α}{m:Rs (List α)}(ha:EvB K Er S OO σ ta (rV r) m):EvB K Er S OO σ (tCB (Cv K) (XM ta Qa)) Xa (m.bind λas=>.ok (as.length:Int)):=λH Q w s P=>
 ha.run w s FB.tr P λa x H1 s1 w1 q1 r9 P1=>by obtain⟨p,xs,e,q,pr⟩:=r9;exact⟨p,xs,by rw[e], .inl (SqL.of q),P1 _ H1 (XG.refl _) (by rw[Paired.len pr];rfl)⟩
theorem HZ {r:Enc α}[z:MonoE r]{xs:List V}{as:List α}{H:Hp}{Q:VK}(w:W OO H)(pr:Paired (r K (hid H OO)) xs as)(P:FO K OO OO (oL (oF r)) Q as H):∀p,H p=none->Q (.ref p) (upd H p (.lst xs)):=λp hp=>by
 have hn:=Ug (OO:=OO) hp (o:=.lst xs)
 refine P (.ref p) [(p, .lst xs)] _ (XY hp _) (w.new hp rfl) hn ?_
 refine⟨p,xs,List.replicate as.length [],rfl,(P3.of (Paired.imp2 (λ_ _ h=>z.mono hn h) pr)).imp λ_ _ _ h=>h,by rw[YN]⟩
theorem Paired.take' {F:α->β->Prop}:∀{l:List α}{m:List β} (n:Nat),Paired F l m->Paired F (l.take n) (m.take n)
 |_,_,0,_=>.nil
 |_,_,_+1, .nil=>.nil
 |_,_,n+1, .cons r t=>.cons r (Paired.take' n t)
theorem Paired.drop' {F:α->β->Prop}:∀{l:List α}{m:List β} (n:Nat),Paired F l m->Paired F (l.drop n) (m.drop n)
 |_,_,0,h=>h
 |_,_,_+1, .nil=>.nil
 |_,_,n+1, .cons _ t=>Paired.drop' n t
theorem Paired.rep' {F:α->β->Prop}{l:List α}{m:List β}(h:Paired F l m):∀n:Nat,Paired F (List.replicate n l).flatten (List.replicate n m).flatten
 |0=>.nil
 |n+1=>by simp only[List.replicate_succ,List.flatten_cons];exact Paired.app h (Paired.rep' h n)
noncomputable def KU (as:List α)(lo hi:Option Int):List α:=(as.drop (HT.sIx as.length 0 lo)).take (HT.sIx as.length as.length hi-HT.sIx as.length 0 lo)
theorem UF {F:V->α->Prop}{xs:List V}{as:List α}(p:Paired F xs as)(lo hi:Option Int):Paired F (Lq xs lo hi) (KU as lo hi):=by
 unfold Lq KU;rw[Paired.len p];exact Paired.take' _ (Paired.drop' _ p)
noncomputable def FP (Q:Option Int->Hp->Prop)(a:Option Int)(H:Hp):Prop:=∀ H',XG H H'->Q a H'
noncomputable def EvP (Er:Exc->Hp->Prop)(S:SC)(OO:List (List XF))(σ:St)(t:TO)(m:Rs (Option Int)):Prop:=∀ H Q,W OO H->S.p (hid H OO)->PZ Er (FP Q) H m->t σ H Q
theorem EvP.run {t:TO}{m:Rs (Option Int)}(he:EvP Er S OO σ t m){H:Hp}{Q:Option Int->Hp->Prop}(w:W OO H)(s:S.p (hid H OO)){f:Option Int->Rs β}{F:β->Hp->Prop}(hF:∀b H H',XG H H'->F b H->F b H')(P:PZ Er F H (m.bind f))
  (hk:∀a H',XG H H'->W OO H'->S.p (hid H' OO)->PZ Er F H' (f a)->Q a H'):t σ H Q:=by
 refine he H Q w s ?_
 cases e:m with
 |bad=>rw[e] at P;exact P
 |err x=>rw[e] at P;exact P
 |ok a=>exact λH' s'=>hk a H' s' (w.keep s') (S.mono _ _ (Xm s') s) (PZ.run e hF s' P)
theorem Jw:EvP Er S OO σ BT (.ok none):=λH Q w s P=>P H (XG.refl _)
theorem JD {te:TE}{m:Rs Int}(h:EvB K Er S OO σ te Xa m):EvP Er S OO σ (Mh te) (m.bind λi=>.ok (some i)):=λH Q w s P=>
 h.run w s (λ_ _ _ s h H2 s2=>h H2 (s.trans s2)) P λa v H1 s1 w1 q1 r1 P1=>⟨a,r1,P1 H1 (XG.refl _)⟩
theorem Vv {te:TE}{tl th:TO}{r:Enc α}[z:MonoE r]{m:Rs (List α)}{ml mh:Rs (Option Int)}(he:EvL K Er S OO σ te r m)(hl:EvP Er S OO σ tl ml)(hh:EvP Er S OO σ th mh):
  Ev K Er S OO OO σ (tSl (MF K) te tl th) (oL (oF r)) (m.bind λas=>ml.bind λlo=>mh.bind λhi=>.ok (KU as lo hi)):=λH Q w s P=>
 he.run w s FO.tr P λas x H1 s1 w1 q1 ⟨p,xs,e,q,pr⟩ P1=>hl.run w1 q1 FO.tr P1 λlo H2 s2 w2 q2 P2=>hh.run w2 q2 FO.tr P2 λhi H3 s3 w3 q3 P3'=>
  ⟨p,xs,e,SqL.of (s3 _ _ (s2 _ _ q)),HZ w3 (UF (Paired.imp2 (λ_ _ h=>z.mono ((Xm s2).trans (Xm s3)) h) pr) lo hi) P3'⟩
theorem Eu {ta:TE}{r:Enc α}{m:Rs (List α)}(ha:EvB K Er S OO σ ta (rL r) m):EvB K Er S OO σ (tCB (Cv K) (XM ta Qa)) Xa (m.bind λas=>.ok (as.length:Int)):=λH Q w s P=>
 ha.run w s FB.tr P λa x H1 s1 w1 q1 r9 P1=>by obtain⟨p,xs,e,q,pr⟩:=r9;exact⟨p,xs,by rw[e], .inl q,P1 _ H1 (XG.refl _) (by rw[Paired.len pr];rfl)⟩
theorem IH {ta tb:TE}{ma:Rs (List Int)}{mb:Rs Int}(ha:EvB K Er S OO σ ta (rL Xa) ma)(hb:EvB K Er S OO σ tb Xa mb):EvB K Er S OO σ (tOp (HN K) ta tb) Xa (ma.bind λas=>mb.bind λi=>atR as i):=λH Q w s P=>
 ha.run w s FB.tr P λa x H1 s1 w1 q1 ⟨p,xs,e,q,pr⟩ P1=>hb.run w1 q1 FB.tr P1 λb y H2 s2 w2 q2 r2 P2=>by
  obtain⟨c,hc,P3⟩:=P2.okOf λx=>KE
  obtain⟨u,h1,h2⟩:=J3 pr (Fi hc)
  exact⟨p,xs,b,u,e,r2,s2.seq q,h1,P3 u H2 (XG.refl _) h2⟩
theorem CB {te:TE}{tl th:TO}{m:Rs (List Int)}{ml mh:Rs (Option Int)}(he:EvB K Er S OO σ te (rL Xa) m)(hl:EvP Er S OO σ tl ml)(hh:EvP Er S OO σ th mh):
  Ev K Er S OO OO σ (tSl (MF K) te tl th) (oL (oF Xa)) (m.bind λas=>ml.bind λlo=>mh.bind λhi=>.ok (KU as lo hi)):=λH Q w s P=>
 he.run w s FO.tr P λas x H1 s1 w1 q1 ⟨p,xs,e,q,pr⟩ P1=>hl.run w1 q1 FO.tr P1 λlo H2 s2 w2 q2 P2=>hh.run w2 q2 FO.tr P2 λhi H3 s3 w3 q3 P3'=>
  ⟨p,xs,e,s3.seq (s2.seq q),HZ w3 (UF (Paired.imp2 (λ_ _ h=>h) pr) lo hi) P3'⟩
noncomputable def GE (as bs:List α):Rs (List α):=chk (as.length+bs.length<=sizeLine) (.ok (as++bs))
theorem V0 {ta tb:TE}{r:Enc α}[z:MonoE r]{ma mb:Rs (List α)}(ha:EvL K Er S OO σ ta r ma)(hb:EvL K Er S OO σ tb r mb):Ev K Er S OO OO σ (tOp Nq ta tb) (oL (oF r)) (ma.bind λas=>mb.bind λbs=>GE as bs):=λH Q w s P=>
 ha.run w s FO.tr P λas x H1 s1 w1 q1 ⟨p,xs,e,q,pr⟩ P1=>hb.run w1 q1 FO.tr P1 λbs y H2 s2 w2 q2 ⟨p',ys,e',q',pr'⟩ P2=>by
  obtain⟨c,hc,P3⟩:=P2.okOf λx=>Q3
  obtain⟨h1,h2⟩:=ZQ hc
  cases h2
  exact⟨p,p',xs,ys,e,e',s2 _ _ q,q',by rw[Paired.len pr,Paired.len pr'];exact h1,HZ w2 (Paired.app (Paired.imp2 (λ_ _ h=>z.mono (Xm s2) h) pr) pr') P3⟩
noncomputable def U8 (as:List α)(n:Int):Rs (List α):=chk (-(2^63)<=n/\n<2^63/\as.length*n.toNat<=sizeLine) (.ok (List.replicate n.toNat as).flatten)
theorem J5 {ta tb:TE}{r:Enc α}[z:MonoE r]{ma:Rs (List α)}{mb:Rs Int}(ha:EvL K Er S OO σ ta r ma)(hb:EvB K Er S OO σ tb Xa mb):Ev K Er S OO OO σ (tOp Np ta tb) (oL (oF r)) (ma.bind λas=>mb.bind λn=>U8 as n):=λH Q w s P=>
 ha.run w s FO.tr P λas x H1 s1 w1 q1 ⟨p,xs,e,q,pr⟩ P1=>hb.run w1 q1 FO.tr P1 λn y H2 s2 w2 q2 r2 P2=>by
  obtain⟨c,hc,P3⟩:=P2.okOf λx=>Q3
  obtain⟨⟨h0,h1,h3⟩,h2⟩:=ZQ hc
  cases h2
  exact⟨p,n,xs,e,r2,s2 _ _ q,h0,h1,by rw[Paired.len pr];exact h3,HZ w2 (Paired.rep' (Paired.imp2 (λ_ _ h=>z.mono (Xm s2) h) pr) _) P3⟩
theorem Z7 {ta:TE}{r:Enc α}[z:MonoE r]{ma:Rs (List α)}(ha:EvL K Er S OO σ ta r ma):Ev K Er S OO OO σ (tCB (CD K) (XM ta Qa)) (oL (oF r)) (ma.bind λas=>.ok as):=λH Q w s P=>
 ha.run w s FO.tr P λas x H1 s1 w1 q1 r9 P1=>by obtain⟨p,xs,e,q,pr⟩:=r9;exact⟨p,xs,by rw[e], .inl (SqL.of q),HZ w1 pr P1⟩
noncomputable def ZW (lo hi:Int):List Int:=(List.range (hi-lo).toNat).map λ(i:Nat)=>lo+(i:Int)
theorem Va {ta:TE}{ma:Rs Int}(ha:EvB K Er S OO σ ta Xa ma):Ev K Er S OO OO σ (Fr (XM ta Qa)) (oL (oF Xa)) (ma.bind λn=>chk (0<=n/\n<=1000) (.ok (ZW 0 n))):=λH Q w s P=>
 ha.run w s FO.tr P λn x H1 s1 w1 q1 r1 P1=>by
  obtain⟨c,hc,P3⟩:=P1.okOf λx=>Q3
  obtain⟨⟨h0,h1⟩,h2⟩:=ZQ hc
  cases h2
  refine⟨n,by rw[show x= .int n from r1],h0,h1,HZ w1 ?_ P3⟩
  unfold ZW
  rw[Int.sub_zero]
  have:∀l:List Nat,Paired (Xa K (hid H1 OO)) (l.map λ(i:Nat)=>V.int (i:Int)) (l.map λ(i:Nat)=>(0:Int)+(i:Int)):=λl=>by
   induction l with
   |nil=>exact .nil
   |cons a l ih=>exact .cons (by show V.int (a:Int)=V.int (0+(a:Int));rw[Int.zero_add]) ih
  exact this _
theorem Qm {o:OE α}:Ev K Er S OO OO σ (EX Qa) (oL o) (.ok []):=λH Q w s P=>⟨Nat.zero_le _,λp hp=>P (.ref p) [(p, .lst [])] _ (XY hp _) (w.new hp rfl) (Ug hp) ⟨p,[],[],rfl, .nil,rfl⟩⟩
noncomputable def FA {α:Type}(K:PySem.W.Frag)(OO:List (List XF))(r:Enc α)(Q:List V->Hp->Prop)(as:List α)(H:Hp):Prop:=∀ vs H',XG H H'->Paired (r K (hid H' OO)) vs as->Q vs H'
noncomputable def EvA {α:Type}(K:PySem.W.Frag)(Er:Exc->Hp->Prop)(S:SC)(OO:List (List XF))(σ:St)(t:TA)(r:Enc α)(m:Rs (List α)):Prop:=∀ H Q,W OO H->S.p (hid H OO)->PZ Er (FA K OO r Q) H m->t σ H Q
theorem Yt {r:Enc α}:EvA K Er S OO σ Qa r (.ok []):=λH Q w s P=>P [] H (XG.refl _) .nil
theorem Xt {te:TE}{t:TA}{r:Enc α}[z:MonoE r]{m:Rs α}{n:Rs (List α)}(he:EvS K Er S OO σ te r m)(ht:EvA K Er S OO σ t r n):EvA K Er S OO σ (XM te t) r (m.bind λa=>n.bind λas=>.ok (a::as)):=λH Q w s P=>
 he.run w s (λb H H' s h vs H2 s2 p=>h vs H2 (s.trans s2) p) P λa x H1 s1 w1 q1 r1 P1=>by
  refine ht H1 _ w1 q1 ?_
  cases e:n with
  |bad=>rw[e] at P1;exact P1
  |err x=>rw[e] at P1;exact P1
  |ok as=>rw[e] at P1;exact λvs H2 s2 p=>P1 (x::vs) H2 s2 (.cons (z.mono (Xm s2) r1) p)
theorem Ze {t:TA}{r:Enc α}[z:MonoE r]{m:Rs (List α)}(h:EvA K Er S OO σ t r m):Ev K Er S OO OO σ (EX t) (oL (oF r)) (m.bind λas=>chk (as.length<=sizeLine) (.ok as)):=λH Q w s P=>by
 refine h H _ w s ?_
 cases e:m with
 |bad=>rw[e] at P;exact P
 |err x=>rw[e] at P;exact P
 |ok as=>
  rw[e] at P
  intro vs H1 s1 p
  obtain⟨c,hc,P3⟩:=PZ.okOf (λx=>Q3) (show PZ Er _ H (chk (as.length<=sizeLine) (.ok as)) from P)
  obtain⟨h1,h2⟩:=ZQ hc
  cases h2
  exact⟨by rw[Paired.len p];exact h1,HZ (w.keep s1) p (FO.tr _ _ _ s1 P3)⟩
theorem Jv {ta tb:TE}{r:Enc α}{q:Enc β}[z:MonoE r][y:MonoE q]{ma:Rs α}{mb:Rs β}(ha:EvS K Er S OO σ ta r ma)(hb:EvS K Er S OO σ tb q mb):EvS K Er S OO σ (Lr (XM ta (XM tb Qa))) (rP2 r q) (ma.bind λa=>mb.bind λb=>.ok (a,b)):=λH Q w s P=>
 ha.run w s FS.tr P λa x H1 s1 w1 q1 r1 P1=>hb.run w1 q1 FS.tr P1 λb y' H2 s2 w2 q2 r2 P2=>
  ⟨by show 2<=sizeLine;decide,λp hp=>P2 _ _ (XY hp _) ⟨p,x,y',rfl,QL w2 hp,z.mono ((Xm s2).trans (Xm (XY hp _))) r1,y.mono (Xm (XY hp _)) r2⟩⟩
theorem Fe {ta tb tc:TE}{r:Enc α}{q:Enc β}{t:Enc γ}[z:MonoE r][y:MonoE q][x:MonoE t]{ma:Rs α}{mb:Rs β}{mc:Rs γ}(ha:EvS K Er S OO σ ta r ma)(hb:EvS K Er S OO σ tb q mb)(hc:EvS K Er S OO σ tc t mc):
  EvS K Er S OO σ (Lr (XM ta (XM tb (XM tc Qa)))) (rP3 r q t) (ma.bind λa=>mb.bind λb=>mc.bind λc=>.ok (a,b,c)):=λH Q w s P=>
 ha.run w s FS.tr P λa x' H1 s1 w1 q1 r1 P1=>hb.run w1 q1 FS.tr P1 λb y' H2 s2 w2 q2 r2 P2=>hc.run w2 q2 FS.tr P2 λc z' H3 s3 w3 q3 r3 P3=>
  ⟨by show 3<=sizeLine;decide,λp hp=>P3 _ _ (XY hp _) ⟨p,x',y',z',rfl,QL w3 hp,z.mono (((Xm s2).trans (Xm s3)).trans (Xm (XY hp _))) r1,y.mono ((Xm s3).trans (Xm (XY hp _))) r2,x.mono (Xm (XY hp _)) r3⟩⟩
end
section
variable {K:PySem.W.Frag}{Er:Exc->Hp->Prop}{S:SC}{OO OO' OO2:List (List XF)}{σ:St}{α β γ ρ ι:Type}{α1 α2 α3 α4 α5 α6:Type}
noncomputable def noE (m:Rs α):Rs α:=match m with
 | .ok a=>.ok a
 |_=>.bad
theorem UI {m:Rs α}{a:α}(h:noE m= .ok a):m= .ok a:=by
 cases m with
 |ok b=>exact h
 |bad=>cases h
 |err x=>cases h
theorem UN {m:Rs α}{x:Exc}:noE m≠ .err x:=by cases m<;> exact λz=>nomatch z
noncomputable def FF (K:PySem.W.Frag)(o:OE α)(Q:VK)(a:α)(H:Hp):Prop:=∀ v C H',W [C] H'->XG H (hid H' [C])->o K (hid H' [C]) v a C->Q v H'
noncomputable def sp1 (r1:Enc α1)(o:OE ρ)(f:α1->Rs ρ)(K:PySem.W.Frag):Sp:=λvs H Q _=>∃ v1 a1 b,vs=[v1]/\r1 K H v1 a1/\f a1= .ok b/\FF K o Q b H
noncomputable def sp2 (r1:Enc α1)(r2:Enc α2)(o:OE ρ)(f:α1->α2->Rs ρ)(K:PySem.W.Frag):Sp:=λvs H Q _=>∃ v1 v2 a1 a2 b,vs=[v1,v2]/\r1 K H v1 a1/\r2 K H v2 a2/\f a1 a2= .ok b/\FF K o Q b H
noncomputable def sp3 (r1:Enc α1)(r2:Enc α2)(r3:Enc α3)(o:OE ρ)(f:α1->α2->α3->Rs ρ)(K:PySem.W.Frag):Sp:=λvs H Q _=>∃ v1 v2 v3 a1 a2 a3 b,vs=[v1,v2,v3]/\r1 K H v1 a1/\r2 K H v2 a2/\r3 K H v3 a3/\f a1 a2 a3= .ok b/\FF K o Q b H
noncomputable def sp4 (r1:Enc α1)(r2:Enc α2)(r3:Enc α3)(r4:Enc α4)(o:OE ρ)(f:α1->α2->α3->α4->Rs ρ)(K:PySem.W.Frag):Sp:=λvs H Q _=>∃ v1 v2 v3 v4 a1 a2 a3 a4 b,vs=[v1,v2,v3,v4]/\r1 K H v1 a1/\r2 K H v2 a2/\r3 K H v3 a3/\r4 K H v4 a4/\f a1 a2 a3 a4= .ok b/\FF K o Q b H
noncomputable def sp5 (r1:Enc α1)(r2:Enc α2)(r3:Enc α3)(r4:Enc α4)(r5:Enc α5)(o:OE ρ)(f:α1->α2->α3->α4->α5->Rs ρ)(K:PySem.W.Frag):Sp:=λvs H Q _=>∃ v1 v2 v3 v4 v5 a1 a2 a3 a4 a5 b,vs=[v1,v2,v3,v4,v5]/\r1 K H v1 a1/\r2 K H v2 a2/\r3 K H v3 a3/\r4 K H v4 a4/\r5 K H v5 a5/\f a1 a2 a3 a4 a5= .ok b/\FF K o Q b H
theorem M9 {C:List XF}{H H':Hp}(w:W OO H)(w':W [C] H')(m':XG H (hid H' [C])):W (C::OO) H'/\XG (hid H OO) (hid H' (C::OO))/\Uv (hid H' [C]) (hid H' (C::OO)):=by
 have s:XG H H':=m'.trans XN
 have f1:fl [C]=C.map (·.1):=by simp[fl]
 have hd:∀b,b∈fl OO->b∉C.map (·.1):=λb hb hc=>by
  obtain⟨u,hu⟩:=Dh hb
  exact(Yx (m' _ _ (w.tr _ hu))).2 (by rw[f1];exact hc)
 have w2:W (C::OO) H':=by
  refine⟨λc hc=>?_,?_,λc hc=>?_⟩
  ·rw[List.flatten_cons,List.mem_append] at hc
   rcases hc with hc |hc
   ·exact w'.tr c (by simp[hc])
   ·exact s _ _ (w.tr c hc)
  ·rw[YG]
   refine List.nodup_append.mpr ⟨by rw[←f1];exact w'.nd,w.nd,λa ha b hb e=>?_⟩
   subst e;exact hd a hb ha
  ·rw[List.flatten_cons,List.mem_append] at hc
   rcases hc with hc |hc
   ·exact w'.mu c (by simp[hc])
   ·exact w.mu c hc
 refine⟨w2,λb u q=>?_,λb u q i=>?_⟩
 ·obtain⟨q1,q2⟩:=Yx q
  obtain⟨q3,q4⟩:=Yx (m' _ _ q1)
  refine Qd q3 ?_
  rw[YG,List.mem_append]
  exact λz=>z.elim (λz=>q4 (by rw[f1];exact z)) q2
 ·exact w2.i b u (Yx q).1 i
theorem Ub {o:OE α}[z:FlatO o]{Q:VK}{b:α}{H:Hp}(w:W OO H)(P:FO K OO OO o Q b H):FF K o Q b H:=λv C H' w' m' ho=>by
 obtain⟨w2,h2,h3⟩:=M9 w w' m'
 exact P v C H' (m'.trans XN) w2 h2 (z.flat h3 ho)
theorem YH {ta:TE}{r1:Enc α1}{o:OE ρ}[FlatO o]{f:α1->Rs ρ}{ma:Rs α1}(ha:EvB K Er S OO σ ta r1 ma):Ev K Er S OO OO σ (KC (sp1 r1 o f K) [] E0 (XM ta Qa)) o (ma.bind λa=>noE (f a)):=λH Q w s P=>
 ha.run w s FO.tr P λa x H1 s1 w1 q1 r1 P1=>by
  obtain⟨b,hb,P2⟩:=P1.okOf λx=>UN
  exact⟨x,a,b,rfl,r1,UI hb,Ub w1 P2⟩
theorem X4 {ta tb:TE}{r1:Enc α1}{r2:Enc α2}[z1:MonoE r1]{o:OE ρ}[FlatO o]{f:α1->α2->Rs ρ}{ma:Rs α1}{mb:Rs α2}(ha:EvB K Er S OO σ ta r1 ma)(hb:EvB K Er S OO σ tb r2 mb):
  Ev K Er S OO OO σ (KC (sp2 r1 r2 o f K) [] E0 (XM ta (XM tb Qa))) o (ma.bind λa=>mb.bind λb=>noE (f a b)):=λH Q w s P=>
 ha.run w s FO.tr P λa x H1 s1 w1 q1 r1 P1=>hb.run w1 q1 FO.tr P1 λb y H2 s2 w2 q2 r2 P2=>by
  obtain⟨c,hc,P3⟩:=P2.okOf λx=>UN
  exact⟨x,y,a,b,c,rfl,z1.mono s2 r1,r2,UI hc,Ub w2 P3⟩
theorem YW {ta tb tc:TE}{r1:Enc α1}{r2:Enc α2}{r3:Enc α3}[z1:MonoE r1][z2:MonoE r2]{o:OE ρ}[FlatO o]{f:α1->α2->α3->Rs ρ}{ma:Rs α1}{mb:Rs α2}{mc:Rs α3}(ha:EvB K Er S OO σ ta r1 ma)(hb:EvB K Er S OO σ tb r2 mb)(hc:EvB K Er S OO σ tc r3 mc):
  Ev K Er S OO OO σ (KC (sp3 r1 r2 r3 o f K) [] E0 (XM ta (XM tb (XM tc Qa)))) o (ma.bind λa=>mb.bind λb=>mc.bind λc=>noE (f a b c)):=λH Q w s P=>
 ha.run w s FO.tr P λa x H1 s1 w1 q1 r1 P1=>hb.run w1 q1 FO.tr P1 λb y H2 s2 w2 q2 r2 P2=>hc.run w2 q2 FO.tr P2 λc z H3 s3 w3 q3 r3 P3=>by
  obtain⟨d,hd,P4⟩:=P3.okOf λx=>UN
  exact⟨x,y,z,a,b,c,d,rfl,z1.mono (s2.trans s3) r1,z2.mono s3 r2,r3,UI hd,Ub w3 P4⟩
theorem FZ {ta tb tc td:TE}{r1:Enc α1}{r2:Enc α2}{r3:Enc α3}{r4:Enc α4}[z1:MonoE r1][z2:MonoE r2][z3:MonoE r3]{o:OE ρ}[FlatO o]{f:α1->α2->α3->α4->Rs ρ}{ma:Rs α1}{mb:Rs α2}{mc:Rs α3}{md:Rs α4}(ha:EvB K Er S OO σ ta r1 ma)(hb:EvB K Er S OO σ tb r2 mb)(hc:EvB K Er S OO σ tc r3 mc)(hd:EvB K Er S OO σ td r4 md):
  Ev K Er S OO OO σ (KC (sp4 r1 r2 r3 r4 o f K) [] E0 (XM ta (XM tb (XM tc (XM td Qa))))) o (ma.bind λa=>mb.bind λb=>mc.bind λc=>md.bind λd=>noE (f a b c d)):=λH Q w s P=>
 ha.run w s FO.tr P λa x H1 s1 w1 q1 r1 P1=>hb.run w1 q1 FO.tr P1 λb y H2 s2 w2 q2 r2 P2=>hc.run w2 q2 FO.tr P2 λc z H3 s3 w3 q3 r3 P3=>hd.run w3 q3 FO.tr P3 λd u H4 s4 w4 q4 r4 P4=>by
  obtain⟨e,he,P5⟩:=P4.okOf λx=>UN
  exact⟨x,y,z,u,a,b,c,d,e,rfl,z1.mono (s2.trans (s3.trans s4)) r1,z2.mono (s3.trans s4) r2,z3.mono s4 r3,r4,UI he,Ub w4 P5⟩
theorem Fp {ta tb tc td te:TE}{r1:Enc α1}{r2:Enc α2}{r3:Enc α3}{r4:Enc α4}{r5:Enc α5}[z1:MonoE r1][z2:MonoE r2][z3:MonoE r3][z4:MonoE r4]{o:OE ρ}[FlatO o]{f:α1->α2->α3->α4->α5->Rs ρ}{ma:Rs α1}{mb:Rs α2}{mc:Rs α3}{md:Rs α4}{me:Rs α5}(ha:EvB K Er S OO σ ta r1 ma)(hb:EvB K Er S OO σ tb r2 mb)(hc:EvB K Er S OO σ tc r3 mc)(hd:EvB K Er S OO σ td r4 md)(he:EvB K Er S OO σ te r5 me):
  Ev K Er S OO OO σ (KC (sp5 r1 r2 r3 r4 r5 o f K) [] E0 (XM ta (XM tb (XM tc (XM td (XM te Qa)))))) o (ma.bind λa=>mb.bind λb=>mc.bind λc=>md.bind λd=>me.bind λe=>noE (f a b c d e)):=λH Q w s P=>
 ha.run w s FO.tr P λa x H1 s1 w1 q1 r1 P1=>hb.run w1 q1 FO.tr P1 λb y H2 s2 w2 q2 r2 P2=>hc.run w2 q2 FO.tr P2 λc z H3 s3 w3 q3 r3 P3=>hd.run w3 q3 FO.tr P3 λd u H4 s4 w4 q4 r4 P4=>he.run w4 q4 FO.tr P4 λe t H5 s5 w5 q5 r5 P5=>by
  obtain⟨g,hg,P6⟩:=P5.okOf λx=>UN
  exact⟨x,y,z,u,t,a,b,c,d,e,g,rfl,z1.mono (s2.trans (s3.trans (s4.trans s5))) r1,z2.mono (s3.trans (s4.trans s5)) r2,z3.mono (s4.trans s5) r3,z4.mono s5 r4,r5,UI hg,Ub w5 P6⟩
structure Jn (γ ι:Type) where
 oo:ι->List (List XF)
 ss:ι->St
 sc:γ->ι->SC
inductive Ctl (ρ γ:Type) where
 |ret (r:ρ) |nx (g:γ)
noncomputable def FTd (K:PySem.W.Frag)(o:OE ρ)(D:Ends)(r:ρ)(h:Hp):Prop:=∀ v C OO' H',W (C::OO') H'->XG h (hid H' (C::OO'))->o K (hid H' (C::OO')) v r C->D.rt v H'
noncomputable def FNd (J:Jn γ ι)(D:Ends)(g:γ)(h:Hp):Prop:=∀ x H',W (J.oo x) H'->XG h (hid H' (J.oo x))->(J.sc g x).p (hid H' (J.oo x))->D.nx (J.ss x) H'
noncomputable def FCd (K:PySem.W.Frag)(o:OE ρ)(J:Jn γ ι)(D:Ends)(c:Ctl ρ γ)(h:Hp):Prop:=match c with
 | .ret r=>FTd K o D r h
 | .nx g=>FNd J D g h
class FdOk (Fd:Ends->β->Hp->Prop):Prop where
 tr:∀D b h h',XG h h'->Fd D b h->Fd D b h'
instance {o:OE ρ}:FdOk (FTd K o):=⟨λD b h h' s q v C O H' w m x=>q v C O H' w (s.trans m) x⟩
instance {J:Jn γ ι}:FdOk (FNd J):=⟨λD b h h' s q x H' w m y=>q x H' w (s.trans m) y⟩
instance {o:OE ρ}{J:Jn γ ι}:FdOk (FCd K o J):=⟨λD b h h' s q=>by
 cases b with
 |ret r=>exact λv C O H' w m x=>q v C O H' w (s.trans m) x
 |nx g=>exact λx H' w m y=>q x H' w (s.trans m) y⟩
theorem PZ.tr {F:β->Hp->Prop}(hF:∀b H H',XG H H'->F b H->F b H'){H H':Hp}{m:Rs β}(s:XG H H')(P:PZ Er F H m):PZ Er F H' m:=by
 cases m with
 |bad=>exact P
 |err x=>exact λH2 s2=>P H2 (s.trans s2)
 |ok b=>exact hF b H H' s P
noncomputable def Sv (Er:Exc->Hp->Prop)(S:SC)(OO:List (List XF))(σ:St)(t:TS)(Fd:Ends->β->Hp->Prop)(m:Rs β):Prop:=∀ H D,W OO H->S.p (hid H OO)->PZ Er (Fd D) (hid H OO) m->t D σ H
variable {Fd:Ends->β->Hp->Prop}[fd:FdOk Fd]{u:TS}
theorem Ev.st {te:TE}{o:OE α}{m:Rs α}(he:Ev K Er S OO OO' σ te o m){H:Hp}{D:Ends}{Q:VK}(w:W OO H)(s:S.p (hid H OO)){f:α->Rs β}(P:PZ Er (Fd D) (hid H OO) (m.bind f))
  (hk:∀a v C H',W (C::OO') H'->S.p (hid H' (C::OO'))->o K (hid H' (C::OO')) v a C->PZ Er (Fd D) (hid H' (C::OO')) (f a)->Q v H'):te σ H Q:=by
 refine he H Q w s ?_
 cases m with
 |bad=>exact P
 |err x=>exact λH' s'=>P H' (XN.trans s')
 |ok a=>exact λv C H' s' w' m' ho=>hk a v C H' w' (S.mono _ _ m' s) ho (PZ.tr (fd.tr D) m' P)
theorem EvB.st {te:TE}{r:Enc α}{m:Rs α}(he:EvB K Er S OO σ te r m){H:Hp}{D:Ends}{Q:VK}(w:W OO H)(s:S.p (hid H OO)){f:α->Rs β}(P:PZ Er (Fd D) (hid H OO) (m.bind f))
  (hk:∀a v H',XG H H'->W OO H'->S.p (hid H' OO)->r K H' v a->PZ Er (Fd D) (hid H' OO) (f a)->Q v H'):te σ H Q:=by
 refine he H Q w s ?_
 cases m with
 |bad=>exact P
 |err x=>exact λH' s'=>P H' (XN.trans s')
 |ok a=>exact λv H' s' hr=>hk a v H' s' (w.keep s') (S.mono _ _ (Xm s') s) hr (PZ.tr (fd.tr D) (Xm s') P)
theorem EvS.st {te:TE}{r:Enc α}{m:Rs α}(he:EvS K Er S OO σ te r m){H:Hp}{D:Ends}{Q:VK}(w:W OO H)(s:S.p (hid H OO)){f:α->Rs β}(P:PZ Er (Fd D) (hid H OO) (m.bind f))
  (hk:∀a v H',XG H H'->W OO H'->S.p (hid H' OO)->r K (hid H' OO) v a->PZ Er (Fd D) (hid H' OO) (f a)->Q v H'):te σ H Q:=by
 refine he H Q w s ?_
 cases m with
 |bad=>exact P
 |err x=>exact λH' s'=>P H' (XN.trans s')
 |ok a=>exact λv H' s' hr=>hk a v H' s' (w.keep s') (S.mono _ _ (Xm s') s) hr (PZ.tr (fd.tr D) (Xm s') P)
theorem EvT.st {tt:TT}{m:Rs Bool}(he:EvT Er S OO σ tt m){H:Hp}{D:Ends}{Q:Bool->Hp->Prop}(w:W OO H)(s:S.p (hid H OO)){f:Bool->Rs β}(P:PZ Er (Fd D) (hid H OO) (m.bind f))
  (hk:∀b H',W OO H'->S.p (hid H' OO)->PZ Er (Fd D) (hid H' OO) (f b)->Q b H'):tt σ H Q:=by
 refine he H Q w s ?_
 cases m with
 |bad=>exact P
 |err x=>exact λH' s'=>P H' (XN.trans s')
 |ok a=>exact λH' s'=>hk a H' (w.keep s') (S.mono _ _ (Xm s') s) (PZ.tr (fd.tr D) (Xm s') P)
theorem Kr {OO:List (List XF)}{k:Nat}{C:List XF}:(OO.set k C).set k []=OO.set k []:=by simp
theorem Nc {C:List XF}{H:Hp}{k:Nat}(w:W (C::OO) H)(hk:k<OO.length):W (OO.set k C) H/\XG (hid H (C::OO)) (hid H (OO.set k C)):=by
 have h1:=Yi (OO:=OO) (k:=k) (C:=OO[k]) (by simp[hk])
 have h2:=Yi (OO:=OO.set k C) (k:=k) (C:=C) (by simp[hk])
 rw[Kr] at h2
 have h3:(OO.set k C).flatten.Perm (C++(OO.set k []).flatten):=by simpa using h2.symm
 have h4:(C::OO).flatten.Perm (C++(OO[k]++(OO.set k []).flatten)):=by
  rw[List.flatten_cons];exact(by simpa using h1.symm:OO.flatten.Perm (OO[k]++(OO.set k []).flatten)).append_left C
 have h5:(C++(OO.set k []).flatten).Sublist (C++(OO[k]++(OO.set k []).flatten)):=List.Sublist.append (List.Sublist.refl _) (List.sublist_append_right _ _)
 have w1:W [C++(OO[k]++(OO.set k []).flatten)] H:=w.of (by simpa using h4.symm)
 have w2:W [C++(OO.set k []).flatten] H:=w1.sub (by simpa using h5)
 refine⟨w2.of (by simpa using h3),Q5 (XG.refl _) λb hb=>?_⟩
 obtain⟨o,ho⟩:=Dh hb
 exact UG (h4.mem_iff.mpr (h5.mem (h3.mem_iff.mp ho)))
theorem XS {te:TE}{o:OE α}[MonoO o]{m:Rs α}{f:α->Rs β}(i k:Nat)(he:Ev K Er S OO OO' σ te o m)(hk:k<OO'.length)(hr:∀a v C,Sv Er (S.addO K o v a C) (OO'.set k C) (σ.set i (some v)) u Fd (f a)):Sv Er S OO σ (Jo (Ea te (Zx i)) u) Fd (m.bind f):=λH D w s P=>
 he.st w s P λa v C H' w' s' ho P'=>by
  obtain⟨w2,h2⟩:=Nc w' hk
  exact hr a v C H' D w2 ⟨S.mono _ _ h2 s',MonoO.mono h2 ho⟩ (PZ.tr (fd.tr D) h2 P')
theorem Xx {te:TE}{r:Enc α}[MonoE r]{m:Rs α}{f:α->Rs β}(i:Nat)(he:EvS K Er S OO σ te r m)(hr:∀a v,Sv Er (S.add K r v a) OO (σ.set i (some v)) u Fd (f a)):Sv Er S OO σ (Jo (Ea te (Zx i)) u) Fd (m.bind f):=λH D w s P=>
 he.st w s P λa v H' s1 w' s' ho P'=>hr a v H' D w' ⟨s',ho⟩ P'
theorem XC {te:TE}{o:OE ρ}{m:Rs ρ}(he:Ev K Er S OO OO' σ te o m):Sv Er S OO σ (Jo (MO te) u) (FTd K o) m:=λH D w s P=>
 he H _ w s (by
  cases m with
  |bad=>exact P
  |err x=>exact λH' s'=>P H' (XN.trans s')
  |ok a=>exact λv C H' s' w' m' ho=>P v C OO' H' w' m' ho)
theorem QC {J:Jn γ ι}{t:TS}{o:OE ρ}{m:Rs γ}(h:Sv Er S OO σ t (FNd J) m):Sv Er S OO σ t (FCd K o J) (m.bind λr=>.ok (.nx r)):=λH D w s P=>h H D w s (by
 cases m with
 |bad=>exact P
 |err x=>exact P
 |ok a=>exact P)
theorem Xw {J:Jn γ ι}(x:ι)(g:γ)(h1:OO=J.oo x)(h2:σ=J.ss x)(h3:∀h,S.p h->(J.sc g x).p h):Sv Er S OO σ Di (FNd J) (.ok g):=λH D w s P=>by
 subst h1 h2
 exact P x H w (XG.refl _) (h3 _ s)
theorem Mz {t:TS}:Sv Er S OO σ t Fd .bad:=λH D w s P=>P.elim
theorem ZM {o:OE ρ}{c:TT}{t1:TS}{mc:Rs Bool}{m1 m2:Rs ρ}(hc:EvT Er S OO σ c mc)(h1:Sv Er S OO σ t1 (FTd K o) m1)(h2:Sv Er S OO σ u (FTd K o) m2):Sv Er S OO σ (Jo (Lo c t1 Di) u) (FTd K o) (mc.bind λb=>if b=true then m1 else m2):=λH D w s P=>
 hc.st (Fd:=FTd K o) w s P λb H' w' s' P'=>by
  cases b with
  |true=>rw[if_pos rfl] at P'⊢;exact h1 H' _ w' s' P'
  |false=>exact h2 H' D w' s' P'
theorem Qp {o:OE ρ}{J:Jn γ ι}{c:TT}{t1:TS}{mc:Rs Bool}{m1:Rs ρ}{m2:Rs (Ctl ρ γ)}(hc:EvT Er S OO σ c mc)(h1:Sv Er S OO σ t1 (FTd K o) m1)(h2:Sv Er S OO σ u (FCd K o J) m2):Sv Er S OO σ (Jo (Lo c t1 Di) u) (FCd K o J) (mc.bind λb=>if b=true then m1.bind (λr=>.ok (.ret r)) else m2):=λH D w s P=>
 hc.st (Fd:=FCd K o J) w s P λb H' w' s' P'=>by
  cases b with
  |true=>
   rw[if_pos rfl] at P'⊢
   refine h1 H' _ w' s' ?_
   cases m1 with
   |bad=>exact P'
   |err x=>exact P'
   |ok a=>exact P'
  |false=>exact h2 H' D w' s' P'
theorem ZH {c:TT}{t1 t2:TS}{mc:Rs Bool}{m1 m2:Rs β}(hc:EvT Er S OO σ c mc)(h1:Sv Er S OO σ t1 Fd m1)(h2:Sv Er S OO σ t2 Fd m2):Sv Er S OO σ (Lo c t1 t2) Fd (mc.bind λb=>if b=true then m1 else m2):=λH D w s P=>
 hc.st w s P λb H' w' s' P'=>by
  cases b with
  |true=>rw[if_pos rfl] at P'⊢;exact h1 H' _ w' s' P'
  |false=>exact h2 H' D w' s' P'
theorem Zd {J:Jn γ ι}{t:TS}{m:Rs γ}{f:γ->Rs β}(hb:Sv Er S OO σ t (FNd J) m)(hr:∀g x,Sv Er (J.sc g x) (J.oo x) (J.ss x) u Fd (f g)):Sv Er S OO σ (Jo t u) Fd (m.bind f):=λH D w s P=>
 hb H _ w s (by
  cases m with
  |bad=>exact P
  |err x=>exact P
  |ok g=>exact λx H' w' m' q=>hr g x H' D w' q (PZ.tr (fd.tr D) m' P))
noncomputable def QY (f:γ->Rs ρ):Ctl ρ γ->Rs ρ
 | .ret r=>.ok r
 | .nx g=>f g
noncomputable def QI {δ:Type}(f:γ->Rs (Ctl ρ δ)):Ctl ρ γ->Rs (Ctl ρ δ)
 | .ret r=>.ok (.ret r)
 | .nx g=>f g
theorem Sv.weak {S2:SC}{t:TS}{m:Rs β}(h:Sv Er S2 OO σ t Fd m)(hs:∀x,S.p x->S2.p x):Sv Er S OO σ t Fd m:=λH D w s P=>h H D w (hs _ s) P
theorem NB {C D C':List XF}{H:Hp}{k:Nat}{p:Addr}{o:HO}(w:W (D::OO) H)(hk:OO[k]?=some C)(hp:p∈C.map (·.1))(hC:(C'.map (·.1)).Perm ((C++D).map (·.1)))(ht:∀c∈C',upd H p o c.1=some c.2)(hm:∀c∈C',Lu c.2=true):
  W (OO.set k C') (upd H p o)/\hid (upd H p o) (OO.set k C')=hid H (D::OO):=by
 have hlt:k<OO.length:=by
  rcases Nat.lt_or_ge k OO.length with h |h
  ·exact h
  ·rw[List.getElem?_eq_none h] at hk;cases hk
 have h1:=Yi hk
 have h2:=Yi (OO:=OO.set k C') (k:=k) (C:=C') (by simp[hlt])
 rw[Kr] at h2
 have h3:(OO.set k C').flatten.Perm (C'++(OO.set k []).flatten):=by simpa using h2.symm
 have h4:(D::OO).flatten.Perm (D++(C++(OO.set k []).flatten)):=by
  rw[List.flatten_cons];exact(by simpa using h1.symm:OO.flatten.Perm (C++(OO.set k []).flatten)).append_left D
 have hfl:(fl (OO.set k C')).Perm (fl (D::OO)):=by
  unfold fl
  refine(h3.map _).trans (List.Perm.trans ?_ (h4.map _).symm)
  simp only[List.map_append]
  refine(hC.append_right _).trans ?_
  simp only[List.map_append]
  rw[←List.append_assoc]
  exact List.perm_append_comm.append_right _
 have nd:=w.nd
 refine⟨⟨λc hc=>?_,hfl.nodup_iff.mpr nd,λc hc=>?_⟩,?_⟩
 ·rcases List.mem_append.mp (h3.mem_iff.mp hc) with hc |hc
  ·exact ht c hc
  ·have hne:c.1≠p:=λe=>by
    have nd2:((D++(C++(OO.set k []).flatten)).map (·.1)).Nodup:=(h4.map _).nodup_iff.mp nd
    simp only[List.map_append] at nd2
    have nd3:=(List.nodup_append.mp nd2).2.1
    exact(List.nodup_append.mp nd3).2.2 p hp c.1 (List.mem_map.mpr ⟨c,hc,rfl⟩) e.symm
   rw[X3 hne]
   exact w.tr c (h4.mem_iff.mpr (by simp[hc]))
 ·rcases List.mem_append.mp (h3.mem_iff.mp hc) with hc |hc
  ·exact hm c hc
  ·exact w.mu c (h4.mem_iff.mpr (by simp[hc]))
 ·funext b
  unfold hid
  by_cases hb:b∈fl (D::OO)
  ·rw[if_pos hb,if_pos (hfl.mem_iff.mpr hb)]
  ·rw[if_neg hb,if_neg λz=>hb (hfl.mem_iff.mp z)]
   refine X3 λe=>hb ?_
   rw[e]
   obtain⟨c,hc,rfl⟩:=List.mem_map.mp hp
   exact UG (h4.mem_iff.mpr (by simp[hc]))
theorem Qh {Cs:List (List XF)}{D:List XF}:(Cs++[D]).flatten=Cs.flatten++D:=by simp
theorem Zl {ta:TE}{o:OE α}[MonoO o]{m:Rs α}{f:List α->Rs β}{v:V}{as:List α}{C:List XF}(i k:Nat)(hσ:σ[i]?=some (some v))(hk:OO[k]?=some C)(hk':OO'[k]?=some C)(h:∀x,S.p x->oL o K x v as C)(he:Ev K Er S OO OO' σ ta o m)
  (hr:∀a C',Sv Er (S.addO K (oL o) v (as++[a]) C') (OO'.set k C') σ u Fd (f (as++[a]))):Sv Er S OO σ (Jo (Dz (tBM K "list" US (Ks i) (XM ta Qa))) u) Fd (m.bind λa=>chk (as.length<sizeLine) (f (as++[a]))):=λH D w s P=>by
 obtain⟨p,xs,Cs,e,q,c⟩:=h _ s
 subst c
 have hH:H p=some (.lst xs):=w.tr (p, .lst xs) (List.mem_flatten.mpr ⟨_,List.mem_of_getElem? hk,List.mem_cons_self⟩)
 refine⟨v,hσ,by rw[e];exact .inl ⟨rfl,_,SqL.of hH⟩,he.st w s P λa y D' H' w' s' ho P'=>?_⟩
 obtain⟨p',xs',Cs',e2,q2,c2⟩:=h _ s'
 rw[e] at e2;cases e2
 have c3:(p,HO.lst xs)=(p,HO.lst xs')/\Cs.flatten=Cs'.flatten:=by
  injection c2 with h1 h2
  exact⟨h1,h2⟩
 obtain⟨c3,c4⟩:=c3
 cases c3
 have hH':H' p=some (.lst xs):=w'.tr (p, .lst xs) (by rw[List.flatten_cons];exact List.mem_append_right _ (List.mem_flatten.mpr ⟨_,List.mem_of_getElem? hk',List.mem_cons_self⟩))
 cases hlt:decide (as.length<sizeLine) with
 |false=>rw[chk,if_neg (by simpa using hlt)] at P';exact P'.elim
 |true=>
  have hlt':as.length<sizeLine:=by simpa using hlt
  rw[XE hlt'] at P'
  have wnd:=w'.nd
  have hcell:∀c∈(p,HO.lst (xs++[y]))::(Cs'++[D']).flatten,upd H' p (.lst (xs++[y])) c.1=some c.2:=λc hc=>by
   rcases List.mem_cons.mp hc with rfl |hc
   ·exact YV
   ·have hp1:=Yi hk'
    have w3:W [D'++(((p,HO.lst xs)::Cs.flatten)++(OO'.set k []).flatten)] H':=w'.of (by
     simp only[List.flatten_cons,List.flatten_nil,List.append_nil]
     exact(by simpa using hp1:(((p,HO.lst xs)::Cs.flatten)++(OO'.set k []).flatten).Perm OO'.flatten).append_left D')
    have hin:c∈D'++(((p,HO.lst xs)::Cs.flatten)++(OO'.set k []).flatten):=by
     rw[Qh,List.mem_append] at hc
     rcases hc with hc |hc
     ·rw[←c4] at hc;simp[hc]
     ·simp[hc]
    have hne:c.1≠p:=λee=>by
     have nd3:=w3.nd
     rw[Qh,List.mem_append, ←c4] at hc
     simp only[fl,List.flatten_cons,List.flatten_nil,List.append_nil,List.map_append,List.cons_append,List.map_cons] at nd3
     rw[List.nodup_append] at nd3
     obtain⟨_,n2,n3⟩:=nd3
     rcases hc with hc |hc
     ·exact(List.nodup_cons.mp n2).1 (List.mem_append_left _ (List.mem_map.mpr ⟨c,hc,ee⟩))
     ·exact n3 c.1 (List.mem_map.mpr ⟨c,hc,rfl⟩) p List.mem_cons_self ee
    rw[X3 hne]
    exact w3.tr c (by simpa using hin)
  obtain⟨w4,h4⟩:=NB (C':=(p, .lst (xs++[y]))::(Cs'++[D']).flatten) w' hk' List.mem_cons_self (by simp[Qh,c4]) hcell (λc hc=>by
   rcases List.mem_cons.mp hc with rfl |hc
   ·rfl
   ·rw[Qh,List.mem_append, ←c4] at hc
    rcases hc with hc |hc
    ·exact w'.mu c (by rw[List.flatten_cons];exact List.mem_append_right _ (List.mem_flatten.mpr ⟨_,List.mem_of_getElem? hk',List.mem_cons_of_mem _ hc⟩))
    ·exact w'.mu c (by rw[List.flatten_cons];exact List.mem_append_left _ hc))
  refine⟨p,xs,y,e,rfl,hH',by rw[(P3.len q).1];exact hlt',?_⟩
  refine hr a _ _ D w4 ?_ (by rw[h4];exact P')
  rw[h4]
  exact⟨s',⟨p,xs++[y],Cs'++[D'],e,q2.snoc ho,rfl⟩⟩
end
section
variable {K:PySem.W.Frag}{Er:Exc->Hp->Prop}{S:SC}{OO OO' OO2:List (List XF)}{σ:St}{α β γ ρ ι δ ε:Type}
variable {Fd:Ends->β->Hp->Prop}[fd:FdOk Fd]{u:TS}
noncomputable def forN:List α->γ->(γ->α->Rs γ)->Rs γ
 | [],g,_=>.ok g
 |a::as,g,f=>(f g a).bind λg'=>forN as g' f
noncomputable def forC:List α->γ->(γ->α->Rs (Ctl ρ γ))->Rs (Ctl ρ γ)
 | [],g,_=>.ok (.nx g)
 |a::as,g,f=>(f g a).bind λc=>match c with
  | .ret r=>.ok (.ret r)
  | .nx g'=>forC as g' f
theorem YS {m:Rs α}{f:α->Rs β}{g:β->Rs γ}:(m.bind f).bind g=m.bind λa=>(f a).bind g:=by cases m<;> rfl
structure Tgt (K:PySem.W.Frag)(OO:List (List XF))(g:TG)(r:Enc α)(κ:Type) where
 set:κ->St->St
 sc:α->κ->SC->SC
 ok:∀{H:Hp}{v:V}{a:α}{σ:St}{S:SC}{Q:St->Hp->Prop},r K (hid H OO) v a->S.p (hid H OO)->(∀x,(sc a x S).p (hid H OO)->Q (set x σ) H)->g v σ H Q
noncomputable def tg1 {r:Enc α}[MonoE r](i:Nat):Tgt K OO (Zx i) r V where
 set:=λv σ=>σ.set i (some v)
 sc:=λa v S=>S.add K r v a
 ok:=fun {H v a σ S Q} hr hs hq=>hq v ⟨hs,hr⟩
noncomputable def tg2 {r:Enc α}{q:Enc β}[MonoE r][MonoE q](i j:Nat):Tgt K OO (Ht K 2 (Qr (Zx i) (Qr (Zx j) Iu))) (rP2 r q) (V×V) where
 set:=λv σ=>(σ.set i (some v.1)).set j (some v.2)
 sc:=λa v S=>(S.add K r v.1 a.1).add K q v.2 a.2
 ok:=fun {H v a σ S Q} r9 hs hq=>by obtain⟨p,x,y,e,h,h1,h2⟩:=r9;exact⟨p,_,e,SqT.of (XN _ _ h),rfl,x,[y],rfl,y,[],rfl,rfl,hq (x,y) ⟨⟨hs,h1⟩,h2⟩⟩
noncomputable def tg3 {r:Enc α}{q:Enc β}{t:Enc γ}[MonoE r][MonoE q][MonoE t](i j k:Nat):Tgt K OO (Ht K 3 (Qr (Zx i) (Qr (Zx j) (Qr (Zx k) Iu)))) (rP3 r q t) (V×V×V) where
 set:=λv σ=>((σ.set i (some v.1)).set j (some v.2.1)).set k (some v.2.2)
 sc:=λa v S=>((S.add K r v.1 a.1).add K q v.2.1 a.2.1).add K t v.2.2 a.2.2
 ok:=fun {H v a σ S Q} r9 hs hq=>by obtain⟨p,x,y,z,e,h,h1,h2,h3⟩:=r9;exact⟨p,_,e,SqT.of (XN _ _ h),rfl,x,[y,z],rfl,y,[z],rfl,z,[],rfl,rfl,hq (x,y,z) ⟨⟨⟨hs,h1⟩,h2⟩,h3⟩⟩
structure Walk (K:PySem.W.Frag)(Er:Exc->Hp->Prop)(S:SC)(OO:List (List XF))(σ:St)(wi:TI)(r:Enc α)(m:Rs (List α)):Prop where
 ok:∀{H:Hp}{R:It->Hp->Prop},W OO H->S.p (hid H OO)->PZ Er (λas H=>∀ J H',XG H H'->
   (∀(i:Nat) a,as[i]?=some a->∀OO2 H2,W OO2 H2->XG (hid H' OO) (hid H2 OO2)->J.go i H2/\∀x H3,J.yld i H2 x H3->XG H2 H3/\r K (hid H3 OO2) x a)->
   (∀OO2 H2,W OO2 H2->XG (hid H' OO) (hid H2 OO2)->J.stop as.length H2)->R J H') H m->wi σ H R
theorem XI {te:TE}{r:Enc α}[z:MonoE r]{m:Rs (List α)}(he:EvS K Er S OO σ te (rV r) m):Walk K Er S OO σ (Ll K te) r m:=⟨fun {H R} w s P=>by
 refine he H _ w s (P.imp λas _ h v H' s' ⟨p,xs,e,hp,pr⟩=>⟨p,e,⟨xs,SqL.of (XN _ _ hp)⟩,h _ H' s' ?_ ?_⟩)
 ·intro i a ha OO2 H2 w2 m2
  obtain⟨x,hx,rx⟩:=Paired.getR pr ha
  have hq:SqL K H2 p xs:=SqL.of (XN _ _ (m2 _ _ hp))
  refine⟨⟨xs,x,hq,hx⟩,λy H3 r9=>?_⟩
  obtain⟨e3,hy⟩:=r9
  subst e3
  refine⟨XG.refl _,?_⟩
  have:=hy xs hq
  rw[hx] at this
  cases this
  exact z.mono m2 rx
 ·intro OO2 H2 w2 m2
  exact⟨xs,SqL.of (XN _ _ (m2 _ _ hp)),by rw[Paired.len pr];exact Nat.le_refl _⟩⟩
noncomputable def KK (as:List α):List (Int×α):=(List.range as.length).map (λ(i:Nat)=>(i:Int)) |>.zip as
theorem KJ {as:List α}{i:Nat}{p:Int×α}(h:(KK as)[i]?=some p):p.1=(i:Int)/\as[i]?=some p.2:=by
 unfold KK at h
 rw[List.getElem?_zip_eq_some] at h
 obtain⟨h1,h2⟩:=h
 rw[List.getElem?_map] at h1
 have hlt:i<as.length:=by
  rcases Nat.lt_or_ge i as.length with q |q
  ·exact q
  ·rw[List.getElem?_eq_none q] at h2;cases h2
 rw[List.getElem?_range hlt] at h1
 exact⟨(Option.some.inj h1).symm,h2⟩
theorem Bs {as:List α}:(KK as).length=as.length:=by simp[KK]
theorem BO {te:TE}{r:Enc α}[z:MonoE r]{m:Rs (List α)}(he:EvS K Er S OO σ te (rV r) m):Walk K Er S OO σ (Mb K te) (rP2 Xa r) (m.bind λas=>.ok (KK as)):=⟨fun {H R} w s P=>by
 refine he H _ w s ?_
 cases em:m with
 |bad=>rw[em] at P;exact P
 |err x=>rw[em] at P;exact P
 |ok as=>
  rw[em] at P
  intro v H' s' ⟨p,xs,e,hp,pr⟩
  refine⟨p,e,⟨xs,SqL.of (XN _ _ hp)⟩,P _ H' s' ?_ ?_⟩
  ·intro i a ha OO2 H2 w2 m2
   obtain⟨ha1,ha2⟩:=KJ ha
   obtain⟨x,hx,rx⟩:=Paired.getR pr ha2
   have hq:SqL K H2 p xs:=SqL.of (XN _ _ (m2 _ _ hp))
   refine⟨⟨xs,x,hq,hx⟩,λy H3 h3=>?_⟩
   obtain⟨b,x',rfl,hb,rfl,hy⟩:=h3
   have:=hy xs hq
   rw[hx] at this
   cases this
   refine⟨XY hb _,⟨b, .int i,x,rfl,QL w2 hb,by show V.int _=V.int _;rw[ha1],z.mono (m2.trans (Xm (XY hb _))) rx⟩⟩
  ·intro OO2 H2 w2 m2
   exact⟨xs,SqL.of (XN _ _ (m2 _ _ hp)),by rw[Bs,Paired.len pr];exact Nat.le_refl _⟩⟩
theorem DA {lo hi:Int}{i:Nat}{a:Int}(h:(ZW lo hi)[i]?=some a):a=lo+i/\i<(hi-lo).toNat:=by
 unfold ZW at h
 rw[List.getElem?_map] at h
 rcases Nat.lt_or_ge i (hi-lo).toNat with q |q
 ·rw[List.getElem?_range q] at h;exact⟨(Option.some.inj h).symm,q⟩
 ·rw[List.getElem?_eq_none (by simpa using q)] at h;cases h
theorem Du {lo hi:Int}:(ZW lo hi).length=(hi-lo).toNat:=by simp[ZW]
noncomputable def QZ (lo hi:Int):Rs (List Int):=chk (-(2^62)<=lo/\lo<2^62/\ -(2^62)<=hi/\hi<2^62) (.ok (ZW lo hi))
theorem Xv {te:TE}{m:Rs Int}(he:EvB K Er S OO σ te Xa m):Walk K Er S OO σ (LD (XM te Qa)) Xa (m.bind λn=>QZ 0 n):=⟨fun {H R} w s P=>
 he.run w s (λas H H' s' h J H2 s2=>h J H2 (s'.trans s2)) P λn v H1 s1 w1 q1 r1 P1=>by
  obtain⟨c,hc,P2⟩:=P1.okOf λx=>Q3
  obtain⟨⟨_,_,h1,h2⟩,h3⟩:=ZQ hc
  cases h3
  refine⟨n,by rw[show v= .int n from r1],h1,h2,P2 _ H1 (XG.refl _) (λi a ha OO2 H2 w2 m2=>?_) λOO2 H2 w2 m2=>?_⟩
  ·obtain⟨e1,e2⟩:=DA ha
   rw[Int.sub_zero] at e2
   refine⟨e2,λx H3 r9=>?_⟩
   obtain⟨e3,e4⟩:=r9
   subst e3
   exact⟨XG.refl _,by rw[e4,e1];rfl⟩
  ·show n.toNat<=_
   rw[Du,Int.sub_zero];exact Nat.le_refl _⟩
theorem Yk {wi:TI}{g:TG}{tb:TS}{r:Enc α}{κ:Type}{m:Rs (List α)}{body:γ->α->Rs γ}{f:γ->Rs β}(J:Jn γ ι)(T:∀OO,Tgt K OO g r κ)(x0:ι)(g0:γ)(he:Walk K Er S OO σ wi r m)(h1:OO=J.oo x0)(h2:σ=J.ss x0)(h3:∀h,S.p h->(J.sc g0 x0).p h)
  (hb:∀g x a v,Sv Er ((T (J.oo x)).sc a v (J.sc g x)) (J.oo x) ((T (J.oo x)).set v (J.ss x)) tb (FNd J) (body g a))
  (hr:∀g x,Sv Er (J.sc g x) (J.oo x) (J.ss x) u Fd (f g)):Sv Er S OO σ (Jo (MB wi g tb) u) Fd (m.bind λas=>(forN as g0 body).bind f):=λH D w s P=>by
 refine he.ok w s ?_
 cases em:m with
 |bad=>rw[em] at P;exact P
 |err x=>rw[em] at P;exact λH' s'=>P H' (XN.trans s')
 |ok as=>
  rw[em] at P
  have P:PZ Er (Fd D) (hid H OO) ((forN as g0 body).bind f):=P
  intro It H' s' hgo hstop
  refine⟨λi mm σ' H2=>mm=as.length-i/\i<=as.length/\∃x gg,σ'=J.ss x/\W (J.oo x) H2/\XG (hid H' OO) (hid H2 (J.oo x))/\(J.sc gg x).p (hid H2 (J.oo x))/\PZ Er (Fd D) (hid H2 (J.oo x)) ((forN (as.drop i) gg body).bind f),⟨as.length,rfl,Nat.zero_le _,x0,g0,h2,?_,?_,?_,?_⟩,?_⟩
  ·rw[←h1];exact w.keep s'
  ·rw[←h1];exact XG.refl _
  ·rw[←h1];exact h3 _ (S.mono _ _ (Xm s') s)
  ·rw[←h1,List.drop_zero];exact PZ.tr (fd.tr D) (Xm s') P
  ·rintro i mm σ' H2 ⟨rfl,hi,x,gg,rfl,w2,m2,sc2,P2⟩
   by_cases hlt:i<as.length
   ·right
    have ha:as[i]?=some as[i]:=by simp[hlt]
    obtain⟨h4,h5⟩:=hgo i _ ha (J.oo x) H2 w2 m2
    refine⟨h4,λσ3 H3=>∃ x gg,σ3=J.ss x/\W (J.oo x) H3/\XG (hid H' OO) (hid H3 (J.oo x))/\(J.sc gg x).p (hid H3 (J.oo x))/\PZ Er (Fd D) (hid H3 (J.oo x)) ((forN (as.drop (i+1)) gg body).bind f),λσ3 H3 q=>⟨as.length-(i+1),Nat.sub_lt_sub_left hlt (Nat.lt_succ_self i),rfl,hlt,q⟩,λy H3 hy=>?_⟩
    obtain⟨s3,r3⟩:=h5 y H3 hy
    have w3:=w2.keep s3
    have m3:=Xm (OO:=J.oo x) s3
    refine(T (J.oo x)).ok r3 ((J.sc gg x).mono _ _ m3 sc2) λv hv=>hb gg x as[i] v H3 _ w3 hv ?_
    rw[List.drop_eq_getElem_cons hlt] at P2
    have P3:PZ Er (Fd D) (hid H2 (J.oo x)) ((body gg as[i]).bind λg'=>(forN (as.drop (i+1)) g' body).bind f):=by rw[←YS];exact P2
    cases eb:body gg as[i] with
    |bad=>rw[eb] at P3;exact P3
    |err x=>rw[eb] at P3;exact λH4 s4=>P3 H4 (m3.trans s4)
    |ok g'=>
     rw[eb] at P3
     exact λx' H4 w4 m4 sc4=>⟨x',g',rfl,w4,m2.trans (m3.trans m4),sc4,PZ.tr (fd.tr D) (m3.trans m4) P3⟩
   ·left
    have e:i=as.length:=Nat.le_antisymm hi (Nat.not_lt.mp hlt)
    subst e
    refine⟨hstop (J.oo x) H2 w2 m2,hr gg x H2 D w2 sc2 ?_⟩
    rw[List.drop_length] at P2
    exact P2
theorem Qs {o:OE ρ}{wi:TI}{g:TG}{tb:TS}{r:Enc α}{κ:Type}{m:Rs (List α)}{body:γ->α->Rs (Ctl ρ γ)}{f:γ->Rs ρ}(J:Jn γ ι)(T:∀OO,Tgt K OO g r κ)(x0:ι)(g0:γ)(he:Walk K Er S OO σ wi r m)(h1:OO=J.oo x0)(h2:σ=J.ss x0)(h3:∀h,S.p h->(J.sc g0 x0).p h)
  (hb:∀g x a v,Sv Er ((T (J.oo x)).sc a v (J.sc g x)) (J.oo x) ((T (J.oo x)).set v (J.ss x)) tb (FCd K o J) (body g a))
  (hr:∀g x,Sv Er (J.sc g x) (J.oo x) (J.ss x) u (FTd K o) (f g)):Sv Er S OO σ (Jo (MB wi g tb) u) (FTd K o) (m.bind λas=>(forC as g0 body).bind (QY f)):=λH D w s P=>by
 refine he.ok w s ?_
 cases em:m with
 |bad=>rw[em] at P;exact P
 |err x=>rw[em] at P;exact λH' s'=>P H' (XN.trans s')
 |ok as=>
  rw[em] at P
  have P:PZ Er (FTd K o D) (hid H OO) ((forC as g0 body).bind (QY f)):=P
  intro It H' s' hgo hstop
  refine⟨λi mm σ' H2=>mm=as.length-i/\i<=as.length/\∃x gg,σ'=J.ss x/\W (J.oo x) H2/\XG (hid H' OO) (hid H2 (J.oo x))/\(J.sc gg x).p (hid H2 (J.oo x))/\PZ Er (FTd K o D) (hid H2 (J.oo x)) ((forC (as.drop i) gg body).bind (QY f)),⟨as.length,rfl,Nat.zero_le _,x0,g0,h2,?_,?_,?_,?_⟩,?_⟩
  ·rw[←h1];exact w.keep s'
  ·rw[←h1];exact XG.refl _
  ·rw[←h1];exact h3 _ (S.mono _ _ (Xm s') s)
  ·rw[←h1,List.drop_zero];exact PZ.tr (FdOk.tr D) (Xm s') P
  ·rintro i mm σ' H2 ⟨rfl,hi,x,gg,rfl,w2,m2,sc2,P2⟩
   by_cases hlt:i<as.length
   ·right
    have ha:as[i]?=some as[i]:=by simp[hlt]
    obtain⟨h4,h5⟩:=hgo i _ ha (J.oo x) H2 w2 m2
    refine⟨h4,λσ3 H3=>∃ x gg,σ3=J.ss x/\W (J.oo x) H3/\XG (hid H' OO) (hid H3 (J.oo x))/\(J.sc gg x).p (hid H3 (J.oo x))/\PZ Er (FTd K o D) (hid H3 (J.oo x)) ((forC (as.drop (i+1)) gg body).bind (QY f)),λσ3 H3 q=>⟨as.length-(i+1),Nat.sub_lt_sub_left hlt (Nat.lt_succ_self i),rfl,hlt,q⟩,λy H3 hy=>?_⟩
    obtain⟨s3,r3⟩:=h5 y H3 hy
    have w3:=w2.keep s3
    have m3:=Xm (OO:=J.oo x) s3
    refine(T (J.oo x)).ok r3 ((J.sc gg x).mono _ _ m3 sc2) λv hv=>hb gg x as[i] v H3 _ w3 hv ?_
    rw[List.drop_eq_getElem_cons hlt] at P2
    have P3:PZ Er (FTd K o D) (hid H2 (J.oo x)) ((body gg as[i]).bind λc=>(match c with
     | .ret r=>Rs.ok (Ctl.ret r)
     | .nx g'=>forC (as.drop (i+1)) g' body).bind (QY f)):=by rw[←YS];exact P2
    cases eb:body gg as[i] with
    |bad=>rw[eb] at P3;exact P3
    |err x=>rw[eb] at P3;exact λH4 s4=>P3 H4 (m3.trans s4)
    |ok c=>
     rw[eb] at P3
     cases c with
     |ret r=>exact FdOk.tr (Fd:=FTd K o) D r _ _ m3 P3
     |nx g'=>exact λx' H4 w4 m4 sc4=>⟨x',g',rfl,w4,m2.trans (m3.trans m4),sc4,PZ.tr (FdOk.tr D) (m3.trans m4) P3⟩
   ·left
    have e:i=as.length:=Nat.le_antisymm hi (Nat.not_lt.mp hlt)
    subst e
    refine⟨hstop (J.oo x) H2 w2 m2,hr gg x H2 D w2 sc2 ?_⟩
    rw[List.drop_length] at P2
    exact P2
theorem FX {κ2:Type}{o:OE ρ}{J2:Jn δ κ2}{wi:TI}{g:TG}{tb:TS}{r:Enc α}{κ:Type}{m:Rs (List α)}{body:γ->α->Rs (Ctl ρ γ)}{f:γ->Rs (Ctl ρ δ)}(J:Jn γ ι)(T:∀OO,Tgt K OO g r κ)(x0:ι)(g0:γ)(he:Walk K Er S OO σ wi r m)(h1:OO=J.oo x0)(h2:σ=J.ss x0)(h3:∀h,S.p h->(J.sc g0 x0).p h)
  (hb:∀g x a v,Sv Er ((T (J.oo x)).sc a v (J.sc g x)) (J.oo x) ((T (J.oo x)).set v (J.ss x)) tb (FCd K o J) (body g a))
  (hr:∀g x,Sv Er (J.sc g x) (J.oo x) (J.ss x) u (FCd K o J2) (f g)):Sv Er S OO σ (Jo (MB wi g tb) u) (FCd K o J2) (m.bind λas=>(forC as g0 body).bind (QI f)):=λH D w s P=>by
 refine he.ok w s ?_
 cases em:m with
 |bad=>rw[em] at P;exact P
 |err x=>rw[em] at P;exact λH' s'=>P H' (XN.trans s')
 |ok as=>
  rw[em] at P
  have P:PZ Er (FCd K o J2 D) (hid H OO) ((forC as g0 body).bind (QI f)):=P
  intro It H' s' hgo hstop
  refine⟨λi mm σ' H2=>mm=as.length-i/\i<=as.length/\∃x gg,σ'=J.ss x/\W (J.oo x) H2/\XG (hid H' OO) (hid H2 (J.oo x))/\(J.sc gg x).p (hid H2 (J.oo x))/\PZ Er (FCd K o J2 D) (hid H2 (J.oo x)) ((forC (as.drop i) gg body).bind (QI f)),⟨as.length,rfl,Nat.zero_le _,x0,g0,h2,?_,?_,?_,?_⟩,?_⟩
  ·rw[←h1];exact w.keep s'
  ·rw[←h1];exact XG.refl _
  ·rw[←h1];exact h3 _ (S.mono _ _ (Xm s') s)
  ·rw[←h1,List.drop_zero];exact PZ.tr (FdOk.tr D) (Xm s') P
  ·rintro i mm σ' H2 ⟨rfl,hi,x,gg,rfl,w2,m2,sc2,P2⟩
   by_cases hlt:i<as.length
   ·right
    have ha:as[i]?=some as[i]:=by simp[hlt]
    obtain⟨h4,h5⟩:=hgo i _ ha (J.oo x) H2 w2 m2
    refine⟨h4,λσ3 H3=>∃ x gg,σ3=J.ss x/\W (J.oo x) H3/\XG (hid H' OO) (hid H3 (J.oo x))/\(J.sc gg x).p (hid H3 (J.oo x))/\PZ Er (FCd K o J2 D) (hid H3 (J.oo x)) ((forC (as.drop (i+1)) gg body).bind (QI f)),λσ3 H3 q=>⟨as.length-(i+1),Nat.sub_lt_sub_left hlt (Nat.lt_succ_self i),rfl,hlt,q⟩,λy H3 hy=>?_⟩
    obtain⟨s3,r3⟩:=h5 y H3 hy
    have w3:=w2.keep s3
    have m3:=Xm (OO:=J.oo x) s3
    refine(T (J.oo x)).ok r3 ((J.sc gg x).mono _ _ m3 sc2) λv hv=>hb gg x as[i] v H3 _ w3 hv ?_
    rw[List.drop_eq_getElem_cons hlt] at P2
    have P3:PZ Er (FCd K o J2 D) (hid H2 (J.oo x)) ((body gg as[i]).bind λc=>(match c with
     | .ret r=>Rs.ok (Ctl.ret r)
     | .nx g'=>forC (as.drop (i+1)) g' body).bind (QI f)):=by rw[←YS];exact P2
    cases eb:body gg as[i] with
    |bad=>rw[eb] at P3;exact P3
    |err x=>rw[eb] at P3;exact λH4 s4=>P3 H4 (m3.trans s4)
    |ok c=>
     rw[eb] at P3
     cases c with
     |ret r=>exact FdOk.tr (Fd:=FTd K o) D r _ _ m3 P3
     |nx g'=>exact λx' H4 w4 m4 sc4=>⟨x',g',rfl,w4,m2.trans (m3.trans m4),sc4,PZ.tr (FdOk.tr D) (m3.trans m4) P3⟩
   ·left
    have e:i=as.length:=Nat.le_antisymm hi (Nat.not_lt.mp hlt)
    subst e
    refine⟨hstop (J.oo x) H2 w2 m2,hr gg x H2 D w2 sc2 ?_⟩
    rw[List.drop_length] at P2
    exact P2
noncomputable def Q1:Nat->γ->(γ->Rs Bool)->(γ->Rs γ)->Rs γ
 |0,_,_,_=>.bad
 |n+1,g,c,f=>(c g).bind λb=>if b=true then(f g).bind λg'=>Q1 n g' c f else .ok g
theorem Vm {c:TT}{tb:TS}{mc:γ->Rs Bool}{body:γ->Rs γ}{f:γ->Rs β}(J:Jn γ ι)(n:Nat)(x0:ι)(g0:γ)(h1:OO=J.oo x0)(h2:σ=J.ss x0)(h3:∀h,S.p h->(J.sc g0 x0).p h)
  (hc:∀g x,EvT Er (J.sc g x) (J.oo x) (J.ss x) c (mc g))(hb:∀g x,Sv Er (J.sc g x) (J.oo x) (J.ss x) tb (FNd J) (body g))
  (hr:∀g x,Sv Er (J.sc g x) (J.oo x) (J.ss x) u Fd (f g)):Sv Er S OO σ (Jo (Hj c tb) u) Fd ((Q1 n g0 mc body).bind f):=λH D w s P=>by
 refine⟨λmm σ' H2=>∃ x gg,σ'=J.ss x/\W (J.oo x) H2/\(J.sc gg x).p (hid H2 (J.oo x))/\PZ Er (Fd D) (hid H2 (J.oo x)) ((Q1 mm gg mc body).bind f),⟨n,x0,g0,h2,by rw[←h1];exact w,by rw[←h1];exact h3 _ s,by rw[←h1];exact P⟩,?_⟩
 rintro mm σ' H2 ⟨x,gg,rfl,w2,sc2,P2⟩
 cases mm with
 |zero=>exact P2.elim
 |succ mm=>
  have P3:PZ Er (Fd D) (hid H2 (J.oo x)) ((mc gg).bind λb=>(if b=true then(body gg).bind λg'=>Q1 mm g' mc body else .ok gg).bind f):=by rw[←YS];exact P2
  refine(hc gg x).st w2 sc2 P3 λb H3 w3 sc3 P4=>?_
  cases b with
  |false=>exact hr gg x H3 D w3 sc3 P4
  |true=>
   rw[if_pos rfl] at P4⊢
   refine⟨λσ3 H4=>∃ x gg,σ3=J.ss x/\W (J.oo x) H4/\(J.sc gg x).p (hid H4 (J.oo x))/\PZ Er (Fd D) (hid H4 (J.oo x)) ((Q1 mm gg mc body).bind f),λσ3 H4 q=>⟨mm,Nat.lt_succ_self _,q⟩,hb gg x H3 _ w3 sc3 ?_⟩
   rw[YS] at P4
   cases eb:body gg with
   |bad=>rw[eb] at P4;exact P4
   |err x=>rw[eb] at P4;exact P4
   |ok g'=>
    rw[eb] at P4
    exact λx' H5 w5 m5 sc5=>⟨x',g',rfl,w5,sc5,PZ.tr (fd.tr D) m5 P4⟩
noncomputable def DP (as:List α)(f:α->Rs β):Rs (List β):=match as with
 | []=>.ok []
 |a::as=>(f a).bind λb=>(DP as f).bind λbs=>.ok (b::bs)
noncomputable def Vl (as:List α)(f:α->Rs β):Rs (List β):=chk (as.length<=sizeLine) (DP as f)
noncomputable def FE (as:List α)(c:α->Rs Bool)(f:α->Rs β):Rs (List β):=match as with
 | []=>.ok []
 |a::as=>(c a).bind λb=>if b=true then(f a).bind λb=>(FE as c f).bind λbs=>.ok (b::bs) else FE as c f
noncomputable def Lv (as:List α)(c:α->Rs Bool)(f:α->Rs β):Rs (List β):=chk (as.length<=sizeLine) (FE as c f)
theorem PZ.chk {F:β->Hp->Prop}{H:Hp}{c:Prop}[Decidable c]{m:Rs β}(P:PZ Er F H (chk c m)):c/\PZ Er F H m:=by
 unfold L2.chk at P;split at P
 ·exact⟨by assumption,P⟩
 ·exact P.elim
theorem Li {o:OE α}[z:MonoO o]{xs:List V}{as:List α}{Cs:List (List XF)}{H H0:Hp}{Q:VK}(w:W (Cs.flatten::OO) H)(m0:XG (hid H0 OO) (hid H (Cs.flatten::OO)))(s0:XG H0 H)(pr:P3 (o K (hid H (Cs.flatten::OO))) xs as Cs)(P:FO K OO OO (oL o) Q as H0):∀p,H p=none->Q (.ref p) (upd H p (.lst xs)):=λp hp=>by
 have hn:=Ug (OO:=Cs.flatten::OO) hp (o:=.lst xs)
 have wn:=w.new hp (o:=.lst xs) rfl
 have pe:(((p,HO.lst xs)::Cs.flatten)::OO).flatten.Perm ([(p,HO.lst xs)]::Cs.flatten::OO).flatten:=by simp
 refine P (.ref p) ((p, .lst xs)::Cs.flatten) _ (s0.trans (XY hp _)) (wn.of pe) ?_ ?_
 ·rw[Yc pe];exact m0.trans hn
 ·rw[Yc pe]
  exact⟨p,xs,Cs,rfl,pr.imp λ_ _ _ h=>z.mono hn h,rfl⟩
theorem Y3 {o:OE β}[z:MonoO o]{wi:TI}{g:TG}{te:TE}{r:Enc α}{κ:Type}{m:Rs (List α)}{f:α->Rs β}{n:Nat}{caps:List (Nat×Str)}(T:∀OO,Tgt K OO g r κ)(he:Walk K Er S OO σ wi r m)
  (hb:∀C a v,Ev K Er ((T (C::OO)).sc a v S) (C::OO) (C::OO) ((T (C::OO)).set v (Jz n caps σ)) te o (f a)):Ev K Er S OO OO σ (CO n caps wi g Kb te) (oL o) (m.bind λas=>Vl as f):=λH Q w s P=>by
 refine he.ok w s ?_
 cases em:m with
 |bad=>rw[em] at P;exact P
 |err x=>rw[em] at P;exact P
 |ok as=>
  rw[em] at P
  obtain⟨hsz,P⟩:=PZ.chk (show PZ Er _ H (chk (as.length<=sizeLine) (DP as f)) from P)
  intro It H' s' hgo hstop
  -- what is left: the Qk of the items, then all
  refine⟨λi mm ys H2=>mm=as.length-i/\i<=as.length/\∃bs Cs,XG H H2/\W (Cs.flatten::OO) H2/\XG (hid H' OO) (hid H2 (Cs.flatten::OO))/\P3 (o K (hid H2 (Cs.flatten::OO))) ys bs Cs/\bs.length=i/\PZ Er (FO K OO OO (oL o) Q) H ((DP (as.drop i) f).bind λQk=>.ok (bs++Qk)),
   ⟨as.length,rfl,Nat.zero_le _,[],[],s',(w.keep s').nil,by show XG _ (hid H' ([]::OO));rw[Zo];exact XG.refl _, .nil,rfl,?_⟩,?_⟩
  ·rw[List.drop_zero]
   revert P
   cases DP as f<;> exact λz=>z
  ·rintro i mm ys H2 ⟨rfl,hi,bs,Cs,s2,w2,m2,pr,hlen,P2⟩
   refine⟨by rw[pr.len.1,hlen];omega,?_⟩
   by_cases hlt:i<as.length
   ·right
    have ha:as[i]?=some as[i]:=by simp[hlt]
    obtain⟨h4,h5⟩:=hgo i _ ha (Cs.flatten::OO) H2 w2 m2
    refine⟨h4,λys' H3=>∃ bs Cs,XG H H3/\W (Cs.flatten::OO) H3/\XG (hid H' OO) (hid H3 (Cs.flatten::OO))/\P3 (o K (hid H3 (Cs.flatten::OO))) ys' bs Cs/\bs.length=i+1/\PZ Er (FO K OO OO (oL o) Q) H ((DP (as.drop (i+1)) f).bind λQk=>.ok (bs++Qk)),λys' H3 q=>⟨as.length-(i+1),Nat.sub_lt_sub_left hlt (Nat.lt_succ_self i),rfl,hlt,q⟩,λy H3 hy=>?_⟩
    obtain⟨s3,r3⟩:=h5 y H3 hy
    have w3:=w2.keep s3
    have m3:=Xm (OO:=Cs.flatten::OO) s3
    have sS:S.p (hid H3 (Cs.flatten::OO)):=S.mono _ _ ((Xm s').trans (m2.trans m3)) s
    refine(T (Cs.flatten::OO)).ok r3 sS λv hv=>?_
    show Kb _ _ _
    refine LW ?_
    rw[List.drop_eq_getElem_cons hlt] at P2
    have P3':PZ Er (FO K OO OO (oL o) Q) H ((f as[i]).bind λb=>(DP (as.drop (i+1)) f).bind λQk=>.ok (bs++b::Qk)):=by
     have:((f as[i]).bind λb=>(DP (as.drop (i+1)) f).bind λQk=>Rs.ok (bs++b::Qk))=(DP (as[i]::as.drop (i+1)) f).bind λQk=>.ok (bs++Qk):=by
      show _=((f as[i]).bind λb=>(DP (as.drop (i+1)) f).bind λbs=>Rs.ok (b::bs)).bind _
      rw[YS];congr 1;funext b;rw[YS];rfl
     rw[this];exact P2
    refine hb Cs.flatten as[i] v H3 _ w3 hv ?_
    cases eb:f as[i] with
    |bad=>rw[eb] at P3';exact P3'
    |err x=>rw[eb] at P3';exact λH4 s4=>P3' H4 (s2.trans (s3.trans s4))
    |ok b=>
     rw[eb] at P3'
     intro v' C' H4 s4 w4 m4 ho
     have pe:((Cs++[C']).flatten::OO).flatten.Perm (C'::Cs.flatten::OO).flatten:=by
      simp only[Qh,List.flatten_cons]
      rw[List.append_assoc, ←List.append_assoc, ←List.append_assoc]
      exact List.perm_append_comm.append_right _
     refine⟨bs++[b],Cs++[C'],s2.trans (s3.trans s4),w4.of pe,?_,?_,by simp[hlen],?_⟩
     ·rw[Yc pe];exact m2.trans (m3.trans m4)
     ·rw[Yc pe];exact P3.snoc (pr.imp λ_ _ _ h=>z.mono (m3.trans m4) h) ho
     ·have P4:PZ Er (FO K OO OO (oL o) Q) H ((DP (as.drop (i+1)) f).bind λQk=> .ok (bs++b::Qk)):=P3'
      simpa using P4
   ·left
    have e:i=as.length:=Nat.le_antisymm hi (Nat.not_lt.mp hlt)
    subst e
    refine⟨hstop (Cs.flatten::OO) H2 w2 m2,?_⟩
    rw[List.drop_length] at P2
    have P3':FO K OO OO (oL o) Q (bs++[]) H:=P2
    rw[List.append_nil] at P3'
    exact Li (H0:=H) w2 ((Xm s').trans m2) s2 pr P3'
theorem Ke {o:OE β}[z:MonoO o]{wi:TI}{g:TG}{tt:TT}{te:TE}{r:Enc α}{κ:Type}{m:Rs (List α)}{c:α->Rs Bool}{f:α->Rs β}{n:Nat}{caps:List (Nat×Str)}(T:∀OO,Tgt K OO g r κ)(he:Walk K Er S OO σ wi r m)
  (hc:∀C a v,EvT Er ((T (C::OO)).sc a v S) (C::OO) ((T (C::OO)).set v (Jz n caps σ)) tt (c a))
  (hb:∀C a v,Ev K Er ((T (C::OO)).sc a v S) (C::OO) (C::OO) ((T (C::OO)).set v (Jz n caps σ)) te o (f a)):Ev K Er S OO OO σ (CO n caps wi g tt te) (oL o) (m.bind λas=>Lv as c f):=λH Q w s P=>by
 refine he.ok w s ?_
 cases em:m with
 |bad=>rw[em] at P;exact P
 |err x=>rw[em] at P;exact P
 |ok as=>
  rw[em] at P
  obtain⟨hsz,P⟩:=PZ.chk (show PZ Er _ H (chk (as.length<=sizeLine) (FE as c f)) from P)
  intro It H' s' hgo hstop
  refine⟨λi mm ys H2=>mm=as.length-i/\i<=as.length/\∃bs Cs,XG H H2/\W (Cs.flatten::OO) H2/\XG (hid H' OO) (hid H2 (Cs.flatten::OO))/\P3 (o K (hid H2 (Cs.flatten::OO))) ys bs Cs/\bs.length<=i/\PZ Er (FO K OO OO (oL o) Q) H ((FE (as.drop i) c f).bind λQk=>.ok (bs++Qk)),
   ⟨as.length,rfl,Nat.zero_le _,[],[],s',(w.keep s').nil,by show XG _ (hid H' ([]::OO));rw[Zo];exact XG.refl _, .nil,Nat.zero_le _,?_⟩,?_⟩
  ·rw[List.drop_zero]
   revert P
   cases FE as c f<;> exact λz=>z
  ·rintro i mm ys H2 ⟨rfl,hi,bs,Cs,s2,w2,m2,pr,hlen,P2⟩
   refine⟨by rw[pr.len.1];omega,?_⟩
   by_cases hlt:i<as.length
   ·right
    have ha:as[i]?=some as[i]:=by simp[hlt]
    obtain⟨h4,h5⟩:=hgo i _ ha (Cs.flatten::OO) H2 w2 m2
    refine⟨h4,λys' H3=>∃ bs Cs,XG H H3/\W (Cs.flatten::OO) H3/\XG (hid H' OO) (hid H3 (Cs.flatten::OO))/\P3 (o K (hid H3 (Cs.flatten::OO))) ys' bs Cs/\bs.length<=i+1/\PZ Er (FO K OO OO (oL o) Q) H ((FE (as.drop (i+1)) c f).bind λQk=>.ok (bs++Qk)),λys' H3 q=>⟨as.length-(i+1),Nat.sub_lt_sub_left hlt (Nat.lt_succ_self i),rfl,hlt,q⟩,λy H3 hy=>?_⟩
    obtain⟨s3,r3⟩:=h5 y H3 hy
    have w3:=w2.keep s3
    have m3:=Xm (OO:=Cs.flatten::OO) s3
    have sS:S.p (hid H3 (Cs.flatten::OO)):=S.mono _ _ ((Xm s').trans (m2.trans m3)) s
    refine(T (Cs.flatten::OO)).ok r3 sS λv hv=>?_
    rw[List.drop_eq_getElem_cons hlt] at P2
    have P3':PZ Er (FO K OO OO (oL o) Q) H ((c as[i]).bind λb=>(if b=true then(f as[i]).bind λb=>(FE (as.drop (i+1)) c f).bind λbs=>.ok (b::bs) else FE (as.drop (i+1)) c f).bind λQk=>.ok (bs++Qk)):=by
     rw[←YS];exact P2
    refine hc Cs.flatten as[i] v H3 _ w3 hv ?_
    cases ec:c as[i] with
    |bad=>rw[ec] at P3';exact P3'
    |err x=>rw[ec] at P3';exact λH4 s4=>P3' H4 (s2.trans (s3.trans s4))
    |ok b=>
     rw[ec] at P3'
     intro H4 s4
     have w4:=w3.keep s4
     have m4:=Xm (OO:=Cs.flatten::OO) s4
     cases b with
     |false=>exact⟨bs,Cs,s2.trans (s3.trans s4),w4,m2.trans (m3.trans m4),pr.imp λ_ _ _ h=>z.mono (m3.trans m4) h,Nat.le_succ_of_le hlen,P3'⟩
     |true=>
      rw[if_pos rfl]
      have P4:PZ Er (FO K OO OO (oL o) Q) H ((f as[i]).bind λb=>(FE (as.drop (i+1)) c f).bind λQk=>.ok (bs++b::Qk)):=by
       have:((f as[i]).bind λb=>(FE (as.drop (i+1)) c f).bind λQk=>Rs.ok (bs++b::Qk))=((f as[i]).bind λb=>(FE (as.drop (i+1)) c f).bind λbs=>Rs.ok (b::bs)).bind λQk=>.ok (bs++Qk):=by
        rw[YS];congr 1;funext b;rw[YS];rfl
       rw[this];exact P3'
      refine hb Cs.flatten as[i] v H4 _ w4 (((T (Cs.flatten::OO)).sc as[i] v S).mono _ _ m4 hv) ?_
      cases eb:f as[i] with
      |bad=>rw[eb] at P4;exact P4
      |err x=>rw[eb] at P4;exact λH5 s5=>P4 H5 (s2.trans (s3.trans (s4.trans s5)))
      |ok b=>
       rw[eb] at P4
       intro v' C' H5 s5 w5 m5 ho
       have pe:((Cs++[C']).flatten::OO).flatten.Perm (C'::Cs.flatten::OO).flatten:=by
        simp only[Qh,List.flatten_cons]
        rw[List.append_assoc, ←List.append_assoc, ←List.append_assoc]
        exact List.perm_append_comm.append_right _
       refine⟨bs++[b],Cs++[C'],s2.trans (s3.trans (s4.trans s5)),w5.of pe,?_,?_,by simpa using hlen,?_⟩
       ·rw[Yc pe];exact m2.trans (m3.trans (m4.trans m5))
       ·rw[Yc pe];exact P3.snoc (pr.imp λ_ _ _ h=>z.mono (m3.trans (m4.trans m5)) h) ho
       ·have P5:PZ Er (FO K OO OO (oL o) Q) H ((FE (as.drop (i+1)) c f).bind λQk=> .ok (bs++b::Qk)):=P4
        simpa using P5
   ·left
    have e:i=as.length:=Nat.le_antisymm hi (Nat.not_lt.mp hlt)
    subst e
    refine⟨hstop (Cs.flatten::OO) H2 w2 m2,?_⟩
    rw[List.drop_length] at P2
    have P3':FO K OO OO (oL o) Q (bs++[]) H:=P2
    rw[List.append_nil] at P3'
    exact Li (H0:=H) w2 ((Xm s').trans m2) s2 pr P3'
noncomputable def JY (as:List α)(i:Int)(a:α):Rs (List α):=match ixN as.length i with
 |some j=>.ok (as.set j a)
 |none=>.bad
end
section
variable {K:PySem.W.Frag}{Er:Exc->Hp->Prop}{S:SC}{OO OO' OO2:List (List XF)}{σ:St}{α β γ ρ ι δ ε:Type}
variable {Fd:Ends->β->Hp->Prop}[fd:FdOk Fd]{u:TS}
theorem E4 {C D C':List XF}{H:Hp}{k:Nat}{p:Addr}{o:HO}(w:W (D::OO) H)(hk:OO[k]?=some C)(hp:p∈C.map (·.1))(hp':p∈C'.map (·.1))(hnd:(C'.map (·.1)).Nodup)(hin:∀b∈C'.map (·.1),b∈(C++D).map (·.1))(ht:∀c∈C',upd H p o c.1=some c.2)(hm:∀c∈C',Lu c.2=true):
  W (OO.set k C') (upd H p o)/\XG (hid H (D::OO)) (hid (upd H p o) (OO.set k C')):=by
 have hlt:k<OO.length:=by
  rcases Nat.lt_or_ge k OO.length with h |h
  ·exact h
  ·rw[List.getElem?_eq_none h] at hk;cases hk
 have h1:=Yi hk
 have h2:=Yi (OO:=OO.set k C') (k:=k) (C:=C') (by simp[hlt])
 rw[Kr] at h2
 have h3:(OO.set k C').flatten.Perm (C'++(OO.set k []).flatten):=by simpa using h2.symm
 have h4:(D::OO).flatten.Perm ((C++D)++(OO.set k []).flatten):=by
  rw[List.flatten_cons]
  refine((by simpa using h1.symm:OO.flatten.Perm (C++(OO.set k []).flatten)).append_left D).trans ?_
  rw[←List.append_assoc]
  exact List.perm_append_comm.append_right _
 have nd2:(((C++D)++(OO.set k []).flatten).map (·.1)).Nodup:=(h4.map _).nodup_iff.mp w.nd
 rw[List.map_append] at nd2
 obtain⟨n1,n2,n3⟩:=List.nodup_append.mp nd2
 refine⟨⟨λc hc=>?_,?_,λc hc=>?_⟩,λb v q=>?_⟩
 ·rcases List.mem_append.mp (h3.mem_iff.mp hc) with hc |hc
  ·exact ht c hc
  ·have hne:c.1≠p:=λe=>n3 p (hin p hp') c.1 (List.mem_map.mpr ⟨c,hc,rfl⟩) e.symm
   rw[X3 hne]
   exact w.tr c (h4.mem_iff.mpr (by simp[hc]))
 ·refine((h3.map _).nodup_iff).mpr ?_
  rw[List.map_append]
  exact List.nodup_append.mpr ⟨hnd,n2,λa ha b hb=>n3 a (hin a ha) b hb⟩
 ·rcases List.mem_append.mp (h3.mem_iff.mp hc) with hc |hc
  ·exact hm c hc
  ·exact w.mu c (h4.mem_iff.mpr (by simp[hc]))
 ·obtain⟨q1,q2⟩:=Yx q
  have hbp:b≠p:=λe=>q2 (by
   rw[e]
   obtain⟨c,hc,rfl⟩:=List.mem_map.mp hp
   exact UG (h4.mem_iff.mpr (by simp[hc])))
  refine Qd (by rw[X3 hbp];exact q1) λz=>q2 ?_
  obtain⟨o',ho'⟩:=Dh z
  rcases List.mem_append.mp (h3.mem_iff.mp ho') with hc |hc
  ·obtain⟨c,hc2,e⟩:=List.mem_map.mp (hin b (List.mem_map.mpr ⟨_,hc,rfl⟩))
   rw[←e]
   exact UG (h4.mem_iff.mpr (List.mem_append_left _ hc2))
  ·exact UG (c:=(b,o')) (h4.mem_iff.mpr (by simp[hc]))
theorem MH {D:List XF}{Cs Cs':List (List XF)}{H:Hp}{k:Nat}{p:Addr}{xs xs':List V}(w:W (D::OO) H)(hk:OO[k]?=some ((p, .lst xs)::Cs.flatten))(hin:∀c∈Cs'.flatten,c∈Cs.flatten++D)(hnd:(Cs'.flatten.map (·.1)).Nodup):
  W (OO.set k ((p, .lst xs')::Cs'.flatten)) (upd H p (.lst xs'))/\XG (hid H (D::OO)) (hid (upd H p (.lst xs')) (OO.set k ((p, .lst xs')::Cs'.flatten))):=by
 have h1:=Yi hk
 have w3:W [((p,HO.lst xs)::(Cs.flatten++D))++(OO.set k []).flatten] H:=w.of (by
  simp only[List.flatten_cons,List.flatten_nil,List.append_nil]
  refine List.Perm.trans ?_ ((by simpa using h1:(((p,HO.lst xs)::Cs.flatten)++(OO.set k []).flatten).Perm OO.flatten).append_left D)
  rw[←List.append_assoc]
  refine List.Perm.append_right _ ?_
  exact(List.perm_append_comm (l₁:=(p,HO.lst xs)::Cs.flatten) (l₂:=D)))
 have nd:=w3.nd
 simp only[fl,List.flatten_cons,List.flatten_nil,List.append_nil,List.map_append,List.cons_append,List.map_cons] at nd
 have hne:∀c∈Cs'.flatten,c.1≠p:=λc hc e=>by
  refine(List.nodup_cons.mp nd).1 ?_
  rw[←e]
  refine List.mem_append_left _ ?_
  rw[←List.map_append]
  exact List.mem_map.mpr ⟨c,hin c hc,rfl⟩
 refine E4 w hk List.mem_cons_self List.mem_cons_self ?_ ?_ ?_ ?_
 ·rw[List.map_cons,List.nodup_cons]
  refine⟨λz=>?_,hnd⟩
  obtain⟨c,hc,e⟩:=List.mem_map.mp z
  exact hne c hc e
 ·intro b hb
  rcases List.mem_cons.mp hb with rfl |hb
  ·exact List.mem_cons_self
  ·obtain⟨c,hc,rfl⟩:=List.mem_map.mp hb
   rw[List.cons_append,List.map_cons]
   exact List.mem_cons_of_mem _ (List.mem_map.mpr ⟨c,hin c hc,rfl⟩)
 ·intro c hc
  rcases List.mem_cons.mp hc with rfl |hc
  ·exact YV
  ·rw[X3 (hne c hc)]
   exact w3.tr c (by
    rw[List.flatten_cons,List.flatten_nil,List.append_nil]
    exact List.mem_append_left _ (List.mem_cons_of_mem _ (hin c hc)))
 ·intro c hc
  rcases List.mem_cons.mp hc with rfl |hc
  ·rfl
  ·exact w3.mu c (by
    rw[List.flatten_cons,List.flatten_nil,List.append_nil]
    exact List.mem_append_left _ (List.mem_cons_of_mem _ (hin c hc)))
theorem GD {o:OE α}{h:Hp}{p:Addr}{xs:List V}{as:List α}{R:List XF}(q:oL o K h (.ref p) as ((p, .lst xs)::R)):∃Cs,P3 (o K h) xs as Cs/\R=Cs.flatten:=by
 obtain⟨p',xs',Cs,e,q,c⟩:=q
 injection c with c1 c2
 injection c1 with c3 c4
 injection c4 with c5
 subst c5
 exact⟨Cs,q,c2⟩
theorem Cy {as:List α}{i:Int}{a:α}{bs:List α}(h:JY as i a= .ok bs):∃j,ixN as.length i=some j/\bs=as.set j a:=by
 unfold JY at h;split at h
 ·cases h;exact⟨_,by assumption,rfl⟩
 ·cases h
theorem CV {as:List α}{i:Int}{a:α}{x:Exc}:JY as i a≠ .err x:=by unfold JY;split<;> exact λz=>nomatch z
theorem JO {l r m:List XF}(h:(l++r).Perm m)(n:(m.map (·.1)).Nodup):(l.map (·.1)).Nodup:=by
 have:((l++r).map (·.1)).Nodup:=(h.map _).nodup_iff.mpr n
 rw[List.map_append] at this
 exact(List.nodup_append.mp this).1
theorem FR {Cs:List (List XF)}{j:Nat}{D:List XF}(hj:j<Cs.length):((Cs.set j D).flatten++Cs[j]).Perm (Cs.flatten++D):=by
 have h1:=Yi (OO:=Cs) (k:=j) (C:=Cs[j]) (by simp[hj])
 have h2:=Yi (OO:=Cs.set j D) (k:=j) (C:=D) (by simp[hj])
 rw[Kr] at h2
 have h3:(Cs.set j D).flatten.Perm (D++(Cs.set j []).flatten):=by simpa using h2.symm
 have h4:Cs.flatten.Perm (Cs[j]++(Cs.set j []).flatten):=by simpa using h1.symm
 refine(h3.append_right _).trans (List.Perm.trans ?_ (h4.append_right _).symm)
 refine List.perm_append_comm.trans ((List.perm_append_comm.append_left _).trans ?_)
 rw[List.append_assoc]
theorem Jd {D:List XF}{Cs:List (List XF)}{H:Hp}{k:Nat}{p:Addr}{xs:List V}(w:W (D::OO) H)(hk:OO[k]?=some ((p, .lst xs)::Cs.flatten)):((Cs.flatten++D).map (·.1)).Nodup:=by
 have h1:=Yi hk
 have w3:W [((p,HO.lst xs)::(Cs.flatten++D))++(OO.set k []).flatten] H:=w.of (by
  simp only[List.flatten_cons,List.flatten_nil,List.append_nil]
  refine List.Perm.trans ?_ ((by simpa using h1:(((p,HO.lst xs)::Cs.flatten)++(OO.set k []).flatten).Perm OO.flatten).append_left D)
  rw[←List.append_assoc]
  refine List.Perm.append_right _ ?_
  exact(List.perm_append_comm (l₁:=(p,HO.lst xs)::Cs.flatten) (l₂:=D)))
 have nd:=w3.nd
 simp only[fl,List.flatten_cons,List.flatten_nil,List.append_nil,List.cons_append,List.map_cons] at nd
 have n2:=(List.nodup_cons.mp nd).2
 rw[List.map_append] at n2
 exact(List.nodup_append.mp n2).1
theorem Kc {ta ti:TE}{o:OE α}[MonoO o]{m:Rs α}{mi:Rs Int}{f:List α->Rs β}{v:V}{as:List α}{C:List XF}(i k:Nat)(hσ:σ[i]?=some (some v))(hk':OO'[k]?=some C)(h:∀x,S.p x->oL o K x v as C)(he:Ev K Er S OO OO' σ ta o m)
  (hi:∀D,EvB K Er S (D::OO') σ ti Xa mi)
  (hr:∀bs C',Sv Er (S.addO K (oL o) v bs C') (OO'.set k C') σ u Fd (f bs)):Sv Er S OO σ (Jo (Ea ta (M7 (Ks i) ti IT)) u) Fd (m.bind λa=>mi.bind λj=>(JY as j a).bind f):=λH D w s P=>
 he.st w s P λa y D' H' w' s' ho P'=>⟨v,hσ,(hi D').st w' s' P' λj z H2 s2 w2 q2 r2 P2=>by
  obtain⟨p,xs,Cs,e,q,c⟩:=h _ q2
  subst c
  have hH:H2 p=some (.lst xs):=w2.tr (p, .lst xs) (by rw[List.flatten_cons];exact List.mem_append_right _ (List.mem_flatten.mpr ⟨_,List.mem_of_getElem? hk',List.mem_cons_self⟩))
  cases es:JY as j a with
  |bad=>rw[es] at P2;exact P2.elim
  |err x=>exact absurd es CV
  |ok bs=>
   rw[es] at P2
   obtain⟨jj,h1,rfl⟩:=Cy es
   have hjl:jj<as.length:=by
    unfold ixN at h1
    split at h1
    ·split at h1
     ·cases h1;omega
     ·cases h1
    ·split at h1
     ·cases h1;omega
     ·cases h1
   have hjC:jj<Cs.length:=by rw[q.len.2];exact hjl
   have hp:=FR (Cs:=Cs) (j:=jj) (D:=D') hjC
   obtain⟨w3,m3⟩:=MH (xs':=xs.set jj y) (Cs':=Cs.set jj D') w2 hk' (λc hc=>hp.mem_iff.mp (List.mem_append_left _ hc)) (JO hp (Jd w2 hk'))
   refine⟨p,xs,j,jj,e,r2,hH,by rw[q.len.1];exact h1,hr _ _ _ D w3 ⟨S.mono _ _ m3 q2,⟨p,_,_,e,P3.imp (λ_ _ _ z=>MonoO.mono m3 z) (P3.set (MonoO.mono (Xm s2) ho) jj q),rfl⟩⟩ (PZ.tr (fd.tr D) m3 P2)⟩⟩
theorem L6 {ta:TE}{o:OE α}[MonoO o]{m:Rs (List α)}{f:List α->Rs β}{v:V}{as:List α}{C:List XF}(i k:Nat)(hσ:σ[i]?=some (some v))(hk:OO[k]?=some C)(hk':OO'[k]?=some C)(h:∀x,S.p x->oL o K x v as C)(he:Ev K Er S OO OO' σ ta (oL o) m)
  (hr:∀bs C',Sv Er (S.addO K (oL o) v (as++bs) C') (OO'.set k C') σ u Fd (f (as++bs))):Sv Er S OO σ (Jo (Dz (tBM K "list" BK (Ks i) (XM ta Qa))) u) Fd (m.bind λbs=>chk (as.length+bs.length<=sizeLine) (f (as++bs))):=λH D w s P=>by
 obtain⟨p,xs,Cs,e,q,c⟩:=h _ s
 subst c
 have hH:H p=some (.lst xs):=w.tr (p, .lst xs) (List.mem_flatten.mpr ⟨_,List.mem_of_getElem? hk,List.mem_cons_self⟩)
 refine⟨v,hσ,by rw[e];exact .inl ⟨rfl,_,SqL.of hH⟩,he.st w s P λbs y D' H' w' s' ho P'=>?_⟩
 obtain⟨hsz,P'⟩:=PZ.chk P'
 subst e
 obtain⟨Cs2,q2,c2⟩:=GD (h _ s')
 obtain⟨p',zs,Ds,e3,q3,c3⟩:=ho
 subst c3
 have hH':H' p=some (.lst xs):=w'.tr (p, .lst xs) (by rw[List.flatten_cons];exact List.mem_append_right _ (List.mem_flatten.mpr ⟨_,List.mem_of_getElem? hk',List.mem_cons_self⟩))
 have hH2:H' p'=some (.lst zs):=w'.tr (p', .lst zs) (by rw[List.flatten_cons];exact List.mem_append_left _ List.mem_cons_self)
 have cn:=Jd w' hk'
 obtain⟨w3,m3⟩:=MH (xs':=xs++zs) (Cs':=Cs2++Ds) w' hk' (λc hc=>by
   rw[List.flatten_append,List.mem_append] at hc
   rcases hc with hc |hc
   ·rw[c2];exact List.mem_append_left _ hc
   ·exact List.mem_append_right _ (List.mem_cons_of_mem _ hc)) (by
   rw[List.flatten_append, ←c2]
   refine List.Nodup.sublist (List.Sublist.map _ ?_) cn
   exact List.Sublist.append (List.Sublist.refl _) (List.sublist_cons_self _ _))
 refine⟨p,p',xs,zs,rfl,by rw[e3],hH',hH2,by rw[q2.len.1,q3.len.1];exact hsz,?_⟩
 exact hr bs _ _ D w3 ⟨S.mono _ _ m3 s',⟨p,_,_,rfl,P3.imp (λ_ _ _ z=>MonoO.mono m3 z) (q2.app q3),rfl⟩⟩ (PZ.tr (fd.tr D) m3 P')
noncomputable def DM (as:List α)(i:Int):Rs (α×List α):=chk (-(2^63)<=i/\i<2^63) (match seqIndex? i as.length with
 |none=>.bad
 |some k=>match as[k]? with
  |none=>.bad
  |some a=>.ok (a,as.eraseIdx k))
theorem Lf {as:List α}{i:Int}{p:α×List α}(h:DM as i= .ok p):(-(2^63)<=i/\i<2^63)/\∃k,seqIndex? i as.length=some k/\as[k]?=some p.1/\p.2=as.eraseIdx k:=by
 obtain⟨h1,h2⟩:=ZQ h
 refine⟨h1,?_⟩
 split at h2
 ·cases h2
 ·split at h2
  ·cases h2
  ·cases h2;exact⟨_,by assumption,by assumption,rfl⟩
theorem IN {as:List α}{i:Int}{x:Exc}:DM as i≠ .err x:=by
 unfold DM chk;split
 ·split
  ·exact λz=>nomatch z
  ·split<;> exact λz=>nomatch z
 ·exact λz=>nomatch z
theorem Paired.erase' {F:α->γ->Prop}:∀{l:List α}{m:List γ} (n:Nat),Paired F l m->Paired F (l.eraseIdx n) (m.eraseIdx n)
 |_,_,_, .nil=>.nil
 |_,_,0, .cons _ t=>t
 |_,_,n+1, .cons r t=>.cons r (Paired.erase' n t)
theorem BN {te ti:TE}{r:Enc α}[MonoE r]{mi:Rs Int}{f:α×List α->Rs β}{v:V}{as:List α}{C:List XF}{D:Ends}{H:Hp}{Q:VK}(i k:Nat)(hσ:σ[i]?=some (some v))(hk:OO[k]?=some C)(h:∀x,S.p x->oL (oF r) K x v as C)(hi:EvB K Er S OO σ ti Xa mi)
  (w:W OO H)(s:S.p (hid H OO))(P:PZ Er (Fd D) (hid H OO) (mi.bind λj=>(DM as j).bind f))
  (hr:∀a bs y C' H',W (OO.set k C') H'->((S.add K r y a).addO K (oL (oF r)) v bs C').p (hid H' (OO.set k C'))->PZ Er (Fd D) (hid H' (OO.set k C')) (f (a,bs))->Q y H'):tBM K "list" FI (Ks i) (XM ti Qa) σ H Q:=by
 obtain⟨p,xs,Cs,e,q,c⟩:=h _ s
 subst c
 have hH:H p=some (.lst xs):=w.tr (p, .lst xs) (List.mem_flatten.mpr ⟨_,List.mem_of_getElem? hk,List.mem_cons_self⟩)
 refine⟨v,hσ,by rw[e];exact .inl ⟨rfl,_,SqL.of hH⟩,hi.st w s P λj z H' s1 w' s' ho P'=>?_⟩
 subst e
 obtain⟨Cs2,q2,c2⟩:=GD (h _ s')
 obtain⟨pr,hfl⟩:=P3.flat q2
 cases es:DM as j with
 |bad=>rw[es] at P';exact P'.elim
 |err x=>exact absurd es IN
 |ok pp=>
  rw[es] at P'
  obtain⟨a,bs⟩:=pp
  obtain⟨h1,kk,h2,h3,h4⟩:=Lf es
  obtain⟨y,hy,ry⟩:=Paired.getR pr h3
  have w0:W ([]::OO) H':=w'.nil
  have hk0:OO[k]?=some ((p, .lst xs)::([]:List (List XF)).flatten):=by rw[hk,c2,hfl];rfl
  obtain⟨w3,m3⟩:=MH (D:=[]) (Cs:=[]) (xs':=xs.eraseIdx kk) (Cs':=List.replicate bs.length []) w0 hk0 (λc hc=>by rw[YN] at hc;cases hc) (by rw[YN];exact List.nodup_nil)
  rw[Zo] at m3
  refine⟨p,xs,j,kk,y,rfl,by rw[show z= .int j from ho],s1 _ _ hH,h1.1,h1.2,by rw[Paired.len pr];exact h2,hy,?_⟩
  have pr2:Paired (r K (hid H' OO)) (xs.eraseIdx kk) bs:=by rw[show bs=as.eraseIdx kk from h4];exact Paired.erase' kk pr
  exact hr a bs y _ _ w3 ⟨⟨S.mono _ _ m3 s',MonoE.mono m3 ry⟩,⟨p,_,_,rfl,(P3.of (Paired.imp2 (λ_ _ z=>MonoE.mono m3 z) pr2)).imp λ_ _ _ z=>z,rfl⟩⟩ (PZ.tr (fd.tr D) m3 P')
theorem LQ {ti:TE}{r:Enc α}[MonoE r]{mi:Rs Int}{f:α×List α->Rs β}{v:V}{as:List α}{C:List XF}(x i k:Nat)(hσ:σ[i]?=some (some v))(hk:OO[k]?=some C)(h:∀x,S.p x->oL (oF r) K x v as C)(hi:EvB K Er S OO σ ti Xa mi)
  (hr:∀a bs y C',Sv Er ((S.add K r y a).addO K (oL (oF r)) v bs C') (OO.set k C') (σ.set x (some y)) u Fd (f (a,bs))):Sv Er S OO σ (Jo (Ea (tBM K "list" FI (Ks i) (XM ti Qa)) (Zx x)) u) Fd (mi.bind λj=>(DM as j).bind f):=λH D w s P=>
 BN (te:=ti) i k hσ hk h hi w s P λa bs y C' H' w' s' P'=>hr a bs y C' H' D w' s' P'
theorem G9 {ti:TE}{r:Enc α}[MonoE r]{mi:Rs Int}{f:List α->List α->Rs β}{v v2:V}{as zs:List α}{C C2:List XF}(i k i2 k2:Nat)(hne:k2≠k)(hσ:σ[i]?=some (some v))(hk:OO[k]?=some C)(h:∀x,S.p x->oL (oF r) K x v as C)
  (hσ2:σ[i2]?=some (some v2))(hk2:OO[k2]?=some C2)(h2:∀x,S.p x->oL (oF r) K x v2 zs C2)(hi:EvB K Er S OO σ ti Xa mi)
  (hr:∀a bs C' C2',Sv Er ((S.addO K (oL (oF r)) v bs C').addO K (oL (oF r)) v2 (zs++[a]) C2') ((OO.set k C').set k2 C2') σ u Fd (f bs (zs++[a]))):
  Sv Er S OO σ (Jo (Dz (tBM K "list" US (Ks i2) (XM (tBM K "list" FI (Ks i) (XM ti Qa)) Qa))) u) Fd (mi.bind λj=>(DM as j).bind λp=>chk (zs.length<sizeLine) (f p.2 (zs++[p.1]))):=λH D w s P=>by
 obtain⟨p2,xs2,Cs2,e2,q2,c2⟩:=h2 _ s
 subst c2
 have hH2:H p2=some (.lst xs2):=w.tr (p2, .lst xs2) (List.mem_flatten.mpr ⟨_,List.mem_of_getElem? hk2,List.mem_cons_self⟩)
 refine⟨v2,hσ2,by rw[e2];exact .inl ⟨rfl,_,SqL.of hH2⟩,BN (te:=ti) i k hσ hk h hi w s P λa bs y C' H' w' s' P'=>?_⟩
 obtain⟨hsz,P'⟩:=PZ.chk P'
 subst e2
 obtain⟨Cs3,q3,c3⟩:=GD (h2 _ s'.1.1)
 obtain⟨pr,hfl⟩:=P3.flat q3
 have hkk:(OO.set k C')[k2]?=some ((p2,HO.lst xs2)::([]:List (List XF)).flatten):=by
  rw[List.getElem?_set_ne (λe=>hne e.symm),hk2,c3,hfl];rfl
 have hH3:H' p2=some (.lst xs2):=w'.tr (p2, .lst xs2) (List.mem_flatten.mpr ⟨_,List.mem_of_getElem? hkk,List.mem_cons_self⟩)
 obtain⟨w3,m3⟩:=MH (D:=[]) (Cs:=[]) (xs':=xs2++[y]) (Cs':=List.replicate (zs++[a]).length []) w'.nil hkk (λc hc=>by rw[YN] at hc;cases hc) (by rw[YN];exact List.nodup_nil)
 rw[Zo] at m3
 refine⟨p2,xs2,y,rfl,rfl,hH3,by rw[Paired.len pr];exact hsz,?_⟩
 refine hr a bs C' _ _ D w3 ⟨⟨S.mono _ _ m3 s'.1.1,(SC.oneO K (oL (oF r)) v bs C').mono _ _ m3 s'.2⟩,⟨p2,_,_,rfl,(P3.of (Paired.app (Paired.imp2 (λ_ _ z=>MonoE.mono m3 z) pr) (.cons (MonoE.mono m3 (show r K _ y a from s'.1.2)) .nil))).imp λ_ _ _ z=>z,rfl⟩⟩ (PZ.tr (fd.tr D) m3 P')
theorem Fh {ta tb:TE}{r:Enc α}{q:Enc γ}[z:MonoE r][MonoE q]{ma:Rs α}{mb:Rs γ}{f:α->γ->Rs β}(i j:Nat)(ha:EvS K Er S OO σ ta r ma)(hb:EvS K Er S OO σ tb q mb)
  (hr:∀a b v w,Sv Er ((S.add K r v a).add K q w b) OO ((σ.set i (some v)).set j (some w)) u Fd (f a b)):Sv Er S OO σ (Jo (Nr i j (XM ta (XM tb Qa))) u) Fd (ma.bind λa=>mb.bind λb=>f a b):=λH D w s P=>
 ha.st w s P λa x H1 s1 w1 q1 r1 P1=>hb.st w1 q1 P1 λb y H2 s2 w2 q2 r2 P2=>⟨x,y,rfl,hr a b x y H2 D w2 ⟨⟨q2,z.mono (Xm s2) r1⟩,r2⟩ P2⟩
theorem B5 {te:TE}{r:Enc α}{q:Enc γ}[MonoE r][MonoE q]{m:Rs (α×γ)}{f:α×γ->Rs β}(i j:Nat)(he:EvS K Er S OO σ te (rP2 r q) m)
  (hr:∀a v w,Sv Er ((S.add K r v a.1).add K q w a.2) OO ((σ.set i (some v)).set j (some w)) u Fd (f a)):Sv Er S OO σ (Jo (Ea te (Ht K 2 (Qr (Zx i) (Qr (Zx j) Iu)))) u) Fd (m.bind f):=λH D w s P=>
 he.st w s P λa v H1 s1 w1 q1 r9 P1=>by obtain⟨p,x,y,e,h,h1,h2⟩:=r9;exact⟨p,_,e,SqT.of (XN _ _ h),rfl,x,[y],rfl,y,[],rfl,rfl,hr a x y H1 D w1 ⟨⟨q1,h1⟩,h2⟩ P1⟩
theorem He {te:TE}{g:Int->Int->Int}{m:Rs Int}{f:Int->Rs β}{v:V}{a:Int}(i:Nat)(hσ:σ[i]?=some (some v))(h:∀x,S.p x->Xa K x v a)(he:EvB K Er S OO σ te Xa m)
  (hr:∀b v,Sv Er (S.add K Xa v b) OO (σ.set i (some v)) u Fd (f b)):Sv Er S OO σ (Jo (MT i te (ipI g)) u) Fd (m.bind λb=>f (g a b)):=λH D w s P=>
 ⟨v,hσ,he.st w s P λb y H1 s1 w1 q1 r1 P1=>⟨a,b,h _ s,r1,hr _ _ H1 D w1 ⟨q1,rfl⟩ P1⟩⟩
theorem G4 {ta tb:TE}{ma mb:Rs Int}(ha:EvB K Er S OO σ ta Xa ma)(hb:EvB K Er S OO σ tb Xa mb):EvB K Er S OO σ (tCB (λxs H Q=>∃ i j:Int,xs=[.int i, .int j]/\Q (.int (if j > i then j else i)) H) (XM ta (XM tb Qa))) Xa (ma.bind λa=>mb.bind λb=>.ok (max a b)):=λH Q w s P=>
 ha.run w s FB.tr P λa x H1 s1 w1 q1 r1 P1=>hb.run w1 q1 FB.tr P1 λb y H2 s2 w2 q2 r2 P2=>⟨a,b,by rw[show x= .int a from r1,show y= .int b from r2],P2 _ H2 (XG.refl _) (by show V.int _=V.int _;congr 1;omega)⟩
theorem Ct {ta tb:TE}{ma mb:Rs Int}(ha:EvB K Er S OO σ ta Xa ma)(hb:EvB K Er S OO σ tb Xa mb):EvB K Er S OO σ (tCB (λxs H Q=>∃ i j:Int,xs=[.int i, .int j]/\Q (.int (if j<i then j else i)) H) (XM ta (XM tb Qa))) Xa (ma.bind λa=>mb.bind λb=>.ok (min a b)):=λH Q w s P=>
 ha.run w s FB.tr P λa x H1 s1 w1 q1 r1 P1=>hb.run w1 q1 FB.tr P1 λb y H2 s2 w2 q2 r2 P2=>⟨a,b,by rw[show x= .int a from r1,show y= .int b from r2],P2 _ H2 (XG.refl _) (by show V.int _=V.int _;congr 1;omega)⟩
theorem Iw {ta:TE}{ma:Rs (List Int)}(ha:EvB K Er S OO σ ta (rV Xa) ma):EvB K Er S OO σ (tCB (Nt K) (XM ta Qa)) Xa (ma.bind λa=>.ok a.sum):=λH Q w s P=>
 ha.run w s FB.tr P λa x H1 s1 w1 q1 r9 P1=>by obtain⟨p,xs,e,q,pr⟩:=r9;exact⟨p,a,by rw[e],by rw[←Ja pr];exact SqL.of q,P1 _ H1 (XG.refl _) rfl⟩
theorem J9:∀{xs:List V}{bs:List Bool}{H:Hp},Paired (XQ K H) xs bs->xs=bs.map V.bl
 |_,_,_, .nil=>rfl
 |_,_,_, .cons r t=>by rw[show _=V.bl _ from r,J9 t];rfl
theorem CZ {ta:TE}{ma:Rs (List Bool)}(ha:EvB K Er S OO σ ta (rV XQ) ma):EvB K Er S OO σ (tCB (Ng K) (XM ta Qa)) XQ (ma.bind λa=>.ok (a.all id)):=λH Q w s P=>
 ha.run w s FB.tr P λa x H1 s1 w1 q1 r9 P1=>by obtain⟨p,xs,e,q,pr⟩:=r9;exact⟨p,a,by rw[e],by rw[←J9 pr];exact SqL.of q,P1 _ H1 (XG.refl _) rfl⟩
class TyE {α:Type}(r:Enc α)(n:outParam String):Prop where
 ty:∀{K:PySem.W.Frag}{H:Hp}{v:V}{a:α},r K H v a->TyOf K H v (.type n)
instance:TyE Xa "int":=⟨fun {K H v a} h=>by cases(show v= .int a from h);exact .int a⟩
instance:TyE XQ "bool":=⟨fun {K H v a} h=>by cases(show v= .bl a from h);exact .bl a⟩
instance {r:Enc α}:TyE (rV r) "list":=⟨λr9=>by obtain⟨p,xs,e,q,_⟩:=r9;exact by subst e;exact .lst q⟩
instance {r:Enc α}:TyE (rPL r) "tuple":=⟨λr9=>by obtain⟨p,xs,e,q,_⟩:=r9;exact by subst e;exact .tup q⟩
instance {r:Enc α}{q:Enc γ}:TyE (rP2 r q) "tuple":=⟨λr9=>by obtain⟨p,x,y,e,q,_⟩:=r9;exact by subst e;exact .tup q⟩
instance {r:Enc α}{q:Enc γ}{t:Enc δ}:TyE (rP3 r q t) "tuple":=⟨λr9=>by obtain⟨p,x,y,z,e,q,_⟩:=r9;exact by subst e;exact .tup q⟩
theorem Qe {te:TE}{r:Enc α}{n:String}[z:TyE r n]{m:Rs α}(t:String)(b:Bool)(hk:PySem.W.kitOne K (.type n) (.type t)=some b)(he:EvB K Er S OO σ te r m):
  EvB K Er S OO σ (tCB (λxs H Q=>∃ x n t b,xs=[x, .ty n]/\TyOf K H x t/\PySem.W.kitOne K t (.type n)=some b/\Q (.bl b) H) (XM te (XM (tC (.ty t)) Qa))) XQ (m.bind λ_=>.ok b):=λH Q w s P=>
 he.run w s FB.tr P λa x H1 s1 w1 q1 r1 P1=>⟨x,t, .type n,b,rfl,z.ty r1,hk,P1 _ H1 (XG.refl _) rfl⟩
theorem B6 {ta:TE}{ma:Rs Int}(ha:EvB K Er S OO σ ta Xa ma):EvB K Er S OO σ (tCB (λxs H Q=>∃ i:Int,xs=[.int i]/\Q (.int (if i<0 then-i else i)) H) (XM ta Qa)) Xa (ma.bind λa=>.ok (a.natAbs:Int)):=λH Q w s P=>
 ha.run w s FB.tr P λa x H1 s1 w1 q1 r1 P1=>⟨a,by rw[show x= .int a from r1],P1 _ H1 (XG.refl _) (by show V.int _=V.int _;congr 1;omega)⟩
end
section
variable {K:PySem.W.Frag}{Er:Exc->Hp->Prop}{S:SC}{OO OO' OO1 OO2:List (List XF)}{σ:St}{α β γ ρ ι δ ε:Type}
variable {Fd:Ends->β->Hp->Prop}[fd:FdOk Fd]{u:TS}
theorem Mw (n:Nat)(H:Hp):W (List.replicate n []) H:=⟨λc hc=>(by rw[YN] at hc;cases hc),(by unfold fl;rw[YN];exact List.nodup_nil),λc hc=>(by rw[YN] at hc;cases hc)⟩
theorem El (n:Nat)(H:Hp):hid H (List.replicate n [])=H:=by funext b;unfold hid fl;rw[YN];simp
theorem Mn {o:OE ρ}[z:MonoO o]{Q:VK}{b:ρ}{H:Hp}(q:FF K o Q b H):∀v C OO' H',W (C::OO') H'->XG H (hid H' (C::OO'))->o K (hid H' (C::OO')) v b C->Q v H':=λv C OO' H' w m ho=>by
 have hs:XG (hid H' (C::OO')) (hid H' [C]):=Q5 (XG.refl _) λb hb=>by
  rw[YG]
  refine List.mem_append_left _ ?_
  simpa[fl] using hb
 exact q v C H' (w.sub (by simp)) (m.trans hs) (z.mono hs ho)
theorem Yw {o:OE ρ}[MonoO o]{t:TS}{m:Rs ρ}{Q:VK}{b:ρ}{H:Hp}{D:Ends}(n:Nat)(h:Sv (λ_ _=>False) S (List.replicate n []) σ t (FTd K o) m)(hs:S.p H)(hm:m= .ok b)(q:FF K o Q b H)(hD:D.rt=Q):t D σ H:=by
 refine h H D (Mw n H) (by rw[El];exact hs) ?_
 subst hm
 rw[El]
 intro v C OO' H' w mm ho
 rw[hD]
 exact Mn q v C OO' H' w mm ho
noncomputable def oU:OE Unit:=λ_ _ v _ C=>v= .non/\C=[]
instance:MonoO oU:=⟨λ_ h=>h⟩
instance:FlatO oU:=⟨λ_ h=>h⟩
noncomputable def rU0:Enc Unit:=λ_ _ v _=>v= .non
instance:FlatE rU0:=⟨λ_ h=>h⟩
instance:FrzC oU rU0:=⟨λh _ _=>h.1⟩
theorem M1 {J:Jn Unit ι}{t:TS}{m:Rs Unit}{Q:VK}{b:Unit}{H:Hp}{D:Ends}(n:Nat)(h:Sv (λ_ _=>False) S (List.replicate n []) σ t (FNd J) m)(hs:S.p H)(hm:m= .ok b)(q:FF K oU Q b H)(hD:∀σ H,D.nx σ H=Q .non H):t D σ H:=by
 refine h H D (Mw n H) (by rw[El];exact hs) ?_
 subst hm
 rw[El]
 intro x H' w mm ho
 rw[hD]
 have hs:XG (hid H' (J.oo x)) (hid H' [[]]):=Q5 (XG.refl _) λb hb=>by simp[fl] at hb
 exact q .non [] H' ⟨λc hc=>by simp at hc,by simp[fl],λc hc=>by simp at hc⟩ (mm.trans hs) ⟨rfl,rfl⟩
theorem HY {t:TS}{m:Rs β}(k:Nat)(hr:Sv Er S (OO.set k []) σ t Fd m):Sv Er S OO σ t Fd m:=λH D w s P=>by
 cases hk:OO[k]? with
 |none=>
  rw[List.set_eq_of_length_le (List.getElem?_eq_none_iff.mp hk)] at hr
  exact hr H D w s P
 |some C=>
  have hp:=Yi hk
  have w1:W (C::OO.set k []) H:=w.of hp
  have hs:XG (hid H OO) (hid H (OO.set k [])):=by
   rw[←Yc hp]
   exact Q5 (XG.refl _) λb hb=>by rw[YG];simp[hb]
  exact hr H D w1.tail (S.mono _ _ hs s) (PZ.tr (fd.tr D) hs P)
theorem IK {te:TE}{r:Enc α}{m:Rs α}{f:Rs β}(he:EvB K Er S OO σ te r m)(hr:Sv Er S OO σ u Fd f):Sv Er S OO σ (Jo (Dz te) u) Fd (m.bind λ_=>f):=λH D w s P=>
 he.st w s P λa v H' s1 w' s' ho P'=>hr H' D w' s' P'
noncomputable def FAO {α:Type}(K:PySem.W.Frag)(OO OO':List (List XF))(o:OE α)(Q:List V->Hp->Prop)(as:List α)(H:Hp):Prop:=∀ vs Cs H',XG H H'->W (Cs.flatten::OO') H'->XG (hid H OO) (hid H' (Cs.flatten::OO'))->P3 (o K (hid H' (Cs.flatten::OO'))) vs as Cs->Q vs H'
noncomputable def MD {α:Type}(K:PySem.W.Frag)(Er:Exc->Hp->Prop)(S:SC)(OO OO':List (List XF))(σ:St)(t:TA)(o:OE α)(m:Rs (List α)):Prop:=∀ H Q,W OO H->S.p (hid H OO)->PZ Er (FAO K OO OO' o Q) H m->t σ H Q
theorem F5 {o:OE α}:MD K Er S OO OO σ Qa o (.ok []):=λH Q w s P=>P [] [] H (XG.refl _) w.nil (by show XG _ (hid H ([]::OO));rw[Zo];exact XG.refl _) .nil
theorem QF {te:TE}{t:TA}{o:OE α}[z:MonoO o]{m:Rs α}{n:Rs (List α)}(he:Ev K Er S OO OO1 σ te o m)(ht:∀C,MD K Er S (C::OO1) (C::OO2) σ t o n):MD K Er S OO OO2 σ (XM te t) o (m.bind λa=>n.bind λas=>.ok (a::as)):=λH Q w s P=>by
 refine he H _ w s ?_
 cases em:m with
 |bad=>rw[em] at P;exact P
 |err x=>rw[em] at P;exact P
 |ok a=>
  rw[em] at P
  intro v C H1 s1 w1 m1 ho
  refine ht C H1 _ w1 (S.mono _ _ m1 s) ?_
  have P1:PZ Er (FAO K OO OO2 o Q) H (n.bind λas=>.ok (a::as)):=P
  cases en:n with
  |bad=>rw[en] at P1;exact P1
  |err x=>rw[en] at P1;exact λH2 s2=>P1 H2 (s1.trans s2)
  |ok as=>
   rw[en] at P1
   have P1:FAO K OO OO2 o Q (a::as) H:=P1
   intro vs Cs H2 s2 w2 m2 pr
   have pe:((C::Cs).flatten::OO2).flatten.Perm (Cs.flatten::C::OO2).flatten:=by
    simp only[List.flatten_cons]
    rw[←List.append_assoc]
    exact List.perm_append_comm.append_right _
   refine P1 (v::vs) (C::Cs) H2 (s1.trans s2) (w2.of pe) ?_ ?_
   ·rw[Yc pe];exact m1.trans m2
   ·rw[Yc pe];exact .cons (z.mono m2 ho) pr
theorem BF {t:TA}{o:OE α}[z:MonoO o]{m:Rs (List α)}(h:MD K Er S OO OO σ t o m):Ev K Er S OO OO σ (EX t) (oL o) (m.bind λas=>chk (as.length<=sizeLine) (.ok as)):=λH Q w s P=>by
 refine h H _ w s ?_
 cases e:m with
 |bad=>rw[e] at P;exact P
 |err x=>rw[e] at P;exact P
 |ok as=>
  rw[e] at P
  obtain⟨hsz,P⟩:=PZ.chk (show PZ Er _ H (chk (as.length<=sizeLine) (.ok as)) from P)
  intro vs Cs H1 s1 w1 m1 p
  exact⟨by rw[p.len.1];exact hsz,Li w1 m1 s1 p P⟩
class InE {α:Type}[DecidableEq α](r:Enc α):Prop where
 fl:∀{K:PySem.W.Frag}{H:Hp}{x:V}{a:α},r K H x a->Vi x=true
 eq:∀{K:PySem.W.Frag}{H H':Hp}{x y:V}{a b:α},r K H x a->r K H' y b->eqV x y=decide (a=b)
instance:InE Xa:=⟨fun {K H x a} h=>by cases(show x= .int a from h);rfl,fun {K H H' x y a b} h h'=>by
 cases(show x= .int a from h);cases(show y= .int b from h');show(a==b)=_;rw[EA]⟩
theorem Vz [DecidableEq α]{r:Enc α}[z:InE r]{H H':Hp}{x:V}{a:α}(hx:r K H x a):∀{xs:List V}{as:List α},Paired (r K H') xs as->xs.all Vi=true/\inV x xs=decide (a∈as)
 |_,_, .nil=>⟨rfl,by simp[inV]⟩
 |_,_, .cons h t=>by
  obtain⟨h1,h2⟩:=Vz hx t
  refine⟨by rw[List.all_cons,h1,z.fl h];rfl,?_⟩
  unfold inV at h2⊢
  rw[List.any_cons,h2,z.eq h hx,Bool.eq_iff_iff,Bool.or_eq_true,decide_eq_true_eq,decide_eq_true_eq,decide_eq_true_eq,List.mem_cons]
  exact or_congr ⟨Eq.symm,Eq.symm⟩ Iff.rfl
theorem Hu [DecidableEq α]{ta tb:TE}{r:Enc α}[z:InE r]{ma:Rs α}{mb:Rs (List α)}(ha:EvB K Er S OO σ ta r ma)(hb:EvB K Er S OO σ tb (rV r) mb):EvB K Er S OO σ (tOp (rIn K false) ta tb) XQ (ma.bind λa=>mb.bind λas=>.ok (decide (a∈as))):=λH Q w s P=>
 ha.run w s FB.tr P λa x H1 s1 w1 q1 r1 P1=>hb.run w1 q1 FB.tr P1 λb y H2 s2 w2 q2 ⟨p,xs,e,q,pr⟩ P2=>by
  obtain⟨h1,h2⟩:=Vz r1 pr
  exact⟨p,xs,e, .inl (SqL.of q),z.fl r1,h1,P2 _ H2 (XG.refl _) (by rw[h2];rfl)⟩
noncomputable def Eo [DecidableEq α](as:List α)(a:α):Rs Int:=match as.findIdx? (λb=>decide (b=a)) with
 |some j=>.ok (j:Int)
 |none=>.bad
theorem DB [DecidableEq α]{r:Enc α}[z:InE r]{H H':Hp}{x:V}{a:α}(hx:r K H x a){xs:List V}{as:List α}(p:Paired (r K H') xs as){j:Nat}(hj:as.findIdx? (λb=>decide (b=a))=some j):
  (∃y,xs[j]?=some y/\eqV y x=true)/\∀(m:Nat) y,m<j->xs[m]?=some y->eqV y x=false:=by
 rw[List.findIdx?_eq_some_iff_getElem] at hj
 obtain⟨h1,h2,h3⟩:=hj
 constructor
 ·obtain⟨y,hy,ry⟩:=Paired.getR p (i:=j) (b:=as[j]) (by simp[h1])
  exact⟨y,hy,by rw[z.eq ry hx];exact h2⟩
 ·intro m y hm hy
  obtain⟨b,hb,rb⟩:=Paired.getL p hy
  have hml:m<as.length:=by omega
  have e:b=as[m]:=by rw[List.getElem?_eq_getElem hml] at hb;exact(Option.some.inj hb).symm
  rw[z.eq rb hx,e]
  have:=h3 m hm
  simpa using this
theorem Lc [DecidableEq α]{as:List α}{a:α}{x:Exc}:Eo as a≠ .err x:=by unfold Eo;split<;> exact λz=>nomatch z
theorem IB [DecidableEq α]{as:List α}{a:α}{n:Int}(h:Eo as a= .ok n):∃j:Nat,as.findIdx? (λb=>decide (b=a))=some j/\n=j:=by
 unfold Eo at h;split at h
 ·cases h;exact⟨_,by assumption,rfl⟩
 ·cases h
theorem Gf [DecidableEq α]{ta tb:TE}{r:Enc α}[z:InE r][y:MonoE r]{ma:Rs (List α)}{mb:Rs α}(ha:EvB K Er S OO σ ta (rV r) ma)(hb:EvB K Er S OO σ tb r mb):EvB K Er S OO σ (tBM K "list" (C0 K) ta (XM tb Qa)) Xa (ma.bind λas=>mb.bind λa=>Eo as a):=λH Q w s P=>
 ha.run w s FB.tr P λas x H1 s1 w1 q1 ⟨p,xs,e,q,pr⟩ P1=>⟨by rw[e];exact .inl ⟨rfl,_,SqL.of q⟩,hb.run w1 q1 FB.tr P1 λb v H2 s2 w2 q2 r2 P2=>by
  obtain⟨c,hc,P3⟩:=P2.okOf λx=>Lc
  obtain⟨j,hj,rfl⟩:=IB hc
  have pr2:=Paired.imp2 (G:=r K H2) (λ_ _ h=>y.mono s2 h) pr
  obtain⟨h1,h2⟩:=DB r2 pr2 hj
  exact⟨p,xs,v,j,e,rfl,SqL.of (s2 _ _ q),z.fl r2,(Vz r2 pr2).1,h1,h2,P3 _ H2 (XG.refl _) rfl⟩⟩
theorem IX {ta tb:TE}{r:Enc α}{m:Rs (Option α)}(ha:EvB K Er S OO σ ta (Hq r) m):EvB K Er S OO σ (tOp (λx y H Q=>y= .non/\Q (.bl (decide (x= .non))) H) ta (tC .non)) XQ (m.bind λa=>.ok a.isNone):=λH Q w s P=>
 ha.run w s FB.tr P λa x H1 s1 w1 q1 r1 P1=>⟨rfl,P1 _ H1 (XG.refl _) (by
  cases a with
  |none=>rw[show x= .non from r1];rfl
  |some a=>show V.bl _=V.bl _;rw[decide_eq_false r1.1];rfl)⟩
theorem Bu {ta tb tc:TE}{p q:Int->Int->Bool}{ma mb mc:Rs Int}(ha:EvB K Er S OO σ ta Xa ma)(hb:EvB K Er S OO σ tb Xa mb)(hc:EvB K Er S OO σ tc Xa mc):
  EvB K Er S OO σ (Hw (rI0 λi j=>.bl (p i j)) (rI0 λi j=>.bl (q i j)) ta tb tc) XQ (ma.bind λa=>mb.bind λb=>if p a b=true then mc.bind λc=>.ok (q b c) else .ok false):=λH Q w s P=>
 ha.run w s FB.tr P λa x H1 s1 w1 q1 r1 P1=>hb.run w1 q1 FB.tr P1 λb y H2 s2 w2 q2 r2 P2=>⟨a,b,r1,r2,p a b,rfl,by
  cases h:p a b with
  |false=>rw[h] at P2;exact P2 _ H2 (XG.refl _) rfl
  |true=>
   rw[h,if_pos rfl] at P2
   rw[if_pos rfl]
   exact hc.run w2 q2 FB.tr P2 λc z H3 s3 w3 q3 r3 P3=>⟨b,c,r2,r3,P3 _ H3 (XG.refl _) rfl⟩⟩
theorem IE {α:Type}[DecidableEq α]{r r':Enc α}{d:Nat}(E:EqOk r d)(h:∀{K:PySem.W.Frag}{H:Hp}{v:V}{a:α},r' K H v a->r K H v a)(m:MonoE r'):EqOk r' d where
 uniq:=λI h1 h2=>E.uniq I (h h1) (h h2)
 eq:=λI rx ry h1 h2 hu=>E.eq I rx ry (h h1) (h h2) hu
 rc:=λI rx ry h1 h2 hu=>E.rc I rx ry (h h1) (h h2) hu
 ne:=λI rx ry h1 h2 hu=>E.ne I rx ry (h h1) (h h2) hu
 keep:=λs q=>m.mono s q
theorem LG {α:Type}[DecidableEq α]{r:Enc α}{d:Nat}[m:MonoE r](E:EqOk r d):EqOk (rV r) (d+1):=IE (HG E) (λr9=>by obtain⟨a,xs,e,q,p⟩:=r9;exact⟨a,xs,e,SqL.of q,p⟩) inferInstance
end
section
variable {K:PySem.W.Frag}{Er:Exc->Hp->Prop}{S:SC}{OO OO' OO1 OO2:List (List XF)}{σ:St}{α β γ ρ ι δ ε:Type}
variable {Fd:Ends->β->Hp->Prop}[fd:FdOk Fd]{u:TS}
theorem FG {ta tb:TE}{o:OE α}{q:OE β}[z:MonoO o][y:MonoO q]{ma:Rs α}{mb:Rs β}(ha:Ev K Er S OO OO1 σ ta o ma)(hb:∀C,Ev K Er S (C::OO1) (C::OO2) σ tb q mb):Ev K Er S OO OO2 σ (Lr (XM ta (XM tb Qa))) (oT2 o q) (ma.bind λa=>mb.bind λb=>.ok (a,b)):=λH Q w s P=>by
 refine ha H _ w s ?_
 cases em:ma with
 |bad=>rw[em] at P;exact P
 |err x=>rw[em] at P;exact P
 |ok a=>
  rw[em] at P
  intro v C H1 s1 w1 m1 ho
  refine hb C H1 _ w1 (S.mono _ _ m1 s) ?_
  have P1:PZ Er (FO K OO OO2 (oT2 o q) Q) H (mb.bind λb=>.ok (a,b)):=P
  cases en:mb with
  |bad=>rw[en] at P1;exact P1
  |err x=>rw[en] at P1;exact λH2 s2=>P1 H2 (s1.trans s2)
  |ok b=>
   rw[en] at P1
   have P1:FO K OO OO2 (oT2 o q) Q (a,b) H:=P1
   intro v2 C2 H2 s2 w2 m2 ho2
   refine⟨by show 2<=sizeLine;decide,λp hp=>?_⟩
   have pe:((C++C2)::OO2).flatten.Perm (C2::C::OO2).flatten:=by
    simp only[List.flatten_cons]
    rw[←List.append_assoc]
    exact List.perm_append_comm.append_right _
   have s3:XG H2 (upd H2 p (.tup [v,v2])):=XY hp _
   have w3:=(w2.keep s3).of pe
   have m3:XG (hid H2 (C2::C::OO2)) (hid (upd H2 p (.tup [v,v2])) ((C++C2)::OO2)):=by rw[Yc pe];exact Xm s3
   refine P1 (.ref p) (C++C2) _ (s1.trans (s2.trans s3)) w3 (m1.trans (m2.trans m3)) ⟨p,v,v2,C,C2,rfl,?_,z.mono (m2.trans m3) ho,y.mono m3 ho2,rfl⟩
   rw[Yc pe]
   exact QL w2 hp
theorem LL {c:TT}{t1:TS}{mc:Rs Bool}{m2:Rs β}(hc:EvT Er S OO σ c mc)(h2:Sv Er S OO σ u Fd m2):Sv Er S OO σ (Jo (Lo c t1 Di) u) Fd (mc.bind λb=>if b=true then .bad else m2):=λH D w s P=>
 hc.st w s P λb H' w' s' P'=>by
  cases b with
  |true=>rw[if_pos rfl] at P';exact P'.elim
  |false=>exact h2 H' D w' s' P'
theorem Gb:∀{l:List XF}{a b:XF},(l.map (·.1)).Nodup->a∈l->b∈l->a.1=b.1->a=b
 | [],_,_,_,h,_,_=>by cases h
 |c::l,a,b,n,ha,hb,e=>by
  rw[List.map_cons,List.nodup_cons] at n
  cases ha with
  |head=>cases hb with
   |head=>rfl
   |tail _ hb=>exact absurd (List.mem_map.mpr ⟨b,hb,e.symm⟩) n.1
  |tail _ ha=>cases hb with
   |head=>exact absurd (List.mem_map.mpr ⟨a,ha,e⟩) n.1
   |tail _ hb=>exact Gb n.2 ha hb e
theorem Kl {Cs:List (List XF)}{k:Nat}{C:List XF}(h:Cs[k]?=some C):∀c∈C,c∈Cs.flatten:=λc hc=>List.mem_flatten.mpr ⟨C,List.mem_of_getElem? h,hc⟩
theorem Hs {as:List α}{i:Int}{a:α}(h:atR as i= .ok a):∃k,ixN as.length i=some k/\as[k]?=some a:=by
 have:=Fi h
 unfold atI at this
 cases e:ixN as.length i with
 |none=>rw[e] at this;cases this
 |some k=>rw[e] at this;exact⟨k,rfl,this⟩
theorem Cd {r:Enc α}[z:MonoE r]{v:V}{as:List (List α)}{row row':List α}{H:Hp}{p q:Addr}{xs ys ys':List V}{Cs:List (List XF)}{k kk:Nat}(w:W OO H)(hk:OO[k]?=some ((p, .lst xs)::Cs.flatten))(hP:P3 (oL (oF r) K (hid H OO)) xs as Cs)(hrow:as[kk]?=some row)
  (hx:xs[kk]?=some (.ref q))(hq:H q=some (.lst ys))(hcs:Cs[kk]?=some [(q, .lst ys)])(pr:Paired (r K (hid H OO)) ys' row'):
  ∃C',W (OO.set k C') (upd H q (.lst ys'))/\XG (hid H OO) (hid (upd H q (.lst ys')) (OO.set k C'))/\oL (oL (oF r)) K (hid (upd H q (.lst ys')) (OO.set k C')) (.ref p) (as.set kk row') C':=by
 have hkl:kk<Cs.length:=by
  rcases Nat.lt_or_ge kk Cs.length with h |h
  ·exact h
  ·rw[List.getElem?_eq_none h] at hcs;cases hcs
 have hin:∀c∈(p,HO.lst xs)::Cs.flatten,c∈OO.flatten:=λc hc=>List.mem_flatten.mpr ⟨_,List.mem_of_getElem? hk,hc⟩
 have w0:W ([]::OO) H:=w.nil
 have cn0:=Jd w0 hk
 rw[List.append_nil] at cn0
 have e0:Cs[kk]=[(q, .lst ys)]:=by
  rw[List.getElem?_eq_getElem hkl] at hcs;exact Option.some.inj hcs
 have hp:=FR (Cs:=Cs) (j:=kk) (D:=[(q,HO.lst ys')]) hkl
 rw[e0] at hp
 have hpm:((Cs.set kk [(q,HO.lst ys')]).flatten.map (·.1)).Perm (Cs.flatten.map (·.1)):=by
  have:=hp.map (·.1)
  simp only[List.map_append,List.map_cons,List.map_nil] at this
  exact(List.perm_append_right_iff _).mp this
 have hpne:p∉Cs.flatten.map (·.1):=by
  have h1:=Yi hk
  have:=(w.of (OO':=((p,HO.lst xs)::Cs.flatten)::OO.set k []) h1).nd
  rw[YG,List.map_cons,List.cons_append,List.nodup_cons] at this
  exact λz=>this.1 (List.mem_append_left _ z)
 have hqC:q∈Cs.flatten.map (·.1):=List.mem_map.mpr ⟨(q, .lst ys),Kl hcs _ (by simp),rfl⟩
 have hpq:p≠q:=λe=>hpne (e▸hqC)
 have hcells:∀c∈(p,HO.lst xs)::(Cs.set kk [(q,HO.lst ys')]).flatten,upd H q (.lst ys') c.1=some c.2/\Lu c.2=true:=λc hc=>by
  rcases List.mem_cons.mp hc with rfl |hc
  ·rw[X3 hpq];exact⟨w.tr _ (hin _ List.mem_cons_self),rfl⟩
  ·obtain⟨D,hD,hcD⟩:=List.mem_flatten.mp hc
   rcases List.mem_or_eq_of_mem_set hD with hD |hD
   ·by_cases hcq:c.1=q
    ·-- a cell at q in another place:then it is this one
     have hc2:c∈(Cs.set kk [(q,HO.lst ys')]).flatten:=hc
     have n1:((Cs.set kk [(q,HO.lst ys')]).flatten.map (·.1)).Nodup:=hpm.nodup_iff.mpr cn0
     have hm:(q,HO.lst ys')∈(Cs.set kk [(q,HO.lst ys')]).flatten:=List.mem_flatten.mpr ⟨[(q, .lst ys')],List.mem_set (by simpa using hkl) _,by simp⟩
     have e1:c=(q,HO.lst ys'):=by
      have:=Gb n1 hc2 hm hcq
      exact this
     rw[e1];exact⟨YV,rfl⟩
    ·rw[X3 hcq]
     have:c∈OO.flatten:=hin c (List.mem_cons_of_mem _ (List.mem_flatten.mpr ⟨D,hD,hcD⟩))
     exact⟨w.tr c this,w.mu c this⟩
   ·rw[hD] at hcD
    have e1:c=(q,HO.lst ys'):=by simpa using hcD
    rw[e1];exact⟨YV,rfl⟩
 have hq':q∈(Cs.set kk [(q,HO.lst ys')]).flatten.map (·.1):=hpm.mem_iff.mpr hqC
 obtain⟨w2,m2⟩:=E4 (C':=(p, .lst xs)::(Cs.set kk [(q,HO.lst ys')]).flatten) (p:=q) (o:=.lst ys') w0 hk (List.mem_cons_of_mem _ hqC) (List.mem_cons_of_mem _ hq') (by
   rw[List.map_cons,List.nodup_cons]
   exact⟨λz=>hpne (hpm.mem_iff.mp z),hpm.nodup_iff.mpr cn0⟩) (λb hb=>by
   rw[List.append_nil]
   rcases List.mem_cons.mp hb with rfl |hb
   ·exact List.mem_cons_self
   ·exact List.mem_cons_of_mem _ (hpm.mem_iff.mp hb)) (λc hc=>(hcells c hc).1) λc hc=>(hcells c hc).2
 rw[Zo] at m2
 have e3:xs.set kk (.ref q)=xs:=by
  apply List.ext_getElem?
  intro n
  by_cases hn:n=kk
  ·subst hn
   rw[hx,List.getElem?_set_self (by
    rcases Nat.lt_or_ge n xs.length with h |h
    ·exact h
    ·rw[List.getElem?_eq_none h] at hx;cases hx)]
  ·rw[List.getElem?_set_ne (λe=>hn e.symm)]
 refine⟨_,w2,m2,⟨p,xs,Cs.set kk [(q,HO.lst ys')],rfl,?_,rfl⟩⟩
 have:=P3.set (F:=oL (oF r) K (hid (upd H q (.lst ys')) (OO.set k ((p, .lst xs)::(Cs.set kk [(q,HO.lst ys')]).flatten)))) (a:=V.ref q) (b:=row') (c:=[(q,HO.lst ys')])
  ⟨q,ys',List.replicate row'.length [],rfl,(P3.of (Paired.imp2 (λ_ _ h=>z.mono m2 h) pr)).imp λ_ _ _ h=>h,by rw[YN]⟩ kk (P3.imp (λ_ _ _ h=>MonoO.mono m2 h) hP)
 rw[e3] at this
 exact this
theorem Cl {r:Enc α}{h:Hp}{as:List (List α)}{xs:List V}{Cs:List (List XF)}{kk:Nat}{row:List α}(q:P3 (oL (oF r) K h) xs as Cs)(hrow:as[kk]?=some row):∃q0 ys,xs[kk]?=some (.ref q0)/\Cs[kk]?=some [(q0, .lst ys)]/\Paired (r K h) ys row:=by
 obtain⟨x,c,h1,h2,p,ys,Ds,e,h3,h4⟩:=q.get hrow
 obtain⟨h5,h6⟩:=P3.flat h3
 rw[h6] at h4
 exact⟨p,ys,by rw[h1,e],by rw[h2,h4],h5⟩
theorem UB {F:V->α->Prop}{y:V}{a:α}(r:F y a):∀{l:List V}{m:List α} (i:Nat),Paired F l m->Paired F (l.set i y) (m.set i a)
 |_,_,_, .nil=>.nil
 |_,_,0, .cons _ t=>.cons r t
 |_,_,i+1, .cons q t=>.cons q (UB r i t)
theorem C5 {ta ti tj:TE}{r:Enc α}[z:MonoE r]{m:Rs α}{mi mj:Rs Int}{f:List (List α)->Rs β}{v:V}{as:List (List α)}{C:List XF}(i k:Nat)(hσ:σ[i]?=some (some v))(hk:OO[k]?=some C)(h:∀x,S.p x->oL (oL (oF r)) K x v as C)(he:EvS K Er S OO σ ta r m)
  (hi:EvB K Er S OO σ ti Xa mi)(hj:EvB K Er S OO σ tj Xa mj)
  (hr:∀bs C',Sv Er (S.addO K (oL (oL (oF r))) v bs C') (OO.set k C') σ u Fd (f bs)):
  Sv Er S OO σ (Jo (Ea ta (M7 (tOp (HN K) (Ks i) ti) tj IT)) u) Fd (m.bind λa=>mi.bind λx=>(atR as x).bind λrow=>mj.bind λy=>(JY row y a).bind λrow'=>(JY as x row').bind f):=λH D w s P=>
 he.st w s P λa va H1 s1 w1 q1 r1 P1=>⟨v,hσ,hi.st w1 q1 P1 λx vx H2 s2 w2 q2 r2 P2=>by
  cases ea:atR as x with
  |bad=>rw[ea] at P2;exact P2.elim
  |err ex=>exact absurd ea KE
  |ok row=>
   rw[ea] at P2
   obtain⟨kk,hkk,hrow⟩:=Hs ea
   obtain⟨p,xs,Cs,e,q,c⟩:=h _ q2
   subst c e
   obtain⟨q0,ys,g1,g2,g3⟩:=Cl q hrow
   have hin:∀c∈(p,HO.lst xs)::Cs.flatten,c∈OO.flatten:=λc hc=>List.mem_flatten.mpr ⟨_,List.mem_of_getElem? hk,hc⟩
   have hH:H2 p=some (.lst xs):=w2.tr (p, .lst xs) (hin _ List.mem_cons_self)
   have hq0:H2 q0=some (.lst ys):=w2.tr (q0, .lst ys) (hin _ (List.mem_cons_of_mem _ (Kl g2 _ (by simp))))
   refine⟨p,xs,x, .ref q0,rfl,r2,SqL.of hH,by unfold atI;rw[q.len.1,hkk];exact g1,hj.st w2 q2 (f:=λy=>(JY row y a).bind λrow'=>(JY as x row').bind f) P2 λy vy H3 s3 w3 q3 r3 P3'=>?_⟩
   cases eb:JY row y a with
   |bad=>rw[eb] at P3';exact P3'.elim
   |err ex=>exact absurd eb CV
   |ok row'=>
    rw[eb] at P3'
    obtain⟨jj,hjj,rfl⟩:=Cy eb
    have P4:PZ Er (Fd D) (hid H3 OO) (f (as.set kk (row.set jj a))):=by
     have e5:JY as x (row.set jj a)= .ok (as.set kk (row.set jj a)):=by unfold JY;rw[hkk]
     have:PZ Er (Fd D) (hid H3 OO) ((JY as x (row.set jj a)).bind f):=P3'
     rw[e5] at this
     exact this
    have m3:=Xm (OO:=OO) s3
    obtain⟨C',w4,m4,o4⟩:=Cd (ys':=ys.set jj va) (row':=row.set jj a) (v:=.ref p) w3 hk (P3.imp (λ_ _ _ h=>MonoO.mono m3 h) q) hrow g1 (s3 _ _ hq0) g2 (UB (z.mono ((Xm s2).trans m3) r1) jj (Paired.imp2 (λ_ _ h=>z.mono m3 h) g3))
    exact⟨q0,ys,y,jj,rfl,r3,s3 _ _ hq0,by rw[Paired.len g3];exact hjj,hr _ C' _ D w4 ⟨S.mono _ _ m4 q3,o4⟩ (PZ.tr (fd.tr D) m4 P4)⟩⟩
theorem En {ta ti:TE}{r:Enc α}[z:MonoE r]{m:Rs α}{mi:Rs Int}{f:List (List α)->Rs β}{v:V}{as:List (List α)}{C:List XF}(i k:Nat)(hσ:σ[i]?=some (some v))(hk:OO[k]?=some C)(h:∀x,S.p x->oL (oL (oF r)) K x v as C)(he:EvS K Er S OO σ ta r m)
  (hi:EvB K Er S OO σ ti Xa mi)
  (hr:∀bs C',Sv Er (S.addO K (oL (oL (oF r))) v bs C') (OO.set k C') σ u Fd (f bs)):
  Sv Er S OO σ (Jo (Dz (tBM K "list" US (tOp (HN K) (Ks i) ti) (XM ta Qa))) u) Fd (mi.bind λx=>(atR as x).bind λrow=>m.bind λa=>chk (row.length<sizeLine) ((JY as x (row++[a])).bind f)):=λH D w s P=>
 ⟨v,hσ,hi.st w s P λx vx H2 s2 w2 q2 r2 P2=>by
  cases ea:atR as x with
  |bad=>rw[ea] at P2;exact P2.elim
  |err ex=>exact absurd ea KE
  |ok row=>
   rw[ea] at P2
   obtain⟨kk,hkk,hrow⟩:=Hs ea
   obtain⟨p,xs,Cs,e,q,c⟩:=h _ q2
   subst c e
   obtain⟨q0,ys,g1,g2,g3⟩:=Cl q hrow
   have hin:∀c∈(p,HO.lst xs)::Cs.flatten,c∈OO.flatten:=λc hc=>List.mem_flatten.mpr ⟨_,List.mem_of_getElem? hk,hc⟩
   have hH:H2 p=some (.lst xs):=w2.tr (p, .lst xs) (hin _ List.mem_cons_self)
   have hq0:H2 q0=some (.lst ys):=w2.tr (q0, .lst ys) (hin _ (List.mem_cons_of_mem _ (Kl g2 _ (by simp))))
   refine⟨p,xs,x, .ref q0,rfl,r2,SqL.of hH,by unfold atI;rw[q.len.1,hkk];exact g1, .inl ⟨rfl,_,SqL.of hq0⟩,he.st w2 q2 (f:=λa=>chk (row.length<sizeLine) ((JY as x (row++[a])).bind f)) P2 λa va H3 s3 w3 q3 r3 P3'=>?_⟩
   obtain⟨hsz,P3'⟩:=PZ.chk P3'
   have P4:PZ Er (Fd D) (hid H3 OO) (f (as.set kk (row++[a]))):=by
    have e5:JY as x (row++[a])= .ok (as.set kk (row++[a])):=by unfold JY;rw[hkk]
    rw[e5] at P3'
    exact P3'
   have m3:=Xm (OO:=OO) s3
   obtain⟨C',w4,m4,o4⟩:=Cd (ys':=ys++[va]) (row':=row++[a]) (v:=.ref p) w3 hk (P3.imp (λ_ _ _ h=>MonoO.mono m3 h) q) hrow g1 (s3 _ _ hq0) g2 (Paired.app (Paired.imp2 (λ_ _ h=>z.mono m3 h) g3) (.cons r3 .nil))
   exact⟨q0,ys,va,rfl,rfl,s3 _ _ hq0,by rw[Paired.len g3];exact hsz,hr _ C' _ D w4 ⟨S.mono _ _ m4 q3,o4⟩ (PZ.tr (fd.tr D) m4 P4)⟩⟩
theorem Na {H H':Hp}{C D:List XF}{k:Nat}(w:W OO H)(hk:OO[k]?=some C)(s:XG H H')(w':W (D::OO.set k []) H')(m:XG (hid H (OO.set k [])) (hid H' (D::OO.set k []))):
  W (D::OO) H'/\XG (hid H OO) (hid H' (D::OO))/\Uv (hid H' (D::OO.set k [])) (hid H' (D::OO)):=by
 have hp:=Yi hk
 have wk:W (C::OO.set k []) H:=w.of hp
 have hC:∀c∈C,hid H (OO.set k []) c.1=some c.2:=λc hc=>Qd (wk.cell c hc) (by
  have:=wk.nd
  rw[YG] at this
  exact λhb=>(List.nodup_append.mp this).2.2 c.1 (List.mem_map.mpr ⟨c,hc,rfl⟩) c.1 hb rfl)
 have hC':∀c∈C,H' c.1=some c.2/\c.1∉fl (D::OO.set k []):=λc hc=>Yx (m _ _ (hC c hc))
 have w2:W (C::D::OO.set k []) H':=by
  refine⟨λc hc=>?_,?_,λc hc=>?_⟩
  ·rw[List.flatten_cons,List.mem_append] at hc
   exact hc.elim (λhc=>(hC' c hc).1) λhc=>w'.tr c hc
  ·rw[YG]
   refine List.nodup_append.mpr ⟨?_,w'.nd,λa ha b hb e=>?_⟩
   ·have:=wk.nd
    rw[YG] at this
    exact(List.nodup_append.mp this).1
   ·obtain⟨c,hc,rfl⟩:=List.mem_map.mp ha
    subst e
    exact(hC' c hc).2 hb
  ·rw[List.flatten_cons,List.mem_append] at hc
   exact hc.elim (λhc=>wk.mu c (by simp[hc])) λhc=>w'.mu c hc
 have pe:(D::OO).flatten.Perm (C::D::OO.set k []).flatten:=by
  simp only[List.flatten_cons]
  refine List.Perm.trans (List.Perm.append_left D (by simpa using hp.symm:OO.flatten.Perm (C++(OO.set k []).flatten))) ?_
  rw[←List.append_assoc, ←List.append_assoc]
  exact List.perm_append_comm.append_right _
 have w3:=w2.of pe
 refine⟨w3,λb u q=>?_,λb u q i=>w3.i b u (Yx q).1 i⟩
 obtain⟨q1,q2⟩:=Yx q
 have q3:hid H (OO.set k []) b=some u:=Qd q1 λz=>q2 ((VH hp b).mp (by rw[YG];simp[z]))
 obtain⟨q4,q5⟩:=Yx (m _ _ q3)
 refine Qd q4 λz=>?_
 have z2:=(VH pe b).mp z
 rw[YG,List.mem_append] at z2
 rcases z2 with z2 |z2
 ·exact q2 ((VH hp b).mp (by rw[YG];exact List.mem_append_left _ z2))
 ·exact q5 z2
theorem MQ {r1:Enc γ}{o1:OE γ}[z:FrzC o1 r1][MonoE r1]{H:Hp}{v:V}{a:γ}{C:List XF}{k:Nat}(w:W OO H)(hk:OO[k]?=some C)(s:S.p (hid H OO))(h:∀x,S.p x->o1 K x v a C):
  W (OO.set k []) H/\(S.add K r1 v a).p (hid H (OO.set k [])):=by
 have hp:=Yi hk
 have wk:W (C::OO.set k []) H:=w.of hp
 have hs:XG (hid H OO) (hid H (OO.set k [])):=by
  rw[←Yc hp]
  exact Q5 (XG.refl _) λb hb=>by rw[YG];simp[hb]
 refine⟨wk.tail,S.mono _ _ hs s,z.frz (h _ s) hs λc hc=>Qd (wk.cell c hc) ?_⟩
 have:=wk.nd
 rw[YG] at this
 exact λhb=>(List.nodup_append.mp this).2.2 c.1 (List.mem_map.mpr ⟨c,hc,rfl⟩) c.1 hb rfl
theorem IL {te:TE}{o:OE α}[y:FlatO o]{r1:Enc γ}{o1:OE γ}[FrzC o1 r1][MonoE r1]{m:Rs α}{v:V}{a:γ}{C:List XF}(k:Nat)(hk:OO[k]?=some C)(h:∀x,S.p x->o1 K x v a C)(he:Ev K Er (S.add K r1 v a) (OO.set k []) (OO.set k []) σ te o m):Ev K Er S OO OO σ te o m:=λH Q w s P=>by
 obtain⟨w1,s1⟩:=MQ (r1:=r1) w hk s h
 refine he H Q w1 s1 (P.imp λb _ hb v' D H' s' w' m' ho=>?_)
 obtain⟨w3,m3,i3⟩:=Na w hk s' w' m'
 exact hb v' D H' s' w3 m3 (y.flat i3 ho)
theorem Vw (K:PySem.W.Frag)(T:String):PySem.W.kitOne K (.type T) (.type T)=some true:=by
 unfold PySem.W.kitOne
 rw[if_pos (beq_self_eq_true _)]
theorem Gc (K:PySem.W.Frag):PySem.W.kitOne K (.type "int") (.type "bool")=some false:=by
 first
  |rfl
  |decide+kernel
  | (unfold PySem.W.kitOne PySem.W.kitCls;rfl)
end
section
variable {K:PySem.W.Frag}{Er:Exc->Hp->Prop}{S:SC}{OO OO' OO1 OO2:List (List XF)}{σ:St}{α β γ ρ ι δ ε:Type}
variable {Fd:Ends->β->Hp->Prop}[fd:FdOk Fd]{u:TS}
noncomputable def NE:Option α->Rs α
 |some a=>.ok a
 |none=>.bad
theorem MK {r:Enc α}{q:Enc γ}{K:PySem.W.Frag}{h:Hp}{v:V}{a:α×γ}{C:List XF}(q:oF (rP2 r q) K h v a C):v≠ .non:=by
 obtain⟨_,p,x,y,e,_⟩:=q
 rw[e];exact λz=>nomatch z
end
section
variable {K:PySem.W.Frag}{Er:Exc->Hp->Prop}{S:SC}{OO OO' OO1 OO2:List (List XF)}{σ:St}{α β γ ρ ι δ ε:Type}
variable {α1 α2 α3 α4 α5:Type}
noncomputable def rP4 (r1:Enc α1)(r2:Enc α2)(r3:Enc α3)(r4:Enc α4):Enc (α1×α2×α3×α4):=λK H v p=>∃ a x1 x2 x3 x4,v= .ref a/\H a=some (.tup [x1,x2,x3,x4])/\r1 K H x1 p.1/\r2 K H x2 p.2.1/\r3 K H x3 p.2.2.1/\r4 K H x4 p.2.2.2
instance {r1:Enc α1}{r2:Enc α2}{r3:Enc α3}{r4:Enc α4}[m1:MonoE r1][m2:MonoE r2][m3:MonoE r3][m4:MonoE r4]:MonoE (rP4 r1 r2 r3 r4):=⟨λs r9=>by obtain⟨a,x1,x2,x3,x4,e,h,p1,p2,p3,p4⟩:=r9;exact⟨a,x1,x2,x3,x4,e,s _ _ h,m1.mono s p1,m2.mono s p2,m3.mono s p3,m4.mono s p4⟩⟩
instance {r1:Enc α1}{r2:Enc α2}{r3:Enc α3}{r4:Enc α4}[m1:FlatE r1][m2:FlatE r2][m3:FlatE r3][m4:FlatE r4]:FlatE (rP4 r1 r2 r3 r4):=⟨λs r9=>by obtain⟨a,x1,x2,x3,x4,e,h,p1,p2,p3,p4⟩:=r9;exact⟨a,x1,x2,x3,x4,e,s _ _ h rfl,m1.flat s p1,m2.flat s p2,m3.flat s p3,m4.flat s p4⟩⟩
instance {r1:Enc α1}{r2:Enc α2}{r3:Enc α3}{r4:Enc α4}:TyE (rP4 r1 r2 r3 r4) "tuple":=⟨λr9=>by obtain⟨p,x1,x2,x3,x4,e,q,_⟩:=r9;exact by subst e;exact .tup q⟩
noncomputable def rP5 (r1:Enc α1)(r2:Enc α2)(r3:Enc α3)(r4:Enc α4)(r5:Enc α5):Enc (α1×α2×α3×α4×α5):=λK H v p=>∃ a x1 x2 x3 x4 x5,v= .ref a/\H a=some (.tup [x1,x2,x3,x4,x5])/\r1 K H x1 p.1/\r2 K H x2 p.2.1/\r3 K H x3 p.2.2.1/\r4 K H x4 p.2.2.2.1/\r5 K H x5 p.2.2.2.2
instance {r1:Enc α1}{r2:Enc α2}{r3:Enc α3}{r4:Enc α4}{r5:Enc α5}[m1:MonoE r1][m2:MonoE r2][m3:MonoE r3][m4:MonoE r4][m5:MonoE r5]:MonoE (rP5 r1 r2 r3 r4 r5):=⟨λs r9=>by obtain⟨a,x1,x2,x3,x4,x5,e,h,p1,p2,p3,p4,p5⟩:=r9;exact⟨a,x1,x2,x3,x4,x5,e,s _ _ h,m1.mono s p1,m2.mono s p2,m3.mono s p3,m4.mono s p4,m5.mono s p5⟩⟩
instance {r1:Enc α1}{r2:Enc α2}{r3:Enc α3}{r4:Enc α4}{r5:Enc α5}[m1:FlatE r1][m2:FlatE r2][m3:FlatE r3][m4:FlatE r4][m5:FlatE r5]:FlatE (rP5 r1 r2 r3 r4 r5):=⟨λs r9=>by obtain⟨a,x1,x2,x3,x4,x5,e,h,p1,p2,p3,p4,p5⟩:=r9;exact⟨a,x1,x2,x3,x4,x5,e,s _ _ h rfl,m1.flat s p1,m2.flat s p2,m3.flat s p3,m4.flat s p4,m5.flat s p5⟩⟩
instance {r1:Enc α1}{r2:Enc α2}{r3:Enc α3}{r4:Enc α4}{r5:Enc α5}:TyE (rP5 r1 r2 r3 r4 r5) "tuple":=⟨λr9=>by obtain⟨p,x1,x2,x3,x4,x5,e,q,_⟩:=r9;exact by subst e;exact .tup q⟩
theorem Fb {t1:TE}{t2:TE}{t3:TE}{t4:TE}{t5:TE}{r1:Enc α1}{r2:Enc α2}{r3:Enc α3}{r4:Enc α4}{r5:Enc α5}[z1:MonoE r1][z2:MonoE r2][z3:MonoE r3][z4:MonoE r4][z5:MonoE r5]{m1:Rs α1}{m2:Rs α2}{m3:Rs α3}{m4:Rs α4}{m5:Rs α5}(h1:EvS K Er S OO σ t1 r1 m1)(h2:EvS K Er S OO σ t2 r2 m2)(h3:EvS K Er S OO σ t3 r3 m3)(h4:EvS K Er S OO σ t4 r4 m4)(h5:EvS K Er S OO σ t5 r5 m5):EvS K Er S OO σ (Lr (XM t1 (XM t2 (XM t3 (XM t4 (XM t5 Qa)))))) (rP5 r1 r2 r3 r4 r5) (m1.bind λa1=>m2.bind λa2=>m3.bind λa3=>m4.bind λa4=>m5.bind λa5=>.ok (a1,a2,a3,a4,a5)):=λH Q w s P=>
 h1.run w s FS.tr P λa1 y1 H1 s1 w1 u1 q1 P1=>h2.run w1 u1 FS.tr P1 λa2 y2 H2 s2 w2 u2 q2 P2=>h3.run w2 u2 FS.tr P2 λa3 y3 H3 s3 w3 u3 q3 P3=>h4.run w3 u3 FS.tr P3 λa4 y4 H4 s4 w4 u4 q4 P4=>h5.run w4 u4 FS.tr P4 λa5 y5 H5 s5 w5 u5 q5 P5=>⟨by show 5<=sizeLine;decide,λp hp=>P5 _ _ (XY hp _) ⟨p,y1,y2,y3,y4,y5,rfl,QL w5 hp,z1.mono ((Xm s2).trans ((Xm s3).trans ((Xm s4).trans ((Xm s5).trans (Xm (XY hp _)))))) q1,z2.mono ((Xm s3).trans ((Xm s4).trans ((Xm s5).trans (Xm (XY hp _))))) q2,z3.mono ((Xm s4).trans ((Xm s5).trans (Xm (XY hp _)))) q3,z4.mono ((Xm s5).trans (Xm (XY hp _))) q4,z5.mono (Xm (XY hp _)) q5⟩⟩
noncomputable def tg5 {r1:Enc α1}{r2:Enc α2}{r3:Enc α3}{r4:Enc α4}{r5:Enc α5}[MonoE r1][MonoE r2][MonoE r3][MonoE r4][MonoE r5](i1 i2 i3 i4 i5:Nat):Tgt K OO (Ht K 5 (Qr (Zx i1) (Qr (Zx i2) (Qr (Zx i3) (Qr (Zx i4) (Qr (Zx i5) Iu)))))) (rP5 r1 r2 r3 r4 r5) (V×V×V×V×V) where
 set:=λv σ=>(((((σ.set i1 (some v.1)).set i2 (some v.2.1)).set i3 (some v.2.2.1)).set i4 (some v.2.2.2.1)).set i5 (some v.2.2.2.2))
 sc:=λa v S=>(((((S.add K r1 v.1 a.1).add K r2 v.2.1 a.2.1).add K r3 v.2.2.1 a.2.2.1).add K r4 v.2.2.2.1 a.2.2.2.1).add K r5 v.2.2.2.2 a.2.2.2.2)
 ok:=fun {H v a σ S Q} r9 hs hq=>by obtain⟨p,x1,x2,x3,x4,x5,e,h,h1,h2,h3,h4,h5⟩:=r9;exact⟨p,_,e,SqT.of (XN _ _ h),rfl,x1,[x2,x3,x4,x5],rfl,x2,[x3,x4,x5],rfl,x3,[x4,x5],rfl,x4,[x5],rfl,x5,[],rfl,rfl,hq (x1,x2,x3,x4,x5) ⟨⟨⟨⟨⟨hs,h1⟩,h2⟩,h3⟩,h4⟩,h5⟩⟩
theorem IF {K:PySem.W.Frag}{n i1 i2 i3:Nat}(h1:i1<n)(h2:i2<n)(h3:i3<n):UV n (Ht K 3 (Qr (Zx i1) (Qr (Zx i2) (Qr (Zx i3) Iu)))):=λx σ H Q q=>by
 obtain⟨a,xs,e1,hq,hl,v1,r1,f1,v2,r2,f2,v3,r3,f3,e9,q⟩:=q
 exact⟨a,xs,e1,hq,hl,v1,r1,f1,v2,r2,f2,v3,r3,f3,e9,q,by simp,λk hk=>by rw[List.getElem?_set_ne (by omega),List.getElem?_set_ne (by omega),List.getElem?_set_ne (by omega)]⟩
noncomputable def MY (as:List Int):Rs Int:=chk (0<as.length) (.ok (K2 as))
theorem EN {ta:TE}{ma:Rs (List Int)}(ha:EvB K Er S OO σ ta (rPL Xa) ma):EvB K Er S OO σ (tCB (LN K K2) (XM ta Qa)) Xa (ma.bind MY):=λH Q w s P=>
 ha.run w s FB.tr P λa x H1 s1 w1 q1 ⟨p,xs,e,q,pr⟩ P1=>by
  obtain⟨h1,P1⟩:=PZ.chk P1
  exact⟨p,a,by rw[e],by rw[←Ja pr];exact SqT.of q,h1,P1 _ H1 (XG.refl _) rfl⟩
theorem HP {ta:TE}{m:Rs (Int×Int×Int)}(ha:EvB K Er S OO σ ta (rP3 Xa Xa Xa) m):EvB K Er S OO σ ta (rPL Xa) (m.bind λp=>.ok [p.1,p.2.1,p.2.2]):=λH Q w s P=>
 ha.run w s FB.tr P λa x H1 s1 w1 q1 r9 P1=>by obtain⟨p,x1,x2,x3,e,q,h1,h2,h3⟩:=r9;exact P1 _ H1 (XG.refl _) ⟨p,_,e,q, .cons h1 (.cons h2 (.cons h3 .nil))⟩
noncomputable def rDP {α:Type}(r:Enc α)(K:PySem.W.Frag)(H:Hp)(kv:Key×V)(kx:Int×α):Prop:=kv.1= .inl kx.1/\r K H kv.2 kx.2
noncomputable def rD {α:Type}(r:Enc α):Enc (List (Int×α)):=λK H v d=>∃ p kvs,v= .ref p/\H p=some (.dK kvs)/\Paired (rDP r K H) kvs d
noncomputable def oD {α:Type}(r:Enc α):OE (List (Int×α)):=λK h v d C=>∃ p kvs,v= .ref p/\Paired (rDP r K h) kvs d/\C=[(p, .dK kvs)]
instance {r:Enc α}[m:MonoE r]:MonoE (rD r):=⟨λs r9=>by obtain⟨p,kvs,e,q,pr⟩:=r9;exact⟨p,kvs,e,s _ _ q,Paired.imp2 (λ_ _ z=>⟨z.1,m.mono s z.2⟩) pr⟩⟩
instance {r:Enc α}[m:MonoE r]:MonoO (oD r):=⟨λs r9=>by obtain⟨p,kvs,e,pr,c⟩:=r9;exact⟨p,kvs,e,Paired.imp2 (λ_ _ z=>⟨z.1,m.mono s z.2⟩) pr,c⟩⟩
instance {r:Enc α}[m:FlatE r]:FlatO (oD r):=⟨λs r9=>by obtain⟨p,kvs,e,pr,c⟩:=r9;exact⟨p,kvs,e,Paired.imp2 (λ_ _ z=>⟨z.1,m.flat s z.2⟩) pr,c⟩⟩
instance {r:Enc α}[m:MonoE r]:FrzC (oD r) (rD r):=⟨λr9 s hc=>by obtain⟨p,kvs,e,pr,c⟩:=r9;exact⟨p,kvs,e,hc (p, .dK kvs) (by rw[c];simp),Paired.imp2 (λ_ _ z=>⟨z.1,m.mono s z.2⟩) pr⟩⟩
noncomputable def ZV (d:List (Int×α))(k:Int):Option α:=(d.find? λkv=>decide (kv.1=k)).map (·.2)
noncomputable def GI (d:List (Int×α))(k:Int)(v:α):List (Int×α):=if(d.any λkv=>decide (kv.1=k))=true then d.map (λkv=>if kv.1=k then(kv.1,v) else kv) else d++[(k,v)]
noncomputable def Ur (d:List (Int×α))(k:Int):Rs α:=NE (ZV d k)
theorem V1 {r:Enc α}{H:Hp}{k:Int}:∀{kvs:List (Key×V)}{d:List (Int×α)},Paired (rDP r K H) kvs d->(∀a,ZV d k=some a->∃v,Gk kvs (.inl k)=some v/\r K H v a)/\(Gk kvs (.inl k)).isSome=(ZV d k).isSome
 |_,_, .nil=>⟨λa h=>(by cases h),rfl⟩
 |kv::kvs,kx::d, .cons h t=>by
  obtain⟨h1,h2⟩:=V1 (k:=k) t
  by_cases e:kx.1=k
  ·have e2:kv.1= .inl k:=by rw[h.1,e]
   rw[JF e2]
   have e3:ZV (kx::d) k=some kx.2:=by simp[ZV,List.find?_cons,e]
   rw[e3]
   exact⟨λa ha=>by cases ha;exact⟨_,rfl,h.2⟩,rfl⟩
  ·have e2:¬kv.1= .inl k:=by rw[h.1];exact λz=>e (Sum.inl.inj z)
   rw[Jj e2]
   have e3:ZV (kx::d) k=ZV d k:=by simp[ZV,List.find?_cons,e]
   rw[e3]
   exact⟨h1,h2⟩
theorem UO {r:Enc α}{H:Hp}{k:Int}:∀{kvs:List (Key×V)}{d:List (Int×α)},Paired (rDP r K H) kvs d->(kvs.any λkv=>decide (kv.1= .inl k))=d.any λkx=>decide (kx.1=k)
 |_,_, .nil=>rfl
 |kv::kvs,kx::d, .cons h t=>by
  rw[List.any_cons,List.any_cons,UO t,h.1]
  congr 1
  rw[Bool.eq_iff_iff];simp
theorem Gp {r:Enc α}{H:Hp}{k:Int}{v:V}{a:α}(hv:r K H v a){kvs:List (Key×V)}{d:List (Int×α)}(h:Paired (rDP r K H) kvs d):Paired (rDP r K H) (Ve kvs (.inl k) v) (GI d k a):=by
 unfold Ve GI
 rw[UO h]
 by_cases e:(d.any λkx=>decide (kx.1=k))=true
 ·rw[if_pos e,if_pos e]
  clear e
  induction h with
  |nil=>exact .nil
  | @cons kv kx l m h t ih=>
   refine .cons ?_ ih
   show rDP r K H (if kv.1= .inl k then(kv.1,v) else kv) (if kx.1=k then(kx.1,a) else kx)
   by_cases e:kx.1=k
   ·rw[if_pos (show kv.1= .inl k by rw[h.1,e]),if_pos e];exact⟨h.1,hv⟩
   ·rw[if_neg (show ¬kv.1= .inl k by rw[h.1];exact λz=>e (Sum.inl.inj z)),if_neg e];exact h
 ·rw[if_neg e,if_neg e]
  exact Paired.app h (.cons ⟨rfl,hv⟩ .nil)
theorem I9 {r:Enc α}:Ev K Er S OO OO σ Hr (oD r) (.ok []):=λH Q w s P=>λp hp=>P (.ref p) [(p, .dK [])] _ (XY hp _) (w.new hp rfl) (Ug hp) ⟨p,[],rfl, .nil,rfl⟩
theorem Kf {td ty:TE}{r:Enc α}[z:MonoE r]{md:Rs (List (Int×α))}{mk:Rs Int}(hd:EvB K Er S OO σ td (rD r) md)(hk:EvB K Er S OO σ ty Xa mk):EvB K Er S OO σ (LE td ty) r (md.bind λd=>mk.bind λk=>Ur d k):=λH Q w s P=>
 hd.run w s FB.tr P λd x H1 s1 w1 q1 ⟨p,kvs,e,q,pr⟩ P1=>hk.run w1 q1 FB.tr P1 λk y H2 s2 w2 q2 r2 P2=>by
  cases eg:ZV d k with
  |none=>rw[Ur,eg] at P2;exact P2.elim
  |some a=>
   rw[Ur,eg] at P2
   obtain⟨v,hv,rv⟩:=(V1 (k:=k) pr).1 a eg
   exact⟨p,v,e, .inl ⟨kvs, .inl k, .inl (s2 _ _ q),r2,hv.symm⟩,P2 _ H2 (XG.refl _) (z.mono s2 rv)⟩
variable {Fd:Ends->β->Hp->Prop}[fd:FdOk Fd]{u:TS}
theorem IJ {tv ty:TE}{r:Enc α}[z:MonoE r]{mv:Rs α}{mk:Rs Int}{f:List (Int×α)->Rs β}{v:V}{d:List (Int×α)}{C:List XF}(i k:Nat)(hσ:σ[i]?=some (some v))(hk:OO[k]?=some C)(h:∀x,S.p x->oD r K x v d C)(hv:EvS K Er S OO σ tv r mv)(hy:EvB K Er S OO σ ty Xa mk)
  (hr:∀d' C',Sv Er (S.addO K (oD r) v d' C') (OO.set k C') σ u Fd (f d')):Sv Er S OO σ (Jo (HS (Ks i) ty tv) u) Fd (mv.bind λa=>mk.bind λn=>chk (d.length<sizeLine) (f (GI d n a))):=λH D w s P=>
 hv.st w s P λa va H1 s1 w1 q1 r1 P1=>⟨v,hσ,hy.st w1 q1 P1 λn vn H2 s2 w2 q2 r2 P2=>by
  obtain⟨hsz,P2⟩:=PZ.chk P2
  obtain⟨p,kvs,e,pr,c⟩:=h _ q2
  subst c e
  have hH:H2 p=some (.dK kvs):=w2.tr (p, .dK kvs) (List.mem_flatten.mpr ⟨_,List.mem_of_getElem? hk,by simp⟩)
  obtain⟨w3,m3⟩:=E4 (D:=[]) (C':=[(p, .dK (Ve kvs (.inl n) va))]) (p:=p) (o:=.dK (Ve kvs (.inl n) va)) w2.nil hk (by simp) (by simp) (by simp) (λb hb=>by simpa using hb) (λc hc=>by
   have:c=(p, .dK (Ve kvs (.inl n) va)):=by simpa using hc
   rw[this];exact YV) (λc hc=>by
   have:c=(p, .dK (Ve kvs (.inl n) va)):=by simpa using hc
   rw[this];rfl)
  rw[Zo] at m3
  refine⟨p,_,rfl, .inl ⟨kvs, .inl n,hH,r2,by rw[Paired.len pr];exact hsz,rfl⟩,?_⟩
  exact hr _ _ _ D w3 ⟨S.mono _ _ m3 q2,⟨p,_,rfl,Gp (z.mono ((Xm s2).trans m3) r1) (Paired.imp2 (λ_ _ h=>⟨h.1,z.mono m3 h.2⟩) pr),rfl⟩⟩ (PZ.tr (fd.tr D) m3 P2)⟩
end
theorem Zg.ex {P:Program}{w:World}{H:Hp}{h:Heap}{a:Addr}{o:HO}(x:Zg P w H h a o):∃u,h.get? a=some u:=by
 cases o with
 |lst xs=>obtain⟨_,_,_,_,e⟩:=x;exact⟨_,e⟩
 |tup xs=>obtain⟨_,_,_,p⟩:=x;obtain⟨o,e,_⟩:=p;exact⟨_,e⟩
 |dK kvs=>obtain⟨_,_,_,_,o,_,_,e,_⟩:=x;exact⟨_,e⟩
 |dT kvs=>obtain⟨_,_,_,_,o,_,_,e,_⟩:=x;exact⟨_,e⟩
 |set S n=>obtain⟨o,_,_,_,e,_⟩:=x;exact⟨_,e⟩
 |ins C dx fs=>obtain⟨_,_,_,e,_⟩:=x;exact⟨_,e⟩
 |own y=>exact x
 |xd fs=>obtain⟨_,⟨_,_,_,e,_⟩,_⟩:=x;exact⟨_,e⟩
 |rng lo hi=>obtain⟨_,_,_,e⟩:=x;exact⟨_,e⟩
 |frz ob u=>exact⟨_,x.1⟩
 |tbl ps=>exact⟨_,x⟩
 |met f y=>exact⟨_,x⟩
 |ext φ=>exact x.2.1
theorem HOk.un0 {P:Program}{w:World}{H:Hp}{h:Heap}{a:Addr}(x:HOk P w H h)(e:h.get? a=none):H a=none:=by
 cases q:H a with
 |none=>rfl
 |some u=>obtain⟨v,hv⟩:=(x a u q).ex;rw[e] at hv;cases hv
structure Fl (h0 h:Heap)(H:Hp)(a T:Addr)(cls:Value):Prop where
 na:h0.get? a=none
 nT:h0.get? T=none
 fa:H a=none
 fT:H T=none
 ne:T≠a
 obj:∃oe vs oT ts a0,h.get? a=some oe/\oe.cls=cls/\vs[0]?=some a0/\oe.data= .fields vs/\vs[1]?=some (.ref T)/\h.get? T=some oT/\oT.data= .fields ts/\ts[3]?=some Value.none
noncomputable def MX (h:Heap)(fs:List Addr)(a T:Addr):Heap:=B9 h (λb=>if b∈fs∨b=a∨b=T then some (.own 0) else none)
theorem FC {h:Heap}{fs:List Addr}{a T b:Addr}{o:Obj}(e:h.get? b=some o)(n1:b∉fs)(n2:b≠a)(n3:b≠T):(MX h fs a T).get? b=some o:=
 Fo e (if_neg λz=>z.elim n1 λz=>z.elim n2 n3)
section
variable {P:Program}{w:World}{h0 h h' base:Heap}{H:Hp}{a T:Addr}{cls a0:Value}{l:List Env}
theorem Un.traced (hl:h.FunFrames base l)(keep:∀b o,b∉frs l->b≠a->b≠T->h.get? b=some o->h'.get? b=some o)(up:h.UpToSlots h'):Un (frs l) [a,T] H H h h' where
 keep:=λb o e _ hb hx=>keep b o hb (λz=>hx (by simp[z])) (λz=>hx (by simp[z])) e
 slot:=λb o e _ hb _=>by
  obtain⟨_,o2,ho2,hd2⟩:=hl.mem hb
  rw[e] at ho2;cases ho2
  exact up b o e hd2
 free:=λb o e n _=>n
 there:=λb o e hx=>by
  by_cases hb:b∈frs l
  ·obtain⟨_,o2,ho2,hd2⟩:=hl.mem hb
   obtain⟨sl,q⟩:=up b o2 ho2 hd2
   exact⟨_,q⟩
  ·exact⟨o,keep b o hb (λz=>hx (by simp[z])) (λz=>hx (by simp[z])) e⟩
 tups:=λ_ _ q=>q
 frzs:=λ_ _ _ q=>q
 tbls:=λ_ ps q=>⟨#[],by simpa using q⟩
theorem HOk.traced (hok:HOk P w H h)(hfn:∀b∈frs l,H b=none)(fa:H a=none)(fT:H T=none)(keep:∀b o,b∉frs l->b≠a->b≠T->h.get? b=some o->h'.get? b=some o):HOk P w H h':=λb o e=>by
 refine(hok b o e).stay (λc u hc q=>?_) (λ_ q=>q) λ_ _ q=>q
 have hn:H c≠none:=by
  rcases hc with z |z
  ·rw[z,e];exact λy=>nomatch y
  ·rw[z];exact λy=>nomatch y
 exact keep c u (λz=>hn (hfn c z)) (λz=>hn (z▸fa)) (λz=>hn (z▸fT)) q
theorem Fl.after (x:Fl h0 h H a T cls)(hl:h.FunFrames base l)(hfn:∀b∈frs l,H b=none)(hok:HOk P w H h)(th:∀b o,h0.get? b=some o->∃o',h.get? b=some o')
  (st:(MX h (frs l) a T).StaysIn h')(tr:h'.TracedW (MX h (frs l) a T) a cls a0)(up:h.UpToSlots h'):∃T',Fl h0 h' H a T' cls/\HOk P w H h'/\Un (frs l) [a,T] H H h h':=by
 obtain⟨oe,vs,T',oT,ts,ha,⟨hc,h0'⟩,hd,h1,hnT,hne,hT,hdT,h3⟩:=tr
 have key:T'=T∨h.get? T'=none:=by
  cases q:h.get? T' with
  |none=>exact .inr rfl
  |some o=>
   by_cases hf:T'∈frs l
   ·obtain⟨_,o2,ho2,hd2⟩:=hl.mem hf
    obtain⟨sl,e2⟩:=up T' o2 ho2 hd2
    rw[hT] at e2;cases e2
    exact absurd hdT (hd2 ts)
   ·by_cases hz:T'=T
    ·exact .inl hz
    ·rw[FC q hf hne hz] at hnT;cases hnT
 have keep:∀b o,b∉frs l->b≠a->b≠T->h.get? b=some o->h'.get? b=some o:=λb o n1 n2 n3 e=>st b o (FC e n1 n2 n3)
 refine⟨T',⟨x.na,?_,x.fa,?_,hne,oe,vs,oT,ts,a0,ha,hc,h0',hd,h1,hT,hdT,h3⟩,hok.traced hfn x.fa x.fT keep,Un.traced hl keep up⟩
 ·rcases key with e |e
  ·rw[e];exact x.nT
  ·cases q:h0.get? T' with
   |none=>rfl
   |some o=>obtain⟨o',e'⟩:=th _ _ q;rw[e] at e';cases e'
 ·rcases key with e |e
  ·rw[e];exact x.fT
  ·exact hok.un0 e
end
section
variable {fs fs2 ex ex2:List Addr}{H0 H H':Hp}{h0 h h':Heap}
end
section
variable {P:Program}{w:World}{K:PySem.W.Frag}{mg:Str->Option Value}{base:Heap}{N:List Str}{qual:Str}{scope:Scope}{f:Addr}{cd:Value}{A:Around}{outer:List Env}{s0:Shared}{H0:Hp}{E:XK}
end
section
variable {X:Cx}{k j:Nat}{x:Str}{ps:List Str}{sp:Sp}{e:Expr}{es:List Expr}{t:TA}{p pos:Pos}{E:XK}
end
section
variable {X:Cx}{E:XK}{C:Addr}{x:Str}{e:Expr}{es:List Expr}{t:TA}{np cpos pos:Pos}
end
noncomputable abbrev TJ:=St->Hp->(Hp->Prop)->Prop
section
variable {X:Cx}{e:Expr}{es:List Expr}{te:TE}{t:TJ}{n:Nat}{pos p:Pos}
end
noncomputable abbrev Cx.held (X:Cx)(a:Addr)(pn:List (Addr×Obj)):Cx:={X with A:=X.A.mark (some (.ref a)),calm:=false,pn:=pn,xe:=λ_ _=>False}
theorem Cx.Ok.held {X:Cx}(ok:X.Ok)(a:Addr)(pn:List (Addr×Obj)):(X.held a pn).Ok:=
 ⟨ok.mod,ok.kind,ok.glob,ok.blt,ok.above,ok.inj,ok.has,ok.cab,(λz=>nomatch z),ok.frames,ok.stk,ok.exf,ok.bs,ok.bsz,ok.noex,ok.exfs,ok.funs,ok.frf⟩
section
variable {X:Cx}{pins:List (Addr×Obj)}{σ:St}{H:Hp}{s:Shared}{h':Heap}
end
section
variable {X:Cx}{body suite:List Stmt}{b₀:Stmt}{cn n:Str}{Ch:Addr}{i:Nat}{tb:XK->TS}{ts:Addr->Addr->TS}{np hpos pos:Pos}
end
section
variable {K:PySem.W.Frag}{Er:Exc->Hp->Prop}{S:SC}{OO OO' OO2:List (List XF)}{σ:St}{α β γ ρ ι:Type}{α1 α2 α3 α4 α5 α6:Type}{mg:Str->Option Value}{E:XK}
noncomputable def FJ (Q:Hp->Prop)(_:Unit)(H:Hp):Prop:=∀ H',XG H H'->Q H'
theorem FJ.tr {Q:Hp->Prop}:∀(b:Unit) (H H':Hp),XG H H'->FJ Q b H->FJ Q b H':=λ_ _ _ s h H2 s2=>h H2 (s.trans s2)
variable {Fd:Ends->β->Hp->Prop}[fd:FdOk Fd]{u:TS}
section
variable {te:XK->TE}{m:Rs α}{ts:Addr->Addr->TS}{N i:Nat}{Ch:Addr}{o:OE ρ}{g:Exc->Rs ρ}{ns:List Str}{d:Str}
end
end
end L2
namespace L2
open PySem PySem.Spec PyProof.Rows PySem.W PySem.Builtin PySem.Builtin.ObjectAttr PySem.Builtin.Getset_descriptor
section
variable {prog:Program}{w:World}{A:Around}{E:Value->Shared->Prop}{K:Frag}{x D:Addr}{s:Shared}
end
theorem LJ {X:Cx}{x:Str}{v:V}{pos:Pos}(h:∃u,X.mg x=some u/\Yy v u)(hg:Gl X x)(hd:(x==("__debug__":Str))=false:=by decide):PE X (.Name x pos) (tC v):=by
 obtain⟨u,hm,r⟩:=h
 exact HA hg hm r hd
theorem PS.nox {X:Cx}{st:Stmt}{t:TS}(h:PS X.nox st t):PS X st t:=λpins s σ H D I hw=>
 wpAny_mono (h pins s σ H D (I.wish _) hw) (λ_ _ q=>q.unwish) λ_ _ z=>False.elim z
section
variable {K:PySem.W.Frag}{C D:Addr}{b:Bool}
end
end L2
namespace L2
open PySem PySem.Spec PyProof.Rows
theorem P3.dropLast {α β γ:Type}{F:α->β->γ->Prop}:∀{l m n},P3 F l m n->P3 F l.dropLast m.dropLast n.dropLast
 |_,_,_, .nil=>.nil
 |_,_,_, .cons _ .nil=>.nil
 |_,_,_, .cons r (.cons q t)=>.cons r (P3.dropLast (.cons q t))
section
variable {α β:Type}{K:PySem.W.Frag}{Er:Exc->Hp->Prop}{S:SC}{OO:List (List XF)}{σ:St}{Fd:Ends->β->Hp->Prop}[fd:FdOk Fd]{u:TS}
end
section
variable {α β γ δ ε:Type}
structure Crs (r:Enc α)(q:Enc β)(d:Nat):Prop where
 no:∀{X:Cx}{pins:List (Addr×Obj)}{σ:St}{H:Hp}{s:Shared}{x:V}{a:α}{b:β},Inv X pins σ H s->r X.K H x a->q X.K H x b->False
 lr:∀{X:Cx}{pins:List (Addr×Obj)}{σ:St}{H:Hp}{s:Shared}{x y:V}{v u:Value}{a:α}{b:β}{A:Around},Inv X pins σ H s->Yy x v->Yy y u->r X.K H x a->q X.K H y b->A.units+d<cLine->SeqAt.EqAt A s v u false/\SeqAt.RcAt A s v u false/\SeqAt.RcNeAt A s v u true
 rl:∀{X:Cx}{pins:List (Addr×Obj)}{σ:St}{H:Hp}{s:Shared}{x y:V}{v u:Value}{a:α}{b:β}{A:Around},Inv X pins σ H s->Yy x v->Yy y u->q X.K H x b->r X.K H y a->A.units+d<cLine->SeqAt.EqAt A s v u false/\SeqAt.RcAt A s v u false/\SeqAt.RcNeAt A s v u true
theorem Crs.up {r:Enc α}{q:Enc β}{d e:Nat}(c:Crs r q d)(h:d<=e):Crs r q e:=⟨c.no,λI rx ry h1 h2 hu=>c.lr I rx ry h1 h2 (by omega),λI rx ry h1 h2 hu=>c.rl I rx ry h1 h2 (by omega)⟩
end
section
variable {K:PySem.W.Frag}{Er:Exc->Hp->Prop}{S:SC}{OO OO' OO1 OO2:List (List XF)}{σ:St}{α β γ ρ ι δ ε ζ:Type}
variable {Fd:Ends->β->Hp->Prop}[fd:FdOk Fd]{u:TS}
noncomputable def getL:α ⊕ γ->Rs α
 | .inl a=>.ok a
 | .inr _=>.bad
noncomputable def getR:α ⊕ γ->Rs γ
 | .inl _=>.bad
 | .inr b=>.ok b
end
end L2
namespace L2
theorem Ly {α:Type}{us:List α}(h:us.length=1):∃a,us=[a]:=List.length_eq_one_iff.mp h
theorem Ma {α:Type}{us:List α}(h:us.length=2):∃a0 a1,us=[a0,a1]:=by
 cases us with
 |nil=>cases h
 |cons a0 t=>
  obtain⟨a1,rfl⟩:=Ly (Nat.succ.inj h)
  exact⟨a0,a1,rfl⟩
theorem Mc {α:Type}{us:List α}(h:us.length=3):∃a0 a1 a2,us=[a0,a1,a2]:=by
 cases us with
 |nil=>cases h
 |cons a0 t=>
  obtain⟨a1,a2,rfl⟩:=Ma (Nat.succ.inj h)
  exact⟨a0,a1,a2,rfl⟩
theorem LU {α:Type}{us:List α}(h:us.length=4):∃a0 a1 a2 a3,us=[a0,a1,a2,a3]:=by
 cases us with
 |nil=>cases h
 |cons a0 t=>
  obtain⟨a1,a2,a3,rfl⟩:=Mc (Nat.succ.inj h)
  exact⟨a0,a1,a2,a3,rfl⟩
theorem MV {α:Type}{us:List α}(h:us.length=5):∃a0 a1 a2 a3 a4,us=[a0,a1,a2,a3,a4]:=by
 cases us with
 |nil=>cases h
 |cons a0 t=>
  obtain⟨a1,a2,a3,a4,rfl⟩:=LU (Nat.succ.inj h)
  exact⟨a0,a1,a2,a3,a4,rfl⟩
end L2
namespace L2
open PySem PySem.Spec PyProof.Rows
section
variable {prog:Program}{w:World}{A:Around}{E:Value->Shared->Prop}
end
section
variable {X:Cx}{pos:Pos}
end
section
variable {K:PySem.W.Frag}{Er:Exc->Hp->Prop}{S:SC}{OO OO' OO1 OO2:List (List XF)}{σ:St}{α β γ ρ ι δ ε ζ:Type}
variable {Fd:Ends->β->Hp->Prop}[fd:FdOk Fd]{u:TS}
theorem Io {r:Enc α}:Ev K Er S OO OO σ (tC .non) (oF (Hq r)) (.ok none):=λH Q w s P=>P _ [] H (XG.refl _) w.nil (by rw[Zo];exact XG.refl _) ⟨rfl,rfl⟩
theorem Ec {te:TE}{r:Enc α}{m:Rs α}(hn:∀{K h v a C},oF r K h v a C->v≠ .non)(he:Ev K Er S OO OO' σ te (oF r) m):Ev K Er S OO OO' σ te (oF (Hq r)) (m.bind λa=>.ok (some a)):=λH Q w s P=>by
 refine he H Q w s ?_
 cases m with
 |bad=>exact P
 |err x=>exact P
 |ok a=>exact λv C H' s' w' m' ho=>P v C H' s' w' m' ⟨ho.1,hn ho,ho.2⟩
end
section
variable {X:Cx}
noncomputable def ipM:TIp:=λx y H Q=>∃ i j,x= .int i/\y= .int j/\LI i j/\Q (.int (i*j)) H
theorem Mq:PIp X .Mult ipM:=by
 intro pins s σ H x y v u Q I r1 r2 h
 obtain⟨i,j,e1,e2,hc,q⟩:=h
 subst e1;subst e2
 obtain⟨t,rfl⟩:=r1
 obtain⟨t',rfl⟩:=r2
 exact PySem.AutoIntOps.imul_0 ⟨.int _,H,I.tok _,⟨_,rfl⟩,q⟩ hc.ok
end
section
variable {K:PySem.W.Frag}{Er:Exc->Hp->Prop}{S:SC}{OO OO' OO1 OO2:List (List XF)}{σ:St}{α β γ ρ ι δ ε ζ:Type}
variable {Fd:Ends->β->Hp->Prop}[fd:FdOk Fd]{u:TS}
theorem Le {te:TE}{m:Rs Int}{f:Int->Rs β}{v:V}{a:Int}(i:Nat)(hσ:σ[i]?=some (some v))(h:∀x,S.p x->Xa K x v a)(he:EvB K Er S OO σ te Xa m)
  (hr:∀b v,Sv Er (S.add K Xa v b) OO (σ.set i (some v)) u Fd (f b)):Sv Er S OO σ (Jo (MT i te ipM) u) Fd (m.bind λb=>(QG a b).bind f):=λH D w s P=>
 ⟨v,hσ,he.st w s P λb y H1 s1 w1 q1 r1 P1=>by
  cases e:QG a b with
  |bad=>rw[e] at P1;exact P1.elim
  |err x=>exact absurd e Q3
  |ok c=>
   rw[e] at P1
   obtain⟨h1,h2⟩:=ZQ e
   cases h2
   exact⟨a,b,h _ s,r1,h1,hr _ _ H1 D w1 ⟨q1,rfl⟩ P1⟩⟩
end
set_option maxRecDepth 100000
section
variable {prog:Program}{w:World}{A:Around}{E:Value->Shared->Prop}{s:Shared}
end
section
variable {prog:Program}{w:World}{A:Around}{R:Result->Shared->Prop}{K:Type}[DecidableEq K]{knd:KeyKind prog w K}
noncomputable def ES (acc kv:List (K×Value)):List (K×Value):=kv.foldl (λa p=>stored a p.1 p.2) acc
end
section
variable {X:Cx}
noncomputable def Mi (acc kvs:List (Key×V)):List (Key×V):=kvs.foldl (λa p=>Ve a p.1 p.2) acc
theorem KV.all {kvs:List (Key×V)}{vs:List (Key×Value)}(t:KV kvs vs):∀{acc:List (Key×V)}{acc':List (Key×Value)},KV acc acc'->KV (Mi acc kvs) (ES acc' vs):=by
 induction t with
 |nil=>intro acc acc' h;exact h
 | @cons p q kvs vs r _ ih=>
  intro acc acc' h
  have h2:=h.put p.1 r.2
  have e:stored acc' p.1 q.2=stored acc' q.1 q.2:=by rw[r.1]
  rw[e] at h2
  exact ih h2
end
section
variable {X:Cx}{pins:List (Addr×Obj)}{σ:St}{H:Hp}{s:Shared}{d:Addr}{o:Obj}{kvs:List (Key×V)}
theorem KV.key {kvs:List (Key×V)}{vs:List (Key×Value)}(h:KV kvs vs):∀{i:Nat} (h1:i<kvs.length) (h2:i<vs.length),(kvs[i]).1=(vs[i]).1:=by
 induction h with
 |nil=>intro i h1;exact absurd h1 (Nat.not_lt_zero _)
 |cons r _ ih=>
  intro i h1 h2
  cases i with
  |zero=>exact r.1
  |succ i=>exact ih (Nat.lt_of_succ_lt_succ h1) (Nat.lt_of_succ_lt_succ h2)
end
section
variable {X:Cx}
end
section
variable {K:PySem.W.Frag}{Er:Exc->Hp->Prop}{S:SC}{OO OO' OO2:List (List XF)}{σ:St}{α β γ ρ ι δ ε:Type}
variable {Fd:Ends->β->Hp->Prop}[fd:FdOk Fd]{u:TS}
theorem Fu {H:Hp}{xs:List V}{ns:List Int}(h:Paired (Xa K H) xs ns):xs=ns.map V.int:=by
 induction h with
 |nil=>rfl
 |cons r _ ih=>rw[List.map_cons,ih,show _=V.int _ from r]
end
section
variable {prog:Program}{w:World}{A:Around}
end
section
variable {X:Cx}
end
section
variable {K:PySem.W.Frag}{Er:Exc->Hp->Prop}{S:SC}{OO OO' OO1 OO2:List (List XF)}{σ:St}{α β γ ρ ι δ ε:Type}
variable {Fd:Ends->β->Hp->Prop}[fd:FdOk Fd]{u:TS}
end
section
variable {X:Cx}
end
section
variable {K:PySem.W.Frag}{Er:Exc->Hp->Prop}{S:SC}{OO OO' OO1 OO2:List (List XF)}{σ:St}{α β γ ρ ι δ ε:Type}
end
section
variable {K:PySem.W.Frag}{Er:Exc->Hp->Prop}{S:SC}{OO OO' OO1 OO2:List (List XF)}{σ:St}{α β γ ρ ι δ ε:Type}
noncomputable def Hl (K:PySem.W.Frag):List V->Hp->VK->Prop:=λxs H Q=>∃ p ys,xs=[.ref p]/\((SqL K H p ys/\∀l,H l=none->Q (.ref l) (upd H l (.tup ys)))∨(SqT K H p ys/\Q (.ref p) H))
theorem Q4 {X:Cx}(K:PySem.W.Frag)(h:X.K=K):Qx X (.type "tuple") (Hl K):=by subst h;exact UX
theorem UL {ta:TE}{r:Enc α}[z:MonoE r]{ma:Rs (List α)}(ha:EvB K Er S OO σ ta (rV r) ma):EvB K Er S OO σ (tCB (Hl K) (XM ta Qa)) (rPL r) (ma.bind λa=>.ok a):=λH Q w s P=>
 ha.run w s FB.tr P λa x H1 s1 w1 q1 r9 P1=>by obtain⟨p,xs,e,q,pr⟩:=r9;exact⟨p,xs,by rw[e], .inl ⟨SqL.of q,λl hl=>P1 (.ref l) _ (XY hl _) ⟨l,xs,rfl,YV,Paired.imp2 (λ_ _ h=>z.mono (XY hl _) h) pr⟩⟩⟩
noncomputable def tk (k:List Int):List Key:=k.map Sum.inl
theorem Bz {a b:List Int}(h:tk a=tk b):a=b:=(List.map_inj_right (λ_ _ h=>Sum.inl.inj h)).mp h
theorem Mv (k:List Int):(tk k).map kV=k.map V.int:=by unfold tk;rw[List.map_map];rfl
noncomputable def IP {α:Type}(r:Enc α)(K:PySem.W.Frag)(H:Hp)(kv:List Key×V)(kx:List Int×α):Prop:=kv.1=tk kx.1/\r K H kv.2 kx.2
noncomputable def rDT {α:Type}(r:Enc α):Enc (List (List Int×α)):=λK H v d=>∃ p kvs,v= .ref p/\H p=some (.dT kvs)/\Paired (IP r K H) kvs d
noncomputable def oDT {α:Type}(r:Enc α):OE (List (List Int×α)):=λK h v d C=>∃ p kvs,v= .ref p/\Paired (IP r K h) kvs d/\C=[(p, .dT kvs)]
instance {r:Enc α}[m:MonoE r]:MonoE (rDT r):=⟨λs r9=>by obtain⟨p,kvs,e,q,pr⟩:=r9;exact⟨p,kvs,e,s _ _ q,Paired.imp2 (λ_ _ z=>⟨z.1,m.mono s z.2⟩) pr⟩⟩
instance {r:Enc α}[m:MonoE r]:MonoO (oDT r):=⟨λs r9=>by obtain⟨p,kvs,e,pr,c⟩:=r9;exact⟨p,kvs,e,Paired.imp2 (λ_ _ z=>⟨z.1,m.mono s z.2⟩) pr,c⟩⟩
instance {r:Enc α}[m:FlatE r]:FlatO (oDT r):=⟨λs r9=>by obtain⟨p,kvs,e,pr,c⟩:=r9;exact⟨p,kvs,e,Paired.imp2 (λ_ _ z=>⟨z.1,m.flat s z.2⟩) pr,c⟩⟩
instance {r:Enc α}[m:MonoE r]:FrzC (oDT r) (rDT r):=⟨λr9 s hc=>by obtain⟨p,kvs,e,pr,c⟩:=r9;exact⟨p,kvs,e,hc (p, .dT kvs) (by rw[c];simp),Paired.imp2 (λ_ _ z=>⟨z.1,m.mono s z.2⟩) pr⟩⟩
noncomputable def VJ (d:List (List Int×α))(k:List Int):Option α:=(d.find? λkv=>decide (kv.1=k)).map (·.2)
noncomputable def Uq (d:List (List Int×α))(k:List Int)(v:α):List (List Int×α):=if(d.any λkv=>decide (kv.1=k))=true then d.map (λkv=>if kv.1=k then(kv.1,v) else kv) else d++[(k,v)]
theorem GU {r:Enc α}{H:Hp}{k:List Int}{kvs:List (List Key×V)}{d:List (List Int×α)}(h:Paired (IP r K H) kvs d):(Gk kvs (tk k)).isSome=(VJ d k).isSome:=by
 induction h with
 |nil=>rfl
 | @cons kv kx _ d h t ih=>
  by_cases e:kx.1=k
  ·rw[JF (show kv.1=tk k by rw[h.1,e]),show VJ (kx::d) k=some kx.2 by simp[VJ,List.find?_cons,e]]
   rfl
  ·rw[Jj (show ¬kv.1=tk k from λz=>e (Bz (h.1.symm.trans z))),show VJ (kx::d) k=VJ d k by simp[VJ,List.find?_cons,e]]
   exact ih
theorem Gq {r:Enc α}{H:Hp}{k:List Int}{kvs:List (List Key×V)}{d:List (List Int×α)}(h:Paired (IP r K H) kvs d):(kvs.any λkv=>decide (kv.1=tk k))=d.any λkx=>decide (kx.1=k):=by
 induction h with
 |nil=>rfl
 | @cons kv kx _ _ h t ih=>
  rw[List.any_cons,List.any_cons,ih,h.1]
  congr 1
  rw[Bool.eq_iff_iff,decide_eq_true_eq,decide_eq_true_eq]
  exact⟨Bz,λz=>by rw[z]⟩
theorem GY {r:Enc α}{H:Hp}{k:List Int}{v:V}{a:α}(hv:r K H v a){kvs:List (List Key×V)}{d:List (List Int×α)}(h:Paired (IP r K H) kvs d):Paired (IP r K H) (Ve kvs (tk k) v) (Uq d k a):=by
 unfold Ve Uq
 rw[Gq h]
 by_cases e:(d.any λkx=>decide (kx.1=k))=true
 ·rw[if_pos e,if_pos e]
  clear e
  induction h with
  |nil=>exact .nil
  | @cons kv kx l m h t ih=>
   refine .cons ?_ ih
   show IP r K H (if kv.1=tk k then(kv.1,v) else kv) (if kx.1=k then(kx.1,a) else kx)
   by_cases e:kx.1=k
   ·rw[if_pos (show kv.1=tk k by rw[h.1,e]),if_pos e];exact⟨h.1,hv⟩
   ·rw[if_neg (show ¬kv.1=tk k from λz=>e (Bz (h.1.symm.trans z))),if_neg e];exact h
 ·rw[if_neg e,if_neg e]
  exact Paired.app h (.cons ⟨rfl,hv⟩ .nil)
theorem Ee {r:Enc α}:Ev K Er S OO OO σ Ho (oDT r) (.ok []):=λH Q w s P=>λp hp=>P (.ref p) [(p, .dT [])] _ (XY hp _) (w.new hp rfl) (Ug hp) ⟨p,[],rfl, .nil,rfl⟩
theorem BJ {td ty:TE}{r:Enc α}{md:Rs (List (List Int×α))}{mk:Rs (List Int)}(hk:EvB K Er S OO σ ty (rPL Xa) mk)(hd:EvB K Er S OO σ td (rDT r) md):EvB K Er S OO σ (Br ty td) XQ (mk.bind λk=>md.bind λd=>.ok (!(VJ d k).isSome)):=λH Q w s P=>
 hk.run w s FB.tr P λk y H1 s1 w1 q1 r9 P1=>by obtain⟨b,xs,eb,hb,pk⟩:=r9;exact hd.run w1 q1 FB.tr P1 λd x H2 s2 w2 q2 r9 P2=>by obtain⟨p,kvs,e,q,pr⟩:=r9;exact⟨p,Gk kvs (tk k),e, .inr ⟨kvs,tk k,b, .inl q,eb,by rw[Mv, ←Fu pk];exact s2 _ _ hb,rfl⟩,P2 _ H2 (XG.refl _) (by rw[GU (k:=k) pr];rfl)⟩
variable {Fd:Ends->β->Hp->Prop}[fd:FdOk Fd]{u:TS}
theorem Hb {tv ty:TE}{r:Enc α}[z:MonoE r]{mv:Rs α}{mk:Rs (List Int)}{f:List (List Int×α)->Rs β}{v:V}{d:List (List Int×α)}{C:List XF}(i k:Nat)(hσ:σ[i]?=some (some v))(hk:OO[k]?=some C)(h:∀x,S.p x->oDT r K x v d C)(hv:EvS K Er S OO σ tv r mv)(hy:EvB K Er S OO σ ty (rPL Xa) mk)
  (hr:∀d' C',Sv Er (S.addO K (oDT r) v d' C') (OO.set k C') σ u Fd (f d')):Sv Er S OO σ (Jo (HS (Ks i) ty tv) u) Fd (mv.bind λa=>mk.bind λn=>chk (d.length<sizeLine) (f (Uq d n a))):=λH D w s P=>
 hv.st w s P λa va H1 s1 w1 q1 r1 P1=>⟨v,hσ,hy.st w1 q1 P1 λn vn H2 s2 w2 q2 r2 P2=>by
  obtain⟨hsz,P2⟩:=PZ.chk P2
  obtain⟨b,xs,eb,hb,pk⟩:=r2
  obtain⟨p,kvs,e,pr,c⟩:=h _ q2
  subst c e
  have hH:H2 p=some (.dT kvs):=w2.tr (p, .dT kvs) (List.mem_flatten.mpr ⟨_,List.mem_of_getElem? hk,by simp⟩)
  obtain⟨w3,m3⟩:=E4 (D:=[]) (C':=[(p, .dT (Ve kvs (tk n) va))]) (p:=p) (o:=.dT (Ve kvs (tk n) va)) w2.nil hk (by simp) (by simp) (by simp) (λb hb=>by simpa using hb) (λc hc=>by
   have:c=(p, .dT (Ve kvs (tk n) va)):=by simpa using hc
   rw[this];exact YV) (λc hc=>by
   have:c=(p, .dT (Ve kvs (tk n) va)):=by simpa using hc
   rw[this];rfl)
  rw[Zo] at m3
  refine⟨p,_,rfl, .inr ⟨kvs,tk n,b,hH,eb,by rw[Mv, ←Fu pk];exact hb,by rw[Paired.len pr];exact hsz,rfl⟩,?_⟩
  exact hr _ _ _ D w3 ⟨S.mono _ _ m3 q2,⟨p,_,rfl,GY (z.mono ((Xm s2).trans m3) r1) (Paired.imp2 (λ_ _ h=>⟨h.1,z.mono m3 h.2⟩) pr),rfl⟩⟩ (PZ.tr (fd.tr D) m3 P2)⟩
end
section
variable {X:Cx}{α:Type}[DecidableEq α]{r:Enc α}{d:Nat}
end
section
variable {K:PySem.W.Frag}{Er:Exc->Hp->Prop}{S:SC}{OO OO' OO1 OO2:List (List XF)}{σ:St}{α β γ ρ ι δ ε:Type}
end
section
variable {X:Cx}{pins:List (Addr×Obj)}{σ:St}{H:Hp}{s:Shared}{h':Heap}
theorem Inv.turns {t':Nat}{ch:List Addr}(I:Inv X pins σ H s)(k:∀b o,b∉ch->s.heap.get? b=some o->h'.get? b=some o)(hf:∀b∈ch,Fq X pins H b):Inv X pins σ H {s with heap:=h',toks:=t'}:=by
 have nit:∀b o,H b=some o->b∉ch:=λb o e z=>by rw[(hf b z).1] at e;cases e
 refine I.step (g':=s.gens) (d':=s.drawn) (ch:=ch) (λb hb=>?_) (λb o _ _ hc e _=>k b o hc e) (λb o _ _ hc e _=>⟨o.slots,k b o hc e⟩)
  (λb o _ e n=>n) (λb o hc e=>⟨o,k b o hc e⟩) (λb xs e=>e) (λb o xs e=>e) (λb ps e=>⟨#[],by rw[e];simp⟩) (λm hm=>?_) (λb v e=>?_) I.bare
 ·obtain⟨f0,f1,f2,f3,f4,f5⟩:=hf b hb
  exact⟨f3,f1,f4,f5⟩
 ·obtain⟨o,es,ep,ho,r⟩:=hm
  exact⟨o,es,ep,k _ o (λz=>(hf _ z).2.1 rfl) ho,r⟩
 ·refine(I.hok b v e).stay (λc o hc q=>k c o ?_ q) (λc q=>q) λc xs q=>q
  rcases hc with z |z
  ·rw[z];exact nit b v e
  ·exact nit c _ z
end
section
variable {X:Cx}{elts:List Expr}{k:Nat}{pos0:Pos}
end
section
variable {K:PySem.W.Frag}{Er:Exc->Hp->Prop}{S:SC}{OO OO' OO1 OO2:List (List XF)}{σ:St}{α β γ ρ ι δ ε:Type}
end
section
variable {X:Cx}
end
section
variable {K:PySem.W.Frag}{Er:Exc->Hp->Prop}{S:SC}{OO OO' OO1 OO2:List (List XF)}{σ:St}{α β γ ρ ι δ ε:Type}
variable {Fd:Ends->β->Hp->Prop}[fd:FdOk Fd]{u:TS}
end
section
variable {K:PySem.W.Frag}{Er:Exc->Hp->Prop}{S:SC}{OO OO' OO1 OO2:List (List XF)}{σ:St}{α β γ ρ ι δ ε:Type}{u:TS}
end
section
variable {X:Cx}
end
section
variable {K:PySem.W.Frag}{Er:Exc->Hp->Prop}{S:SC}{OO:List (List XF)}{σ:St}
end
section
variable {X:Cx}{pins:List (Addr×Obj)}{σ:St}{H:Hp}{s:Shared}{d:Addr}{o:Obj}{kvs:List (Key×V)}
end
section
variable {X:Cx}
end
section
variable {K:PySem.W.Frag}{Er:Exc->Hp->Prop}{S:SC}{OO OO' OO1 OO2 OO3:List (List XF)}{σ:St}{α β γ ρ ι δ ε ζ:Type}
variable {Fd:Ends->β->Hp->Prop}[fd:FdOk Fd]{u:TS}
noncomputable def oT3 (o:OE α)(q:OE β)(t:OE γ):OE (α×β×γ):=λK h v a C=>∃ p x y z C1 C2 C3,v= .ref p/\h p=some (.tup [x,y,z])/\o K h x a.1 C1/\q K h y a.2.1 C2/\t K h z a.2.2 C3/\C=C1++(C2++C3)
instance {o:OE α}{q:OE β}{t:OE γ}[m:MonoO o][n:MonoO q][k:MonoO t]:MonoO (oT3 o q t):=⟨λs r9=>by obtain⟨p,x,y,z,C1,C2,C3,e,h,h1,h2,h3,c⟩:=r9;exact⟨p,x,y,z,C1,C2,C3,e,s _ _ h,m.mono s h1,n.mono s h2,k.mono s h3,c⟩⟩
instance {o:OE α}{q:OE β}{t:OE γ}[m:FlatO o][n:FlatO q][k:FlatO t]:FlatO (oT3 o q t):=⟨λs r9=>by obtain⟨p,x,y,z,C1,C2,C3,e,h,h1,h2,h3,c⟩:=r9;exact⟨p,x,y,z,C1,C2,C3,e,s _ _ h rfl,m.flat s h1,n.flat s h2,k.flat s h3,c⟩⟩
instance {o:OE α}{q:OE β}{t:OE γ}{ro:Enc α}{rq:Enc β}{rt:Enc γ}[m:FrzC o ro][n:FrzC q rq][k:FrzC t rt]:FrzC (oT3 o q t) (rP3 ro rq rt):=⟨λ⟨p,x,y,z,C1,C2,C3,e,h,h1,h2,h3,c⟩ s hc=>by
 subst c
 exact⟨p,x,y,z,e,s _ _ h,m.frz h1 s λc hm=>hc c (by simp[hm]),n.frz h2 s λc hm=>hc c (by simp[hm]),k.frz h3 s λc hm=>hc c (by simp[hm])⟩⟩
theorem QO {ta tb tc:TE}{o:OE α}{q:OE β}{t:OE γ}[zo:MonoO o][zq:MonoO q][zt:MonoO t]{ma:Rs α}{mb:Rs β}{mc:Rs γ}(ha:Ev K Er S OO OO1 σ ta o ma)(hb:∀C,Ev K Er S (C::OO1) (C::OO2) σ tb q mb)(hc:∀C C',Ev K Er S (C'::C::OO2) (C'::C::OO3) σ tc t mc):
  Ev K Er S OO OO3 σ (Lr (XM ta (XM tb (XM tc Qa)))) (oT3 o q t) (ma.bind λa=>mb.bind λb=>mc.bind λc=>.ok (a,b,c)):=λH Q w s P=>by
 refine ha H _ w s ?_
 cases em:ma with
 |bad=>rw[em] at P;exact P
 |err x=>rw[em] at P;exact P
 |ok a=>
  rw[em] at P
  intro v C H1 s1 w1 m1 ho
  refine hb C H1 _ w1 (S.mono _ _ m1 s) ?_
  have P1:PZ Er (FO K OO OO3 (oT3 o q t) Q) H (mb.bind λb=>mc.bind λc=>.ok (a,b,c)):=P
  cases en:mb with
  |bad=>rw[en] at P1;exact P1
  |err x=>rw[en] at P1;exact λH2 s2=>P1 H2 (s1.trans s2)
  |ok b=>
   rw[en] at P1
   have P2:PZ Er (FO K OO OO3 (oT3 o q t) Q) H (mc.bind λc=>.ok (a,b,c)):=P1
   intro v2 C2 H2 s2 w2 m2 ho2
   refine hc C C2 H2 _ w2 (S.mono _ _ (m1.trans m2) s) ?_
   cases ek:mc with
   |bad=>rw[ek] at P2;exact P2
   |err x=>rw[ek] at P2;exact λH3 s3=>P2 H3 (s1.trans (s2.trans s3))
   |ok c=>
    rw[ek] at P2
    have P3:FO K OO OO3 (oT3 o q t) Q (a,b,c) H:=P2
    intro v3 C3 H3 s3 w3 m3 ho3
    refine⟨by show 3<=sizeLine;decide,λp hp=>?_⟩
    have pe:((C++(C2++C3))::OO3).flatten.Perm (C3::C2::C::OO3).flatten:=by
     have q:(C++(C2++C3)).Perm (C3++(C2++C)):=by
      rw[←List.append_assoc C3]
      exact List.perm_append_comm.trans ((List.perm_append_comm (l₁:=C2) (l₂:=C3)).append_right _)
     have:=q.append_right OO3.flatten
     simpa[List.append_assoc] using this
    have s4:XG H3 (upd H3 p (.tup [v,v2,v3])):=XY hp _
    have w4:=(w3.keep s4).of pe
    have m4:XG (hid H3 (C3::C2::C::OO3)) (hid (upd H3 p (.tup [v,v2,v3])) ((C++(C2++C3))::OO3)):=by rw[Yc pe];exact Xm s4
    refine P3 (.ref p) (C++(C2++C3)) _ (s1.trans (s2.trans (s3.trans s4))) w4 (m1.trans (m2.trans (m3.trans m4))) ⟨p,v,v2,v3,C,C2,C3,rfl,?_,zo.mono (m2.trans (m3.trans m4)) ho,zq.mono (m3.trans m4) ho2,zt.mono m4 ho3,rfl⟩
    rw[Yc pe]
    exact QL w3 hp
end
section
variable {K:PySem.W.Frag}{Er:Exc->Hp->Prop}{S:SC}{OO OO' OO1 OO2:List (List XF)}{σ:St}{α β γ ρ ι δ ε ζ:Type}
variable {Fd:Ends->β->Hp->Prop}[fd:FdOk Fd]{u:TS}
end
section
variable {K:PySem.W.Frag}{Er:Exc->Hp->Prop}{S:SC}{OO OO' OO1 OO2:List (List XF)}{σ:St}{α β γ ρ ι δ ε ζ:Type}
variable {Fd:Ends->β->Hp->Prop}[fd:FdOk Fd]{u:TS}
end
section
variable {K:PySem.W.Frag}{Er:Exc->Hp->Prop}{S:SC}{OO OO' OO1 OO2:List (List XF)}{σ:St}{α β γ ρ ι δ ε ζ α1 α3 α4:Type}
variable {Fd:Ends->β->Hp->Prop}[fd:FdOk Fd]{u:TS}
end
end L2
namespace L2
open PySem
noncomputable def Inc (xs:Array Nat):Prop:=xs.toList.Pairwise (· < ·)
theorem Inc.lt {xs:Array Nat}(h:Inc xs){i j v u:Nat}(hij:i<j)(hi:xs[i]?=some v)(hj:xs[j]?=some u):v<u:=by
 rw[←Array.getElem?_toList] at hi hj
 obtain⟨a,rfl⟩:=List.getElem?_eq_some_iff.mp hi
 obtain⟨b,rfl⟩:=List.getElem?_eq_some_iff.mp hj
 exact List.pairwise_iff_getElem.mp h i j a b hij
theorem Inc.le {xs:Array Nat}(h:Inc xs){i j v u:Nat}(hij:i<=j)(hi:xs[i]?=some v)(hj:xs[j]?=some u):v<=u:=by
 rcases Nat.lt_or_eq_of_le hij with z |z
 ·exact Nat.le_of_lt (h.lt z hi hj)
 ·subst z;rw[hi] at hj;cases hj;exact Nat.le_refl _
structure TOk (t:SetTable)(led:Bool):Prop where
 inc:Inc t.place
 dum:t.dummies= #[]
 led:t.led=led
theorem TOk.fresh (f m:Nat)(led:Bool):TOk (.fresh f m led) led:=⟨List.Pairwise.nil,rfl,rfl⟩
end L2
namespace L2
open PySem PySem.Spec PyProof.Rows
theorem E9 {vs:List Value}{ms:List Int}(h:IntsAre vs ms)(k:Int):(∃v∈vs,Value.isInt k v=true)↔k∈ms:=by
 induction h with
 |nil=>simp
 |cons n t _ ih=>
  rw[List.mem_cons, ←ih]
  constructor
  ·rintro⟨v,hv,e⟩
   rcases List.mem_cons.mp hv with z |z
   ·subst z;obtain⟨t',e'⟩:=Value.isInt_shape e;cases e';exact .inl rfl
   ·exact .inr ⟨v,z,e⟩
  ·rintro(z | ⟨v,hv,e⟩)
   ·subst z;exact⟨_, .head _,beq_self_eq_true _⟩
   ·exact⟨v, .tail _ hv,e⟩
theorem Ba {vs vs':List Value}(p:vs'.Perm vs):∀{ms:List Int},IntsAre vs ms->∃ms',IntsAre vs' ms'/\ms'.Perm ms:=by
 induction p with
 |nil=>intro ms h;exact⟨ms,h, .refl _⟩
 |cons x _ ih=>
  intro ms h
  cases h with
  |cons n t h=>obtain⟨m,a,b⟩:=ih h;exact⟨n::m, .cons n t a,b.cons _⟩
 |swap x y l=>
  intro ms h
  cases h with
  |cons n t h=>cases h with
   |cons m u h=>exact⟨_, .cons m u (.cons n t h), .swap ..⟩
 |trans _ _ ih1 ih2=>
  intro ms h
  obtain⟨m,a,b⟩:=ih2 h
  obtain⟨m',a',b'⟩:=ih1 a
  exact⟨m',a',b'.trans b⟩
noncomputable def dd (l:List Int):List Int:=l.foldl step_dedup []
structure SCore (prog:Program)(w:World)(es:Array (Int×Value))(t:SetTable)(ns:List Int):Prop where
 el:ElemsOf (intKind prog w) es.toList
 pm:∃ms,IntsAre (es.toList.map (·.2)) ms/\ms.Perm ns
 sz:es.size<scanBound
 fit:t.fits es.size=true
 tok:TOk t (!w.params.followText "set-order")
noncomputable def LK (prog:Program)(w:World)(h:Heap)(a:Addr)(ns:List Int):Prop:=
 ∃o es ep t,h.get? a=some o/\o.ExactSet/\o.data= .set es ep t/\SCore prog w es t ns
section
variable {prog:Program}{w:World}{A:Around}{E:Value->Shared->Prop}{s:Shared}{a:Addr}{ns:List Int}
theorem SCore.len {es:Array (Int×Value)}{t:SetTable}(c:SCore prog w es t ns):es.size=ns.length:=by
 obtain⟨ms,a,b⟩:=c.pm
 rw[←b.length_eq, ←IntsAre.length a,List.length_map,Array.length_toList]
theorem SCore.mem {es:Array (Int×Value)}{t:SetTable}(c:SCore prog w es t ns)(k:Int):(∃e∈es.toList,Value.isInt k e.2=true)↔k∈ns:=by
 obtain⟨ms,a,b⟩:=c.pm
 rw[←b.mem_iff, ←E9 a k]
 constructor
 ·rintro⟨e,h,z⟩;exact⟨e.2,List.mem_map_of_mem h,z⟩
 ·rintro⟨v,h,z⟩
  obtain⟨e,h1,rfl⟩:=List.mem_map.mp h
  exact⟨e,h1,z⟩
theorem SCore.perm {es es':Array (Int×Value)}{t t':SetTable}(c:SCore prog w es t ns)(p:es'.toList.Perm es.toList)(f:t'.fits es'.size=true)(k:TOk t' (!w.params.followText "set-order")):SCore prog w es' t' ns:=by
 obtain⟨ms,a,b⟩:=c.pm
 obtain⟨m,a',b'⟩:=Ba (p.map (·.2)) a
 have e:es'.size=es.size:=by rw[←Array.length_toList,p.length_eq,Array.length_toList]
 exact⟨c.el.perm p,⟨m,a',b'.trans b⟩,by rw[e];exact c.sz,f,k⟩
theorem LK.put {h:Heap}{o:Obj}{es es':Array (Int×Value)}{ep:Nat}{t t':SetTable}(ho:h.get? a=some o)(hx:o.ExactSet)(hd:o.data= .set es ep t):
  (h.update a (Obj.putSet es' t')).get? a=some {o with data:=.set es' (ep+1) t'}/\(SCore prog w es' t' ns->LK prog w (h.update a (Obj.putSet es' t')) a ns):=by
 have g:=Heap.get?_update_self (Obj.putSet es' t') ho (by rw[putSet_of es' t' hd];rfl)
 rw[putSet_of es' t' hd] at g
 exact⟨g,λc=>⟨_,_,_,_,g,hx,rfl,c⟩⟩
end
section
variable {prog:Program}{w:World}{A:Around}{E:Value->Shared->Prop}{s:Shared}
theorem LK.at {h h':Heap}{a:Addr}{ns:List Int}(x:LK prog w h a ns)(k:∀o,h.get? a=some o->h'.get? a=some o):LK prog w h' a ns:=
 let ⟨o,es,ep,t,ho,r⟩:=x;⟨o,es,ep,t,k o ho,r⟩
end
section
variable {M:Model}{A:Around}{E:Value->Shared->Prop}{s:Shared}
end
section
variable {prog:Program}{w:World}{A:Around}{E:Value->Shared->Prop}{s:Shared}{a:Addr}{o:Obj}{es:Array (Int×Value)}{ep:Nat}{t:SetTable}
end
section
variable {prog:Program}{w:World}{A:Around}{E:Value->Shared->Prop}{s:Shared}{a I tp:Addr}{o:Obj}{es:Array (Int×Value)}{ep:Nat}{t:SetTable}{L:List (Int×Value)}
inductive SMode (w:World)(a:Addr)(es:Array (Int×Value))(ep:Nat)(t:SetTable)(tp:Addr)(L:List (Int×Value))(h:Heap)(i:Nat):Value->Prop
 |text (sl:Nat) (hT:w.params.followText "set-order" =true) (hL:L=(pickOrder (w.params.setOrder a ep) es).toList):SMode w a es ep t tp L h i (.int sl 0)
 |plain (sl:Nat) (hT:w.params.followText "set-order" =false) (hp:(!t.plain&&decide (es.size > 1))=false) (hL:L=es.toList) (hb:SetTable.below t.place sl=i):SMode w a es ep t tp L h i (.int sl 0)
 |drawn (ps:List Nat) (hg:h.get? tp=some {cls:=.type "tuple",data:=.seq (ps.map λi=>Value.int (i:Nat) 0).toArray}) (hn:ps.length=L.length) (hL:∀(i:Nat) pl,ps[i]?=some pl->L[i]?=es[pl]?):SMode w a es ep t tp L h i (.ref tp)
structure SIt (w:World)(I a:Addr)(es:Array (Int×Value))(ep:Nat)(t:SetTable)(tp:Addr)(L:List (Int×Value))(o:Obj)(i:Nat)(h:Heap):Prop where
 it:∃ob first,h.get? I=some ob/\ob.cls= .type "set_iterator" /\ob.data= .fields #[first, .int i 0, .ref a, .int es.size 0, .int ep 0]/\SMode w a es ep t tp L h i first
 st:h.get? a=some o
theorem SMode.at {h h':Heap}{i:Nat}{v:Value}(m:SMode w a es ep t tp L h i v)(k:∀o,h.get? tp=some o->h'.get? tp=some o):SMode w a es ep t tp L h' i v:=by
 cases m with
 |text sl hT hL=>exact .text sl hT hL
 |plain sl hT hp hL hb=>exact .plain sl hT hp hL hb
 |drawn ps hg hn hL=>exact .drawn ps (k _ hg) hn hL
end
section
variable {prog:Program}{w:World}{A:Around}{E:Value->Shared->Prop}{s:Shared}{a I tp:Addr}{o:Obj}{es:Array (Int×Value)}{ep:Nat}{t:SetTable}{L:List (Int×Value)}{ns:List Int}
theorem SIt.frame {i:Nat}{h h':Heap}(x:SIt w I a es ep t tp L o i h)(k:∀b∈[I,a,tp],∀o,h.get? b=some o->h'.get? b=some o):SIt w I a es ep t tp L o i h':=by
 obtain⟨⟨ob,f,h1,h2,h3,m⟩,h4⟩:=x
 exact⟨⟨ob,f,k I (by simp) _ h1,h2,h3,m.at λo e=>k tp (by simp) o e⟩,k a (by simp) _ h4⟩
end
section
variable {X:Cx}
end
section
variable {K:PySem.W.Frag}{Er:Exc->Hp->Prop}{S:SC}{OO:List (List XF)}{σ:St}
variable {u:TS}{α γ ρ ι:Type}
variable {β:Type}{Fd:Ends->β->Hp->Prop}[fd:FdOk Fd]
end
section
variable {α β γ:Type}
end
section
variable {K:PySem.W.Frag}{Er:Exc->Hp->Prop}{S:SC}{OO:List (List XF)}{σ:St}{α1 α2 α3 α4 ρ:Type}{mg:Str->Option Value}{E:XK}
end
section
variable {X:Cx}{tg:Expr}
end
section
variable {K:PySem.W.Frag}{Er:Exc->Hp->Prop}{S:SC}{OO OO':List (List XF)}{σ:St}{α β γ:Type}
theorem P3.reverse {δ:Type}{F:α->γ->δ->Prop}:∀{l m n},P3 F l m n->P3 F l.reverse m.reverse n.reverse:=λp=>by
 induction p with
 |nil=>exact .nil
 |cons r _ ih=>rw[List.reverse_cons,List.reverse_cons,List.reverse_cons];exact ih.snoc r
variable {u:TS}{Fd:Ends->β->Hp->Prop}[fd:FdOk Fd]
end
section
variable {K:PySem.W.Frag}{Er:Exc->Hp->Prop}{S:SC}{OO:List (List XF)}{σ:St}{α β γ ι:Type}{u:TS}{Fd:Ends->β->Hp->Prop}[fd:FdOk Fd]
end
section
variable {K:PySem.W.Frag}{Er:Exc->Hp->Prop}{S:SC}{OO:List (List XF)}{σ:St}{α β:Type}
end
noncomputable def ND (A:Around)(s:Shared)(v u:Value)(b:Bool):Prop:=
 ∀(prog:Program) (w:World) (E:Value->Shared->Prop) (Q:Value->Shared->Prop),Q (.bool b) s->wpAny (model prog w) A (richCompare .Lt v u) Q E s
structure LtOk {α:Type}(r:Enc α)(lt:α->α->Bool)(d:Nat):Prop where
 at':∀{X:Cx}{pins:List (Addr×Obj)}{σ:St}{H:Hp}{s:Shared}{x y:V}{v u:Value}{a b:α}{A:Around},Inv X pins σ H s->Yy x v->Yy y u->r X.K H x a->r X.K H y b->A.units+d<cLine->ND A s v u (lt a b)
noncomputable def ltI (a b:Int):Bool:=decide (a<b)
theorem lt_int:LtOk Xa ltI 0:=⟨fun {X pins σ H s x y v u a b A} I rx ry h1 h2 _ prog w E Q q=>by
 have e1:x=V.int a:=h1
 have e2:y=V.int b:=h2
 subst e1 e2
 obtain⟨t,rfl⟩:=rx
 obtain⟨t',rfl⟩:=ry
 exact CmpOf.ints_lt (P:=λj v=>∃ t,v= .int (if j=0 then a else b) t) (λj=>if j=0 then a else b) (λ_ _ h=>h) 0 1 _ _ _ _ _ ⟨t,rfl⟩ ⟨t',rfl⟩ q⟩
section
variable {α:Type}[DecidableEq α]{r:Enc α}{lt:α->α->Bool}{d:Nat}
theorem LtOk.imp {q:Enc α}(L:LtOk r lt d)(h:∀{K:PySem.W.Frag}{H:Hp}{v:V}{a:α},q K H v a->r K H v a):LtOk q lt d:=⟨λI rx ry h1 h2 hu=>L.at' I rx ry (h h1) (h h2) hu⟩
end
section
variable {α:Type}
noncomputable def kp (kf:Value->α)(d:α)(xs:Array Keyed)(i:Nat):α:=(xs[i]?.map λp=>kf p.1).getD d
structure Ord (lt:α->α->Bool):Prop where
 irr:∀a,lt a a=false
 tr:∀{a b c},lt a b=true->lt b c=true->lt a c=true
structure Asks (prog:Program)(w:World)(A:Around)(E:Value->Shared->Prop)(s:Shared)(lt:α->α->Bool)(kf:Value->α)(d:α)(a0:Array Keyed):Prop extends Ord lt where
 ask:∀{st:SortSt}{i j:Nat}{Q:Option Bool->SortSt->Prop},SBase a0 st->i<a0.size->j<a0.size->Q (some (lt (kp kf d (arrOf st) i) (kp kf d (arrOf st) j))) st->wpS (model prog w) A E s (ltAt' i j) Q st
 two:∀{st:SortSt}{i j:Nat},SBase a0 st->i<a0.size->j<a0.size->i≠j->lt (kp kf d (arrOf st) i) (kp kf d (arrOf st) j)=true∨lt (kp kf d (arrOf st) j) (kp kf d (arrOf st) i)=true
variable {prog:Program}{w:World}{A:Around}{E:Value->Shared->Prop}{s:Shared}{lt:α->α->Bool}{kf:Value->α}{d:α}{a0:Array Keyed}
noncomputable def Ris (lt:α->α->Bool)(k:Nat->α)(n:Nat):Prop:=∀ i j,i<j->j<n->lt (k i) (k j)=true
noncomputable def Fal (lt:α->α->Bool)(k:Nat->α)(n:Nat):Prop:=∀ i j,i<j->j<n->lt (k j) (k i)=true
theorem Ris.more (O:Ord lt){k:Nat->α}{n:Nat}(h:Ris lt k n)(q:0<n->lt (k (n-1)) (k n)=true):Ris lt k (n+1):=λi j hij hj=>by
 rcases Nat.lt_or_ge j n with z |z
 ·exact h i j hij z
 ·have e:j=n:=by omega
  subst e
  rcases Nat.lt_or_ge i (j-1) with y |y
  ·exact O.tr (h i (j-1) y (by omega)) (q (by omega))
  ·rw[show i=j-1 by omega];exact q (by omega)
theorem Fal.more (O:Ord lt){k:Nat->α}{n:Nat}(h:Fal lt k n)(q:0<n->lt (k n) (k (n-1))=true):Fal lt k (n+1):=λi j hij hj=>by
 rcases Nat.lt_or_ge j n with z |z
 ·exact h i j hij z
 ·have e:j=n:=by omega
  subst e
  rcases Nat.lt_or_ge i (j-1) with y |y
  ·exact O.tr (q (by omega)) (h i (j-1) y (by omega))
  ·rw[show i=j-1 by omega];exact q (by omega)
theorem Asks.other (L:Asks prog w A E s lt kf d a0){st:SortSt}{i j:Nat}(B:SBase a0 st)(hi:i<a0.size)(hj:j<a0.size)(n:i≠j)(h:lt (kp kf d (arrOf st) i) (kp kf d (arrOf st) j)=false):lt (kp kf d (arrOf st) j) (kp kf d (arrOf st) i)=true:=(L.two B hi hj n).resolve_left (by rw[h];decide)
end
section
variable {α β γ:Type}
theorem Cp {f:α->β}{l' k:List β}(h:l'.Perm k):∀{l:List α},k=l.map f->∃m:List α,m.Perm l/\m.map f=l':=by
 induction h with
 |nil=>intro l e;cases l with
  |nil=>exact⟨[], .nil,rfl⟩
  |cons a l=>cases e
 |cons x _ ih=>intro l e;cases l with
  |nil=>cases e
  |cons a l=>
   injection e with e1 e2
   obtain⟨m,hm,em⟩:=ih e2
   exact⟨a::m,hm.cons a,by rw[List.map_cons,em,e1]⟩
 |swap x y t=>intro l e;cases l with
  |nil=>cases e
  |cons a l=>cases l with
   |nil=>cases e
   |cons b l=>
    injection e with e1 e2
    injection e2 with e2 e3
    exact⟨b::a::l, .swap ..,by rw[List.map_cons,List.map_cons,e1,e2,e3]⟩
 |trans _ _ ih1 ih2=>
  intro l e
  obtain⟨m2,h2,e2⟩:=ih2 e
  obtain⟨m1,h1,e1⟩:=ih1 e2.symm
  exact⟨m1,h1.trans h2,e1⟩
section
variable [DecidableEq α]{lt:α->α->Bool}
end
end
section
variable {prog:Program}{w:World}{A:Around}{E:Value->Shared->Prop}{s:Shared}{α:Type}
end
section
variable {X:Cx}{β:Type}[DecidableEq β]{r:Enc β}{lt:β->β->Bool}{d:Nat}
end
section
variable {X:Cx}{α:Type}
end
section
variable {K:PySem.W.Frag}{Er:Exc->Hp->Prop}{S:SC}{OO OO':List (List XF)}{σ:St}{α β γ δ:Type}
theorem P3.tri {F:α->β->γ->Prop}:∀{l m n},P3 F l m n->∃T:List (α×β×γ),T.map (·.1)=l/\T.map (·.2.1)=m/\T.map (·.2.2)=n/\∀t∈T,F t.1 t.2.1 t.2.2:=λp=>by
 induction p with
 |nil=>exact⟨[],rfl,rfl,rfl,λt h=>nomatch h⟩
 |cons r _ ih=>
  obtain⟨T,e1,e2,e3,h⟩:=ih
  exact⟨(_,_,_)::T,by rw[List.map_cons,e1],by rw[List.map_cons,e2],by rw[List.map_cons,e3],λt ht=>(List.mem_cons.mp ht).elim (λz=>z▸r) (h t)⟩
theorem P3.oft {F:α->β->γ->Prop}:∀{T:List (α×β×γ)},(∀t∈T,F t.1 t.2.1 t.2.2)->P3 F (T.map (·.1)) (T.map (·.2.1)) (T.map (·.2.2)):=fun {T}=>by
 induction T with
 |nil=>intro _;exact .nil
 |cons t T ih=>intro h;exact .cons (h t List.mem_cons_self) (ih λu hu=>h u (List.mem_cons_of_mem _ hu))
theorem Ip {a a':List α}{b b':List β}(h:a.zip b=a'.zip b')(h1:a.length=b.length)(h2:a'.length=b'.length):a=a'/\b=b':=by
 have e1:=congrArg (List.map Prod.fst) h
 have e2:=congrArg (List.map Prod.snd) h
 rw[List.map_fst_zip (by omega),List.map_fst_zip (by omega)] at e1
 rw[List.map_snd_zip (by omega),List.map_snd_zip (by omega)] at e2
 exact⟨e1,e2⟩
theorem P3.perm {F:α->β->γ->Prop}{l zs:List α}{m bs:List β}{n:List γ}(p:P3 F l m n)(h:(zs.zip bs).Perm (l.zip m))(hl:zs.length=bs.length):∃n',P3 F zs bs n'/\n'.Perm n:=by
 obtain⟨T,e1,e2,e3,hT⟩:=p.tri
 have ez:T.map (λt=>(t.1,t.2.1))=l.zip m:=by rw[←e1, ←e2,List.zip_map']
 obtain⟨T',hp,e⟩:=Cp h ez.symm
 have:(T'.map (·.1)).zip (T'.map (·.2.1))=zs.zip bs:=by rw[List.zip_map'];exact e
 obtain⟨f1,f2⟩:=Ip this (by simp) hl
 refine⟨T'.map (·.2.2),?_,by rw[←e3];exact hp.map _⟩
 rw[←f1, ←f2]
 exact P3.oft λt ht=>hT t (hp.mem_iff.mp ht)
end
section
variable {K:PySem.W.Frag}{Er:Exc->Hp->Prop}{S:SC}{OO OO':List (List XF)}{σ:St}{α β:Type}{u:TS}{Fd:Ends->β->Hp->Prop}[fd:FdOk Fd]
end
section
variable {K:PySem.W.Frag}{Er:Exc->Hp->Prop}{S:SC}{OO OO':List (List XF)}{σ:St}{α1 α2 β ρ:Type}{u:TS}
noncomputable def MJ (K:PySem.W.Frag)(o:OE ρ)(Cf:List XF)(Q:VK)(b:ρ)(h:Hp):Prop:=∀ v C H',W [C++Cf] H'->XG h (hid H' [C++Cf])->o K (hid H' [C++Cf]) v b C->Q v H'
noncomputable def HI (K:PySem.W.Frag)(o:OE ρ)(k:Nat)(Cf:List XF)(D:Ends)(b:ρ)(h:Hp):Prop:=∀ v C OO' H',OO'[k]?=some Cf->W (C::OO') H'->XG h (hid H' (C::OO'))->o K (hid H' (C::OO')) v b C->D.rt v H'
instance {o:OE ρ}{k:Nat}{Cf:List XF}:FdOk (HI K o k Cf):=⟨λD b h h' s q v C O H' e w m x=>q v C O H' e w (s.trans m) x⟩
theorem QR {te:TE}{o:OE ρ}{m:Rs ρ}{Cf:List XF}(k:Nat)(hk:OO'[k]?=some Cf)(he:Ev K Er S OO OO' σ te o m):Sv Er S OO σ (Jo (MO te) u) (HI K o k Cf) m:=λH D w s P=>
 he H _ w s (by
  cases m with
  |bad=>exact P
  |err x=>exact λH' s'=>P H' (XN.trans s')
  |ok a=>exact λv C H' s' w' m' ho=>P v C OO' H' hk w' m' ho)
theorem Mr {o:OE ρ}[zo:MonoO o]{t:TS}{m:Rs ρ}{Q:VK}{b:ρ}{H:Hp}{D:Ends}{Cf:List XF}(n:Nat)(h:Sv (λ_ _=>False) S (List.replicate n []++[Cf]) σ t (HI K o n Cf) m)(w:W [Cf] H)(hs:S.p (hid H [Cf]))(hm:m= .ok b)(qf:MJ K o Cf Q b (hid H [Cf]))(hD:D.rt=Q):t D σ H:=by
 have pe:(List.replicate n ([]:List XF)++[Cf]).flatten.Perm [Cf].flatten:=by
  rw[List.flatten_append,YN,List.nil_append]
 refine h H D (w.of pe) (by rw[Yc pe];exact hs) ?_
 subst hm
 rw[Yc pe]
 intro v C OO' H' hk w' m' ho
 rw[hD]
 have hp:=Yi hk
 have wk:W (C::Cf::OO'.set n []) H':=w'.of (by rw[List.flatten_cons,List.flatten_cons (l:=C)];exact hp.append_left C)
 have eh:hid H' (C::OO')=hid H' (C::Cf::OO'.set n []):=(Yc (by rw[List.flatten_cons,List.flatten_cons (l:=C)];exact hp.append_left C)).symm
 have hsub:XG (hid H' (C::OO')) (hid H' [C++Cf]):=by
  rw[eh]
  exact Q5 (XG.refl _) λb hb=>by
   rw[YG,YG, ←List.append_assoc]
   refine List.mem_append_left _ ?_
   simpa[fl] using hb
 exact qf v C H' (wk.sub (by simp)) (m'.trans hsub) (zo.mono hsub ho)
theorem MW {o:OE ρ}{Q:VK}{b:ρ}{H:Hp}(w:W OO H)(P:FO K OO OO o Q b H):MJ K o OO.flatten Q b (hid H OO):=λv C H' w' m' ho=>by
 have e1:([C++OO.flatten]:List (List XF)).flatten=(C::OO).flatten:=by simp
 have e2:hid H' [C++OO.flatten]=hid H' (C::OO):=by unfold hid fl;rw[e1]
 rw[e2] at m' ho
 have w2:W (C::OO) H':=w'.of (by rw[e1])
 refine P v C H' (λx ob hx=>?_) w2 m' ho
 by_cases hb:x∈fl OO
 ·obtain⟨oo,hoo⟩:=Dh hb
  have h1:=w.tr _ hoo
  rw[hx] at h1
  cases h1
  exact w2.tail.tr _ hoo
 ·exact(Yx (m' _ _ (Qd hx hb))).1
theorem E2 {H:Hp}:hid H [OO.flatten]=hid H OO:=by unfold hid fl;rw[show([OO.flatten]:List (List XF)).flatten=OO.flatten by simp]
theorem W.one {H:Hp}(w:W OO H):W [OO.flatten] H:=w.of (by simp)
end
section
variable {K:PySem.W.Frag}{Er:Exc->Hp->Prop}{S:SC}{OO OO':List (List XF)}{σ:St}{α α2 β γ ρ:Type}
variable {Fd:Ends->β->Hp->Prop}[fd:FdOk Fd]{u:TS}
end
section
variable {prog:Program}{w:World}{A:Around}{E:Value->Shared->Prop}{s:Shared}
end
section
variable {X:Cx}
end
section
variable {K:PySem.W.Frag}{Er:Exc->Hp->Prop}{S:SC}{OO OO':List (List XF)}{σ:St}{α β γ:Type}
end
section
variable {X:Cx}{α:Type}{r:Enc α}{lt:α->α->Bool}{d:Nat}
end
section
variable {K:PySem.W.Frag}{Er:Exc->Hp->Prop}{S:SC}{OO OO':List (List XF)}{σ:St}{α:Type}
end
section
variable {X:Cx}{pins:List (Addr×Obj)}{σ:St}{H:Hp}{s0:Shared}
noncomputable def La (X:Cx)(g:Heap)(d:Addr)(xs:List (List Key×Addr×Value)):Prop:=∃ o es ep,g.get? d=some o/\o.ExactDict/\o.data= .dict es ep/\es.toList=xs.map (entryOfKey (tupleKind (YY X.prog X.w)))/\(xs.map (·.1)).Nodup
theorem La.h {g:Heap}{tk:Nat}{d:Addr}{acc:List (List Key×V)}{xs:List (List Key×Addr×Value)}(D:La X g d xs)(I:Inv X pins σ H {s0 with heap:=g,toks:=tk})(r:KT H acc xs):g.DictOfH (tupleKind (YY X.prog X.w)) d xs:=by
 obtain⟨o,es,ep,h1,h2,h3,h4,h5⟩:=D
 refine⟨o,es,ep,h1,h2,h3,h4,λx hx=>?_,h5⟩
 have all:∀{l:List (List Key×V)}{m:List (List Key×Addr×Value)},KT H l m->∀x∈m,(tupleKind (YY X.prog X.w)).is g x.1 x.2.1:=by
  intro l m q
  induction q with
  |nil=>intro x hx;exact nomatch hx
  | @cons p q ps qs hq t ih=>
   intro x hx
   rcases List.mem_cons.mp hx with e |hx
   ·subst e
    exact Gg I.hok (by rw[←hq.1];exact hq.2.1)
   ·exact ih x hx
 exact all r x hx
theorem La.of {g:Heap}{d:Addr}{xs:List (List Key×Addr×Value)}(D:g.DictOfH (tupleKind (YY X.prog X.w)) d xs):La X g d xs:=by
 obtain⟨o,es,ep,h1,h2,h3,h4,_,h5⟩:=D
 exact⟨o,es,ep,h1,h2,h3,h4,h5⟩
theorem La.at {g g':Heap}{d:Addr}{xs:List (List Key×Addr×Value)}(D:La X g d xs)(k:∀o,g.get? d=some o->g'.get? d=some o):La X g' d xs:=by
 obtain⟨o,es,ep,h1,r⟩:=D
 exact⟨o,es,ep,k o h1,r⟩
end
section
variable {K:PySem.W.Frag}{Er:Exc->Hp->Prop}{S:SC}{OO OO':List (List XF)}{σ:St}{α β γ:Type}
end
section
variable {K:PySem.W.Frag}{Er:Exc->Hp->Prop}{S:SC}{OO:List (List XF)}{σ:St}{α1 α2 α3 α4 α5 ρ:Type}{mg:Str->Option Value}{E:XK}
end
section
variable {X:Cx}{o e:Expr}{es:List Expr}{to:TE}{t:TA}{name:Str}{apos cpos:Pos}{id:String}{r:V->List V->Hp->VK->Prop}
end
section
variable {K:PySem.W.Frag}{Er:Exc->Hp->Prop}{S:SC}{OO:List (List XF)}{σ:St}
end
section
variable {α β γ δ:Type}{K:PySem.W.Frag}{Er:Exc->Hp->Prop}{S:SC}{OO:List (List XF)}{σ:St}{Fd:Ends->β->Hp->Prop}[fd:FdOk Fd]{u:TS}
end
end L2
namespace HT
open PySem PySem.Spec PyProof PyProof.Rows
section
variable {prog:Program}{w:World}{A:Around}{E:Value->Shared->Prop}{s:Shared}
end
end HT
namespace L2
open PySem PySem.Spec PyProof.Rows
section
variable {X:Cx}{e:Expr}{te:TE}
end
section
variable {α β:Type}{K:PySem.W.Frag}{Er:Exc->Hp->Prop}{S:SC}{OO:List (List XF)}{σ:St}
end
section
variable {α β:Type}{K:PySem.W.Frag}{Er:Exc->Hp->Prop}{S:SC}{OO:List (List XF)}{σ:St}{Fd:Ends->β->Hp->Prop}[fd:FdOk Fd]{u:TS}
end
section
variable {K:PySem.W.Frag}{Er:Exc->Hp->Prop}{S:SC}{OO OO' OO2:List (List XF)}{σ:St}{α β γ ρ ι:Type}{mg:Str->Option Value}{E:XK}{u:TS}
end
section
variable {α:Type}
structure SBk (κ:SortKind)(a₀:Array Keyed)(st:SortSt):Prop where
 perm:(arrOf st).Perm a₀
 kind:kindOf st=κ
 failed:failedOf st=none
 pend:pendingOf st= #[]
theorem SBk.size {κ:SortKind}{a₀:Array Keyed}{st:SortSt}(h:SBk κ a₀ st):(arrOf st).size=a₀.size:=h.perm.size_eq
structure AskK (prog:Program)(w:World)(A:Around)(E:Value->Shared->Prop)(s:Shared)(lt:α->α->Bool)(kf:Value->α)(d:α)(a0:Array Keyed)(κ:SortKind):Prop extends Ord lt where
 ask:∀{st:SortSt}{i j:Nat}{Q:Option Bool->SortSt->Prop},SBk κ a0 st->i<a0.size->j<a0.size->Q (some (lt (kp kf d (arrOf st) i) (kp kf d (arrOf st) j))) st->wpS (model prog w) A E s (ltAt' i j) Q st
 two:∀{st:SortSt}{i j:Nat},SBk κ a0 st->i<a0.size->j<a0.size->i≠j->lt (kp kf d (arrOf st) i) (kp kf d (arrOf st) j)=true∨lt (kp kf d (arrOf st) j) (kp kf d (arrOf st) i)=true
variable {prog:Program}{w:World}{A:Around}{E:Value->Shared->Prop}{s:Shared}{lt:α->α->Bool}{kf:Value->α}{d:α}{a0:Array Keyed}{κ:SortKind}
theorem AskK.other (L:AskK prog w A E s lt kf d a0 κ){st:SortSt}{i j:Nat}(B:SBk κ a0 st)(hi:i<a0.size)(hj:j<a0.size)(n:i≠j)(h:lt (kp kf d (arrOf st) i) (kp kf d (arrOf st) j)=false):lt (kp kf d (arrOf st) j) (kp kf d (arrOf st) i)=true:=(L.two B hi hj n).resolve_left (by rw[h];decide)
end
section
variable {prog:Program}{w:World}{A:Around}{E:Value->Shared->Prop}{s:Shared}{α:Type}
end
section
variable {X:Cx}
end
section
variable {prog:Program}{w:World}{A:Around}{E:Value->Shared->Prop}{s:Shared}
end
section
variable {X:Cx}{o:Expr}{lo hi:Option Expr}{pos p2:Pos}{to:TE}{tl th:TO}
end
section
variable {X:Cx}{pins:List (Addr×Obj)}{σ:St}{H G:Hp}{s:Shared}{h':Heap}
end
section
variable {X:Cx}{l:Expr}{tl:TE}{pos npos apos cpos:Pos}
end
section
variable {X:Cx}
end
inductive Mx where
 |i (n:Int) |s (x:Str) |b (v:Bool)
 deriving DecidableEq
noncomputable def Mx.v:Mx->V
 | .i n=>.int n
 | .s x=>.str x
 | .b v=>.bl v
section
variable {K:PySem.W.Frag}{Er:Exc->Hp->Prop}{S:SC}{OO OO' OO1 OO2 OO3:List (List XF)}{σ:St}{α β γ δ ρ:Type}{u:TS}
end
section
variable {K:PySem.W.Frag}{Er:Exc->Hp->Prop}{S:SC}{OO OO' OO1 OO2 OO3:List (List XF)}{σ:St}{α β γ δ ρ ι:Type}{α1 α2 α3 α4 α5:Type}{u:TS}
variable {Fd:Ends->β->Hp->Prop}[fd:FdOk Fd]
theorem EvP.st {t:TO}{m:Rs (Option Int)}(he:EvP Er S OO σ t m){H:Hp}{D:Ends}{Q:Option Int->Hp->Prop}(w:W OO H)(s:S.p (hid H OO)){f:Option Int->Rs β}(P:PZ Er (Fd D) (hid H OO) (m.bind f))
  (hk:∀a H',XG H H'->W OO H'->S.p (hid H' OO)->PZ Er (Fd D) (hid H' OO) (f a)->Q a H'):t σ H Q:=by
 refine he H Q w s ?_
 cases m with
 |bad=>exact P
 |err x=>exact λH' s'=>P H' (XN.trans s')
 |ok a=>exact λH' s'=>hk a H' s' (w.keep s') (S.mono _ _ (Xm s') s) (PZ.tr (fd.tr D) (Xm s') P)
section
variable {o:OE ρ}{kf:Nat}{Cf:List XF}{J:Jn γ ι}
theorem Jt {c:TT}{t1:TS}{mc:Rs Bool}{m1 m2:Rs ρ}(hc:EvT Er S OO σ c mc)(h1:Sv Er S OO σ t1 (HI K o kf Cf) m1)(h2:Sv Er S OO σ u (HI K o kf Cf) m2):Sv Er S OO σ (Jo (Lo c t1 Di) u) (HI K o kf Cf) (mc.bind λb=>if b=true then m1 else m2):=λH D w s P=>
 hc.st (Fd:=HI K o kf Cf) w s P λb H' w' s' P'=>by
  cases b with
  |true=>rw[if_pos rfl] at P'⊢;exact h1 H' _ w' s' P'
  |false=>exact h2 H' D w' s' P'
end
end
section
variable {K:PySem.W.Frag}{Er:Exc->Hp->Prop}{S:SC}{OO:List (List XF)}{σ:St}{α β γ ρ ι:Type}{u:TS}{Fd:Ends->β->Hp->Prop}[fd:FdOk Fd]
end
section
variable {K:PySem.W.Frag}{Er:Exc->Hp->Prop}{S:SC}{OO OO':List (List XF)}{σ:St}{α1 α2 α3 β ρ:Type}{u:TS}
noncomputable def M0 (r1:Enc α1)(r2:Enc α2)(r3:Enc α3)(o:OE ρ)(f:α1->α2->α3->Rs ρ)(K:PySem.W.Frag):Sp:=λvs H Q _=>∃ v1 v2 v3 a1 a2 a3 b,vs=[v1,v2,v3]/\∃Cf,W [Cf] H/\r1 K (hid H [Cf]) v1 a1/\r2 K (hid H [Cf]) v2 a2/\r3 K (hid H [Cf]) v3 a3/\f a1 a2 a3= .ok b/\MJ K o Cf Q b (hid H [Cf])
theorem CG {ta tb tc:TE}{r1:Enc α1}{r2:Enc α2}{r3:Enc α3}[z1:MonoE r1][z2:MonoE r2][z3:MonoE r3]{o:OE ρ}{f:α1->α2->α3->Rs ρ}{ma:Rs α1}{mb:Rs α2}{mc:Rs α3}(ha:EvS K Er S OO σ ta r1 ma)(hb:EvS K Er S OO σ tb r2 mb)(hc:EvS K Er S OO σ tc r3 mc):
  Ev K Er S OO OO σ (KC (M0 r1 r2 r3 o f K) [] E0 (XM ta (XM tb (XM tc Qa)))) o (ma.bind λa=>mb.bind λb=>mc.bind λc=>noE (f a b c)):=λH Q w s P=>
 ha.run w s FO.tr P λa x H1 s1 w1 q1 r1 P1=>hb.run w1 q1 FO.tr P1 λb y H2 s2 w2 q2 r2 P2=>hc.run w2 q2 FO.tr P2 λc z H3 s3 w3 q3 r3 P3=>by
  obtain⟨e,he,P5⟩:=P3.okOf λx=>UN
  have n2:=Xm (OO:=OO) s2
  have n3:=Xm (OO:=OO) s3
  exact⟨x,y,z,a,b,c,e,rfl,OO.flatten,w3.one,by rw[E2];exact z1.mono (n2.trans n3) r1,by rw[E2];exact z2.mono n3 r2,by rw[E2];exact r3,UI he,by rw[E2];exact MW w3 P5⟩
theorem EC {δ γ:Type}{Fd:Ends->β->Hp->Prop}[fd:FdOk Fd]{te:TE}{r1:Enc α1}{r2:Enc γ}{o3:OE δ}[z1:MonoE r1][z2:MonoE r2][z3:MonoO o3]{m:Rs (α1×γ×δ)}{f:α1×γ×δ->Rs β}(i j l k:Nat)(he:Ev K Er S OO OO' σ te (oT3 (oF r1) (oF r2) o3) m)(hk:k<OO'.length)
  (hr:∀a v w x C,Sv Er (((S.add K r1 v a.1).add K r2 w a.2.1).addO K o3 x a.2.2 C) (OO'.set k C) (((σ.set i (some v)).set j (some w)).set l (some x)) u Fd (f a)):Sv Er S OO σ (Jo (Ea te (Ht K 3 (Qr (Zx i) (Qr (Zx j) (Qr (Zx l) Iu))))) u) Fd (m.bind f):=λH D w s P=>
 he.st w s P λa v C H' w' s' ho P'=>by
  obtain⟨p,x,y,zz,C1,C2,C3,e,hp,⟨c1,h1⟩,⟨c2,h2⟩,h3,c⟩:=ho
  subst c1 c2 c e
  obtain⟨w2,m2⟩:=Nc (k:=k) w' hk
  exact⟨p,_,rfl,SqT.of (XN _ _ hp),rfl,x,[y,zz],rfl,y,[zz],rfl,zz,[],rfl,rfl,hr a x y zz _ H' D w2 ⟨⟨⟨S.mono _ _ m2 s',z1.mono m2 h1⟩,z2.mono m2 h2⟩,z3.mono m2 h3⟩ (PZ.tr (fd.tr D) m2 P')⟩
end
end L2
namespace My
open PySem L2
noncomputable def VI (a_0:((List (List Int))×(List (Int×Int))))(a_1:Int):Rs (Int×Int):=(Rs.bind (Rs.bind (Rs.bind (Rs.ok a_0) λx1=>(Rs.ok x1.1)) λx2=>(Rs.ok (KK x2))) λx20=>(Rs.bind (forC x20 () (λg5 a7=>(Rs.bind (Rs.bind (Rs.ok a_1) λx9=>(Rs.bind (Rs.ok a7.2) λx10=>(Rs.ok (decide (x9∈x10))))) λx11=>(if x11=true then(Rs.bind (Rs.bind (Rs.ok a7.1) λx14=>(Rs.bind (Rs.bind (Rs.ok a7.2) λx12=>(Rs.bind (Rs.ok a_1) λx13=>(Eo x12 x13))) λx15=>(Rs.ok (x14,x15)))) λx17=>(Rs.ok (Ctl.ret x17))) else(Rs.bind (Rs.ok ()) λx16=>(Rs.ok (Ctl.nx x16))))))) (QY λg18=>Rs.bad)))
noncomputable def XX (a_0:(List Int)):Rs Int:=(Rs.bind (Rs.bind (Rs.ok a_0) λx6=>(Lv x6 (λa4=>(Rs.bind (Rs.ok a4) λx7=>(Rs.bind (Rs.ok (0:Int)) λx8=>(Rs.ok (decide (x7<x8)))))) (λa4=>(Rs.ok a4)))) λa1=>(Rs.bind (Rs.bind (Rs.ok a1) λx10=>(Rs.ok (x10.length:Int))) λx11=>(Rs.bind (Rs.ok (1:Int)) λx12=>(Rs.ok (max x11 x12)))))
noncomputable def YR (a_0:(List Int))(a_1:Int):Rs (List Int):=(Rs.bind (Rs.bind (Rs.ok a_0) λx4=>(noE (XX x4))) λa1=>(Rs.bind (Rs.ok (0:Int)) λa5=>(Rs.bind (Rs.bind (Rs.bind (Rs.ok a_1) λx11=>(Rs.bind (Rs.ok []) λx12=>(Rs.ok (x11::x12)))) λx10=>(chk (x10.length<=sizeLine) (Rs.ok x10))) λa7=>(Rs.bind (Rs.bind (Rs.ok a_0) λx15=>(Rs.bind (Rs.ok none) λx16=>(Rs.bind (Rs.bind (Rs.bind (Rs.ok (1:Int)) λx13=>(Rs.ok (-x13))) λx14=>(Rs.ok (some x14))) λx17=>(Rs.ok (KU x15 x16 x17))))) λx43=>(Rs.bind (forN x43 (a5,a7) (λg20 a22=>(Rs.bind (Rs.bind (Rs.bind (Rs.ok a22) λx24=>(Rs.bind (Rs.ok (0:Int)) λx25=>(Rs.ok (decide (x24<x25))))) λx26=>(if x26=true then(Rs.bind (Rs.ok (1:Int)) λx29=>((λ(a31:Int)=>(Rs.ok (a31))) (g20.1+x29))) else(Rs.ok (g20.1)))) λg33=>(Rs.bind (Rs.bind (Rs.ok a_1) λx36=>(Rs.bind (Rs.bind (Rs.ok g33) λx34=>(Rs.bind (Rs.ok a1) λx35=>(Qg x34 x35))) λx37=>(Rs.ok (x36+x37)))) λa38=>(chk (g20.2.length<sizeLine) ((λa40=>(Rs.ok (g33,a40))) (g20.2++[a38]))))))) λg41=>(Rs.ok g41.2))))))
noncomputable def UK (a_0:((List (List Int))×(List (Int×Int)))):Rs (List (List Int)):=(Rs.bind (Rs.ok []) λa1=>(Rs.bind (Rs.ok (0:Int)) λa4=>(Rs.bind (Rs.bind (Rs.ok a_0) λx6=>(Rs.ok x6.1)) λx26=>(Rs.bind (forN x26 (a4,a1) (λg9 a11=>(Rs.bind (Rs.bind (Rs.ok a11) λx14=>(Rs.bind (Rs.ok g9.1) λx15=>(noE (YR x14 x15)))) λa16=>(chk (g9.2.length<sizeLine) ((λa18=>(Rs.bind (Rs.bind (Rs.ok a11) λx20=>(noE (XX x20))) λx21=>((λ(a23:Int)=>(Rs.ok (a23,a18))) (g9.1+x21)))) (g9.2++[a16])))))) λg24=>(Rs.ok g24.2)))))
noncomputable def Zs (a_0:((List (List Int))×(List (Int×Int)))):Rs Int:=(Rs.bind (Rs.bind (Rs.bind (Rs.ok a_0) λx2=>(Rs.ok x2.1)) λx6=>(Vl x6 (λa4=>(Rs.bind (Rs.ok a4) λx8=>(noE (XX x8)))))) λx9=>(Rs.ok (x9.sum)))
noncomputable def QH (a_0:((List (List Int))×(List (Int×Int)))):Rs (List (Int×Int×Int×Int×Int)):=(Rs.bind (Rs.bind (Rs.ok a_0) λx4=>(noE (UK x4))) λa1=>(Rs.bind (Rs.ok []) λa5=>(Rs.bind (Rs.bind (Rs.ok a_0) λx8=>(Rs.ok x8.2)) λx64=>(Rs.bind (forN x64 (a5) (λg11 a13=>(Rs.bind (Rs.bind (Rs.ok a_0) λx18=>(Rs.bind (Rs.ok a13.1) λx19=>(noE (VI x18 x19)))) λa15=>(Rs.bind (Rs.bind (Rs.ok a_0) λx24=>(Rs.bind (Rs.bind (Rs.ok a13.1) λx23=>(Rs.ok (-x23))) λx25=>(noE (VI x24 x25)))) λa20=>(Rs.bind (Rs.bind (Rs.bind (Rs.ok a1) λx29=>(Rs.bind (Rs.bind (Rs.ok a15) λx28=>(Rs.ok x28.1)) λx30=>(atR x29 x30))) λx32=>(Rs.bind (Rs.bind (Rs.ok a15) λx31=>(Rs.ok x31.2)) λx33=>(atR x32 x33))) λa26=>(Rs.bind (Rs.bind (Rs.ok a1) λx37=>(Rs.bind (Rs.bind (Rs.ok a20) λx36=>(Rs.ok x36.1)) λx38=>(atR x37 x38))) λa34=>(Rs.bind (Rs.bind (Rs.ok a34) λx42=>(Rs.bind (Rs.bind (Rs.ok a20) λx41=>(Rs.ok x41.2)) λx43=>(atR x42 x43))) λa39=>(Rs.bind (Rs.bind (Rs.ok a34) λx52=>(Rs.bind (Rs.bind (Rs.bind (Rs.bind (Rs.ok a20) λx46=>(Rs.ok x46.2)) λx47=>(Rs.bind (Rs.ok (1:Int)) λx48=>(Rs.ok (x47+x48)))) λx50=>(Rs.bind (Rs.bind (Rs.ok a34) λx49=>(Rs.ok (x49.length:Int))) λx51=>(Qg x50 x51))) λx53=>(atR x52 x53))) λa44=>(Rs.bind (Rs.bind (Rs.ok a13.1) λx54=>(Rs.bind (Rs.ok a13.2) λx55=>(Rs.bind (Rs.ok a26) λx56=>(Rs.bind (Rs.ok a39) λx57=>(Rs.bind (Rs.ok a44) λx58=>(Rs.ok (x54,x55,x56,x57,x58))))))) λa59=>(chk (g11.length<sizeLine) ((λa61=>(Rs.ok (a61))) (g11++[a59])))))))))))) λg62=>(Rs.ok g62)))))
noncomputable def Y7 (a_0:(List Int))(a_1:Int):Rs Bool:=(Rs.bind (Rs.bind (Rs.ok a_0) λx5=>(Vl x5 (λa3=>(Rs.bind (Rs.ok (0:Int)) λx6=>(Rs.bind (Rs.ok a3) λx7=>(if(decide (x6<=x7))=true then(Rs.bind (Rs.ok a_1) λx8=>(Rs.ok (decide (x7<x8)))) else Rs.ok false)))))) λx9=>(Rs.ok (x9.all id)))
noncomputable def Uy (a_0:((List (List Int))×(List (Int×Int)))):Rs (List (Int×Int×Int)):=(Rs.bind (Rs.ok []) λa1=>(Rs.bind (Rs.bind (Rs.ok a_0) λx5=>(noE (QH x5))) λx26=>(Rs.bind (forN x26 (a1) (λg8 a10=>(Rs.bind (Rs.bind (Rs.bind (Rs.ok a10.2.1) λx12=>(Rs.bind (Rs.ok (1:Int)) λx13=>(Rs.ok (decide (x12=x13))))) λx20=>(if x20=true then(Rs.bind (Rs.ok a10.2.2.2.1) λx14=>(Rs.bind (Rs.ok a10.2.2.1) λx15=>(Rs.bind (Rs.ok a10.2.2.2.2) λx16=>(Rs.ok (x14,x15,x16))))) else(Rs.bind (Rs.ok a10.2.2.2.2) λx17=>(Rs.bind (Rs.ok a10.2.2.1) λx18=>(Rs.bind (Rs.ok a10.2.2.2.1) λx19=>(Rs.ok (x17,x18,x19))))))) λa21=>(chk (g8.length<sizeLine) ((λa23=>(Rs.ok (a23))) (g8++[a21])))))) λg24=>(Rs.ok g24))))
noncomputable def ZK (a_0:(List (List Int)))(a_1:(List Int))(a_2:(List (Int×Int×Int))):Rs Bool:=(Rs.bind (Rs.bind (Rs.ok a_2) λx5=>(Vl x5 (λa3=>(Rs.bind (Rs.bind (Rs.bind (Rs.ok a_0) λx8=>(Rs.bind (Rs.bind (Rs.ok a_1) λx6=>(Rs.bind (Rs.ok a3.1) λx7=>(atR x6 x7))) λx9=>(atR x8 x9))) λx12=>(Rs.bind (Rs.bind (Rs.ok a_1) λx10=>(Rs.bind (Rs.ok a3.2.1) λx11=>(atR x10 x11))) λx13=>(atR x12 x13))) λx16=>(Rs.bind (Rs.bind (Rs.ok a_1) λx14=>(Rs.bind (Rs.ok a3.2.2) λx15=>(atR x14 x15))) λx17=>(Rs.ok (decide (x16=x17)))))))) λx18=>(Rs.ok (x18.all id)))
noncomputable def Yg (a_0:Int)(a_1:Int):Rs Unit:=(Rs.bind (Rs.ok (1:Int)) λa5=>(Rs.bind (Rs.bind (Rs.ok a_1) λx7=>(QZ 0 x7)) λx22=>(Rs.bind (forN x22 (a5) (λg10 a12=>(Rs.bind (Rs.ok a_0) λx14=>(Rs.bind (QG g10 x14) λa16=>(Rs.ok (a16)))))) λg17=>(Rs.bind (Rs.bind (Rs.ok g17) λx19=>(Rs.bind (Rs.ok (65536:Int)) λx20=>(Rs.ok (decide (x20<x19))))) λx21=>(if x21=true then Rs.bad else(Rs.ok ()))))))
noncomputable def YD (a_0:(List (List Int)))(a_1:(List (List Int)))(a_2:(List (Int×Int×Int))):Rs (List (List Int)):=(Rs.bind (Rs.ok []) λa1=>(Rs.bind (Rs.ok a_0) λx43=>(Rs.bind (forN x43 (a1) (λg6 a8=>(Rs.bind (Rs.bind (Rs.bind (Rs.ok a_1) λx10=>(Rs.ok (x10.length:Int))) λx11=>(QZ 0 x11)) λx40=>(Rs.bind (forN x40 (g6) (λg14 a16=>(Rs.bind (Rs.bind (Rs.ok a8) λx21=>(Rs.bind (Rs.bind (Rs.bind (Rs.ok a16) λx24=>(Rs.bind (Rs.ok []) λx25=>(Rs.ok (x24::x25)))) λx23=>(chk (x23.length<=sizeLine) (Rs.ok x23))) λx22=>(GE x21 x22))) λa18=>(Rs.bind (Rs.bind (Rs.bind (Rs.ok a_1) λx27=>(Rs.bind (Rs.ok a18) λx28=>(Rs.bind (Rs.ok a_2) λx29=>(noE (ZK x27 x28 x29))))) λx30=>(if x30=true then(Rs.bind (Rs.ok a18) λa33=>(chk (g14.length<sizeLine) ((λa35=>(Rs.ok (a35))) (g14++[a33])))) else(Rs.ok (g14)))) λg37=>(Rs.ok (g37)))))) λg38=>(Rs.ok (g38)))))) λg41=>(Rs.ok g41))))
noncomputable def YZ (a_0:((List (List Int))×(List (Int×Int))))(a_1:(List (List Int))):Rs (List (List Int)):=(Rs.bind (Rs.bind (Rs.ok a_0) λx4=>(noE (Zs x4))) λa1=>(Rs.bind (Rs.bind (Rs.bind (Rs.ok a_1) λx6=>(Rs.ok (x6.length:Int))) λx7=>(Rs.bind (Rs.ok a1) λx8=>(noE (Yg x7 x8)))) λx9=>(Rs.bind (Rs.bind (Rs.ok a_0) λx13=>(noE (Uy x13))) λa10=>(Rs.bind (Rs.bind (Rs.bind (Rs.ok []) λx18=>(Rs.bind (Rs.ok []) λx19=>(Rs.ok (x18::x19)))) λx17=>(chk (x17.length<=sizeLine) (Rs.ok x17))) λa14=>(Rs.bind (Rs.bind (Rs.ok a1) λx20=>(QZ 0 x20)) λx43=>(Rs.bind (forN x43 (a14) (λg23 a25=>(Rs.bind (Rs.bind (Rs.ok g23) λx38=>(Rs.bind (Rs.ok a_1) λx39=>(Rs.bind (Rs.bind (Rs.ok a10) λx34=>(Lv x34 (λa32=>(Rs.bind (Rs.bind (Rs.bind (Rs.ok a32) λx35=>(Rs.ok [x35.1,x35.2.1,x35.2.2])) MY) λx36=>(Rs.bind (Rs.ok a25) λx37=>(Rs.ok (decide (x36=x37)))))) (λa32=>(Rs.ok a32)))) λx40=>(noE (YD x38 x39 x40))))) λa27=>(Rs.ok (a27))))) λg41=>(Rs.ok g41)))))))
noncomputable def X1 (a_0:(List (List Int)))(a_1:(List (List Int)))(a_2:(List Int))(a_3:Int)(a_4:Int):Rs Bool:=(Rs.bind (Rs.bind (Rs.bind (Rs.ok a_0) λx3=>(Rs.bind (Rs.ok a_3) λx4=>(atR x3 x4))) λx5=>(Rs.bind (Rs.ok a_4) λx6=>(atR x5 x6))) λa1=>(Uw (Rs.bind (Rs.ok a1) λx8=>(Rs.bind (Rs.bind (Rs.ok a_2) λx7=>(Rs.ok (x7.length:Int))) λx9=>(Rs.ok (decide (x8<x9))))) (Rs.bind (Rs.bind (Rs.bind (Rs.ok a_1) λx12=>(Rs.bind (Rs.bind (Rs.ok a_2) λx10=>(Rs.bind (Rs.ok a_3) λx11=>(atR x10 x11))) λx13=>(atR x12 x13))) λx16=>(Rs.bind (Rs.bind (Rs.ok a_2) λx14=>(Rs.bind (Rs.ok a_4) λx15=>(atR x14 x15))) λx17=>(atR x16 x17))) λx20=>(Rs.bind (Rs.bind (Rs.ok a_2) λx18=>(Rs.bind (Rs.ok a1) λx19=>(atR x18 x19))) λx21=>(Rs.ok (!(decide (x20=x21))))))))
noncomputable def Yf (a_0:(List (List Int)))(a_1:(List (List Int)))(a_2:(List Int)):Rs (Option (Int×Int)):=(Rs.bind (Rs.bind (Rs.bind (Rs.ok a_2) λx1=>(Rs.ok (x1.length:Int))) λx2=>(QZ 0 x2)) λx35=>(Rs.bind (forC x35 () (λg5 a7=>(Rs.bind (Rs.bind (Rs.bind (Rs.ok a_2) λx9=>(Rs.ok (x9.length:Int))) λx10=>(QZ 0 x10)) λx32=>(Rs.bind (forC x32 () (λg13 a15=>(Rs.bind (Rs.bind (Rs.ok a_0) λx18=>(Rs.bind (Rs.ok a_1) λx19=>(Rs.bind (Rs.ok a_2) λx20=>(Rs.bind (Rs.ok a7) λx21=>(Rs.bind (Rs.ok a15) λx22=>(noE (X1 x18 x19 x20 x21 x22))))))) λx23=>(if x23=true then(Rs.bind (Rs.bind (Rs.bind (Rs.ok a7) λx24=>(Rs.bind (Rs.ok a15) λx25=>(Rs.ok (x24,x25)))) λx26=>(Rs.ok (some x26))) λx28=>(Rs.ok (Ctl.ret x28))) else(Rs.bind (Rs.ok ()) λx27=>(Rs.ok (Ctl.nx x27))))))) (QI λg29=>(Rs.bind (Rs.ok ()) λx31=>(Rs.ok (Ctl.nx x31)))))))) (QY λg33=>(Rs.ok none))))
noncomputable def ZB (a_0:(List (List Int)))(a_1:(List (List Int)))(a_2:(List Int)):Rs Bool:=(Rs.bind (orR (Rs.bind (Rs.bind (Rs.ok a_2) λx1=>(Rs.ok (x1.length:Int))) λx3=>(Rs.bind (Rs.bind (Rs.ok a_0) λx2=>(Rs.ok (x2.length:Int))) λx4=>(Rs.ok (!(decide (x3=x4)))))) (Rs.bind (Rs.bind (Rs.ok a_2) λx7=>(Rs.bind (Rs.bind (Rs.ok a_1) λx6=>(Rs.ok (x6.length:Int))) λx8=>(noE (Y7 x7 x8)))) λx9=>(Rs.ok (!x9)))) λx10=>(if x10=true then(Rs.ok false) else(Rs.bind (Rs.bind (Rs.ok a_0) λx12=>(Rs.bind (Rs.ok a_1) λx13=>(Rs.bind (Rs.ok a_2) λx14=>(noE (Yf x12 x13 x14))))) λx15=>(Rs.ok x15.isNone))))
noncomputable def VN (a_0:(List Int))(a_1:Int):Rs Int:=(Rs.bind (Rs.bind (Rs.ok a_1) λx2=>(Rs.bind (Rs.bind (Rs.ok a_0) λx1=>(Rs.ok (x1.length:Int))) λx3=>(Rs.ok (decide (x2<x3))))) λx4=>(if x4=true then(Rs.bind (Rs.ok a_0) λx5=>(Rs.bind (Rs.ok a_1) λx6=>(atR x5 x6))) else(Rs.bind (Rs.ok (5:Int)) λa7=>(Rs.bind (Rs.bind (Rs.ok a_0) λx10=>(Rs.bind (Rs.ok none) λx11=>(Rs.bind (Rs.bind (Rs.ok (63:Int)) λx9=>(Rs.ok (some x9))) λx12=>(Rs.ok (KU x10 x11 x12))))) λx39=>(Rs.bind (forN x39 (a7) (λg15 a17=>(Rs.bind (Rs.bind (Rs.bind (Rs.bind (Rs.bind (Rs.ok g15) λx21=>(Rs.bind (Rs.ok (48271:Int)) λx22=>(QG x21 x22))) λx25=>(Rs.bind (Rs.bind (Rs.ok a17) λx23=>(Rs.bind (Rs.ok (1000003:Int)) λx24=>(Qg x23 x24))) λx26=>(Rs.ok (x25+x26)))) λx27=>(Rs.bind (Rs.ok (1:Int)) λx28=>(Rs.ok (x27+x28)))) λx29=>(Rs.bind (Rs.ok (2147483647:Int)) λx30=>(Qg x29 x30))) λa19=>(Rs.ok (a19))))) λg31=>(Rs.bind (Rs.bind (Rs.ok g31) λx35=>(Rs.bind (Rs.bind (Rs.ok (7919:Int)) λx33=>(Rs.bind (Rs.ok a_1) λx34=>(QG x33 x34))) λx36=>(Rs.ok (x35+x36)))) λx37=>(Rs.bind (Rs.ok (1000003:Int)) λx38=>(Qg x37 x38))))))))
noncomputable def GL (a_0:Int)(a_1:Int):Rs Int:=(Rs.bind (Rs.bind (Rs.bind (Rs.bind (Rs.bind (Rs.bind (Rs.ok a_0) λx3=>(Rs.bind (Rs.ok (2147483629:Int)) λx4=>(Qg x3 x4))) λx7=>(Rs.bind (Rs.bind (Rs.ok (1013:Int)) λx5=>(Rs.bind (Rs.ok a_1) λx6=>(QG x5 x6))) λx8=>(Rs.ok (x7+x8)))) λx9=>(Rs.bind (Rs.ok (7919:Int)) λx10=>(Rs.ok (x9+x10)))) λx11=>(Rs.bind (Rs.ok (3:Int)) λx12=>(Mm x11 x12))) λx13=>(Rs.bind (Rs.ok (2147483647:Int)) λx14=>(Qg x13 x14))) λa1=>(Rs.bind (Rs.bind (Rs.bind (Rs.bind (Rs.bind (Rs.ok a1) λx17=>(Rs.bind (Rs.ok (40699:Int)) λx18=>(QG x17 x18))) λx23=>(Rs.bind (Rs.bind (Rs.bind (Rs.ok (3793:Int)) λx19=>(Rs.bind (Rs.ok a_1) λx20=>(QG x19 x20))) λx21=>(Rs.bind (Rs.ok a_1) λx22=>(QG x21 x22))) λx24=>(Rs.ok (x23+x24)))) λx25=>(Rs.bind (Rs.ok (11:Int)) λx26=>(Rs.ok (x25+x26)))) λx27=>(Rs.bind (Rs.ok (2147483399:Int)) λx28=>(Qg x27 x28))) λa15=>(Rs.bind (Rs.ok a15) λx29=>(Rs.bind (Rs.ok (101:Int)) λx30=>(B8 x29 x30)))))
noncomputable def Up (a_0:(List Int))(a_1:Int)(a_2:(List Int)):Rs (List Int):=(Rs.bind (Rs.bind (Rs.ok a_0) λx4=>(Rs.bind (Rs.ok a_1) λx5=>(noE (VN x4 x5)))) λa1=>(Rs.bind (Rs.ok a1) λa6=>(Rs.bind (Rs.ok []) λa8=>(Rs.bind (Rs.bind (Rs.bind (Rs.ok a_2) λx11=>(Rs.ok (x11.length:Int))) λx12=>(QZ 0 x12)) λx81=>(Rs.bind (forN x81 (a8,a6) (λg15 a17=>(Rs.bind (Rs.bind (Rs.bind (Rs.ok a1) λx21=>(Rs.bind (Rs.bind (Rs.ok (10:Int)) λx19=>(Rs.bind (Rs.ok (18:Int)) λx20=>(Mm x19 x20))) λx22=>(Rs.ok (decide (x21<x22))))) λx23=>(if x23=true then(Rs.bind (Rs.bind (Rs.bind (Rs.ok a1) λx27=>(Rs.bind (Rs.ok a17) λx28=>(noE (GL x27 x28)))) λx31=>(Rs.bind (Rs.bind (Rs.ok a_2) λx29=>(Rs.bind (Rs.ok a17) λx30=>(atR x29 x30))) λx32=>(Qg x31 x32))) λa33=>(chk (g15.1.length<sizeLine) ((λa35=>(Rs.ok (a35,g15.2))) (g15.1++[a33])))) else(Rs.bind (Rs.bind (Rs.bind (Rs.ok g15.2) λx36=>(Rs.bind (Rs.ok (0:Int)) λx37=>(Rs.ok (decide (x37<x36))))) λx38=>(if x38=true then(Rs.bind (Rs.bind (Rs.ok g15.2) λx43=>(Rs.bind (Rs.bind (Rs.ok a_2) λx41=>(Rs.bind (Rs.ok a17) λx42=>(atR x41 x42))) λx44=>(Qg x43 x44))) λa45=>(chk (g15.1.length<sizeLine) ((λa47=>(Rs.bind (Rs.bind (Rs.ok g15.2) λx52=>(Rs.bind (Rs.bind (Rs.ok a_2) λx50=>(Rs.bind (Rs.ok a17) λx51=>(atR x50 x51))) λx53=>(B8 x52 x53))) λa48=>(Rs.ok (a48,a47)))) (g15.1++[a45])))) else(Rs.bind (Rs.bind (Rs.ok a_0) λx63=>(Rs.bind (Rs.bind (Rs.bind (Rs.bind (Rs.ok a_1) λx57=>(Rs.bind (Rs.ok (1:Int)) λx58=>(Rs.ok (x57+x58)))) λx59=>(Rs.bind (Rs.ok a17) λx60=>(Rs.ok (x59+x60)))) λx61=>(Rs.bind (Rs.ok (63:Int)) λx62=>(Qg x61 x62))) λx64=>(noE (VN x63 x64)))) λa54=>(Rs.bind (Rs.bind (Rs.bind (Rs.ok a54) λx66=>(Rs.bind (Rs.ok a17) λx67=>(noE (GL x66 x67)))) λx70=>(Rs.bind (Rs.bind (Rs.ok a_2) λx68=>(Rs.bind (Rs.ok a17) λx69=>(atR x68 x69))) λx71=>(Qg x70 x71))) λa72=>(chk (g15.1.length<sizeLine) ((λa74=>(Rs.ok (g15.2,a74))) (g15.1++[a72]))))))) λg76=>(Rs.ok (g76.2,g76.1))))) λg78=>(Rs.ok (g78.1,g78.2))))) λg79=>(Rs.ok g79.1))))))
noncomputable def J0 (a_0:(List Int))(a_1:(List Int)):Rs (List Int):=(Rs.bind (Rs.bind (Rs.ok a_0) λx4=>(Rs.ok x4)) λa1=>(Rs.bind (Rs.ok []) λa5=>(Rs.bind (Rs.bind (Rs.bind (Rs.ok a_0) λx8=>(Rs.ok (x8.length:Int))) λx9=>(QZ 0 x9)) λx34=>(Rs.bind (forN x34 (a5,a1) (λg12 a14=>(Rs.bind (Rs.bind (Rs.bind (Rs.ok a_1) λx20=>(Rs.bind (Rs.bind (Rs.bind (Rs.ok (8:Int)) λx16=>(Rs.bind (Rs.ok a14) λx17=>(QG x16 x17))) λx18=>(Rs.bind (Rs.ok (9:Int)) λx19=>(Rs.ok (x18+x19)))) λx21=>(atR x20 x21))) λx23=>(Rs.bind (Rs.bind (Rs.ok g12.2) λx22=>(Rs.ok (x22.length:Int))) λx24=>(Qg x23 x24))) λx30=>(Rs.bind (DM g12.2 x30) λp31=>(chk (g12.1.length<sizeLine) ((λa26 a27=>(Rs.ok (a27,a26))) p31.2 (g12.1++[p31.1]))))))) λg32=>(Rs.ok g32.1)))))
noncomputable def Dg (a_0:(List Int))(a_1:(List Int))(a_2:Int):Rs (List (List Int)):=(Rs.bind (Rs.ok []) λa1=>(Rs.bind (Rs.ok a_0) λx70=>(Rs.bind (forN x70 (a1) (λg6 a8=>(Rs.bind (Rs.bind (Rs.bind (Rs.ok a8) λx14=>(Rs.bind (Rs.bind (Rs.bind (Rs.ok a8) λx11=>(Rs.ok (-x11))) λx12=>(Rs.bind (Rs.ok []) λx13=>(Rs.ok (x12::x13)))) λx15=>(Rs.ok (x14::x15)))) λx10=>(chk (x10.length<=sizeLine) (Rs.ok x10))) λa16=>(chk (g6.length+a16.length<=sizeLine) ((λa18=>(Rs.ok (a18))) (g6++a16)))))) λg19=>(Rs.bind (Rs.bind (Rs.bind (Rs.ok a_2) λx24=>(QZ 0 x24)) λx28=>(Vl x28 (λa26=>(Rs.ok [])))) λa21=>(Rs.bind (Rs.bind (Rs.bind (Rs.ok (2:Int)) λx30=>(Rs.bind (Rs.bind (Rs.ok a_0) λx29=>(Rs.ok (x29.length:Int))) λx31=>(QG x30 x31))) λx32=>(QZ 0 x32)) λx69=>(Rs.bind (forN x69 (g19,a21) (λg35 a37=>(Rs.bind (Rs.bind (Rs.bind (Rs.ok (4:Int)) λx41=>(Rs.bind (Rs.ok a37) λx42=>(QG x41 x42))) λx43=>(Rs.bind (Rs.ok (5:Int)) λx44=>(Rs.ok (x43+x44)))) λa39=>(Rs.bind (Rs.bind (Rs.bind (Rs.ok a_1) λx45=>(Rs.bind (Rs.ok a39) λx46=>(atR x45 x46))) λx48=>(Rs.bind (Rs.bind (Rs.ok g35.1) λx47=>(Rs.ok (x47.length:Int))) λx49=>(Qg x48 x49))) λx54=>(Rs.bind (DM g35.1 x54) (λp55=>(λa50 a51=>(Rs.bind (Rs.bind (Rs.bind (Rs.ok a_1) λx58=>(Rs.bind (Rs.bind (Rs.ok a39) λx56=>(Rs.bind (Rs.ok (1:Int)) λx57=>(Rs.ok (x56+x57)))) λx59=>(atR x58 x59))) λx60=>(Rs.bind (Rs.ok a_2) λx61=>(Qg x60 x61))) λx63=>(Rs.bind (atR g35.2 x63) λx64=>(Rs.bind (Rs.ok a50) λx62=>(chk (x64.length<sizeLine) (Rs.bind (JY g35.2 x63 (x64++[x62])) λa65=>(Rs.ok (a51,a65)))))))) p55.1 p55.2)))))) λg67=>(Rs.ok g67.2)))))))
noncomputable def Qc (a_0:(List Int))(a_1:(List (Int×Int)))(a_2:(List Int))(a_3:Int):Rs (List (List Int)):=(Rs.bind (Rs.bind (Rs.bind (Rs.bind (Rs.ok false) λx7=>(Rs.bind (Rs.ok []) λx8=>(Rs.ok (x7::x8)))) λx6=>(chk (x6.length<=sizeLine) (Rs.ok x6))) λx4=>(Rs.bind (Rs.ok a_3) λx5=>(U8 x4 x5))) λa1=>(Rs.bind (Rs.ok []) λa9=>(Rs.bind (Rs.bind (Rs.ok a_3) λx12=>(QZ 0 x12)) λx118=>(Rs.bind (forN x118 (a1,a9) (λg15 a17=>(Rs.bind (Rs.bind (Rs.bind (Rs.bind (Rs.ok g15.1) λx19=>(Rs.bind (Rs.ok a17) λx20=>(atR x19 x20))) λx21=>(Rs.ok (!x21))) λx22=>(if x22=true then(Rs.bind (Rs.ok []) λa25=>(Rs.bind (Rs.ok a17) λa28=>(Rs.bind (Q1 (a_3.natAbs+2) (g15.1,a28,a25) (λg32=>(Rs.bind (Rs.bind (Rs.ok g32.1) λx34=>(Rs.bind (Rs.ok g32.2.1) λx35=>(atR x34 x35))) λx36=>(Rs.ok (!x36)))) (λg32=>(Rs.bind (Rs.ok true) λx37=>(Rs.bind (Rs.ok g32.2.1) λx38=>(Rs.bind (JY g32.1 x38 x37) λa39=>(Rs.bind (Rs.bind (Rs.bind (Rs.ok a_0) λx41=>(Rs.ok (x41.length:Int))) λx42=>(QZ 0 x42)) λx108=>(Rs.bind (forN x108 (g32.2.1,g32.2.2) (λg45 a47=>(Rs.bind (Rs.bind (Rs.bind (Rs.ok a_2) λx55=>(Rs.bind (Rs.bind (Rs.bind (Rs.ok (8:Int)) λx51=>(Rs.bind (Rs.ok a47) λx52=>(QG x51 x52))) λx53=>(Rs.bind (Rs.ok (10:Int)) λx54=>(Rs.ok (x53+x54)))) λx56=>(atR x55 x56))) λx59=>(Rs.bind (Rs.bind (Rs.ok a_3) λx57=>(Rs.bind (Rs.ok (1:Int)) λx58=>(Rs.ok (x57-x58)))) λx60=>(Qg x59 x60))) λa49=>(Rs.bind (Rs.bind (Rs.bind (Rs.ok g45.1) λx61=>(Rs.bind (Rs.ok a49) λx62=>(Rs.ok (decide (x61=x62))))) λx63=>(if x63=true then(Rs.bind (Rs.bind (Rs.bind (Rs.ok a_0) λx66=>(Rs.bind (Rs.ok a47) λx67=>(atR x66 x67))) λx72=>(Rs.bind (Rs.bind (Rs.ok a_1) λx70=>(Rs.bind (Rs.bind (Rs.ok a_0) λx68=>(Rs.bind (Rs.ok a47) λx69=>(atR x68 x69))) λx71=>(Ur x70 x71))) λx73=>(QG x72 x73))) λa74=>(chk (g45.2.length<sizeLine) ((λa76=>(Rs.bind (Rs.bind (Rs.ok a49) λx79=>(Rs.bind (Rs.ok (1:Int)) λx80=>(Rs.ok (x79+x80)))) λa77=>(Rs.ok (a77,a76)))) (g45.2++[a74])))) else(Rs.bind (Rs.bind (Rs.bind (Rs.ok g45.1) λx83=>(Rs.bind (Rs.bind (Rs.ok a49) λx81=>(Rs.bind (Rs.ok (1:Int)) λx82=>(Rs.ok (x81+x82)))) λx84=>(Rs.ok (decide (x83=x84))))) λx85=>(if x85=true then(Rs.bind (Rs.bind (Rs.bind (Rs.bind (Rs.ok a_0) λx88=>(Rs.bind (Rs.ok a47) λx89=>(atR x88 x89))) λx90=>(Rs.ok (-x90))) λx95=>(Rs.bind (Rs.bind (Rs.ok a_1) λx93=>(Rs.bind (Rs.bind (Rs.ok a_0) λx91=>(Rs.bind (Rs.ok a47) λx92=>(atR x91 x92))) λx94=>(Ur x93 x94))) λx96=>(QG x95 x96))) λa97=>(chk (g45.2.length<sizeLine) ((λa99=>(Rs.bind (Rs.ok a49) λa100=>(Rs.ok (a100,a99)))) (g45.2++[a97])))) else(Rs.ok (g45.1,g45.2)))) λg103=>(Rs.ok (g103.1,g103.2))))) λg105=>(Rs.ok (g105.1,g105.2)))))) λg106=>(Rs.ok (a39,g106.1,g106.2))))))))) λg109=>(Rs.bind (Rs.ok g109.2.2) λa111=>(chk (g15.2.length<sizeLine) ((λa113=>(Rs.ok (g109.1,a113))) (g15.2++[a111]))))))) else(Rs.ok (g15.1,g15.2)))) λg115=>(Rs.ok (g115.1,g115.2))))) λg116=>(Rs.ok g116.2)))))
noncomputable def Q9 (a_0:(List Int))(a_1:Int)(a_2:Int):Rs ((List (List Int))×(List (Int×Int))):=(Rs.bind (Rs.bind (Rs.bind (Rs.bind (Rs.ok a_2) λx4=>(Rs.bind (Rs.ok (1:Int)) λx5=>(Rs.ok (x4+x5)))) λx14=>(Rs.bind (Rs.bind (Rs.ok (5:Int)) λx12=>(Rs.bind (Rs.bind (Rs.ok (4:Int)) λx10=>(Rs.bind (Rs.bind (Rs.ok (3:Int)) λx8=>(Rs.bind (Rs.bind (Rs.ok (3:Int)) λx6=>(Rs.bind (Rs.ok []) λx7=>(Rs.ok (x6::x7)))) λx9=>(Rs.ok (x8::x9)))) λx11=>(Rs.ok (x10::x11)))) λx13=>(Rs.ok (x12::x13)))) λx15=>(Rs.ok (x14::x15)))) λx3=>(chk (x3.length<=sizeLine) (Rs.ok x3))) λa1=>(Rs.bind (Rs.bind (Rs.ok a_0) λx34=>(Rs.bind (Rs.ok a_1) λx35=>(Rs.bind (Rs.bind (Rs.ok a1) λx19=>(Rs.bind (Rs.bind (Rs.bind (Rs.bind (Rs.ok (80:Int)) λx30=>(Rs.bind (Rs.bind (Rs.ok (5:Int)) λx28=>(Rs.bind (Rs.bind (Rs.ok (2:Int)) λx26=>(Rs.bind (Rs.bind (Rs.ok (3:Int)) λx24=>(Rs.bind (Rs.ok []) λx25=>(Rs.ok (x24::x25)))) λx27=>(Rs.ok (x26::x27)))) λx29=>(Rs.ok (x28::x29)))) λx31=>(Rs.ok (x30::x31)))) λx23=>(chk (x23.length<=sizeLine) (Rs.ok x23))) λx21=>(Rs.bind (Rs.bind (Rs.ok (2:Int)) λx32=>(Rs.bind (Rs.ok a_2) λx33=>(QG x32 x33))) λx22=>(U8 x21 x22))) λx20=>(GE x19 x20))) λx36=>(noE (Up x34 x35 x36))))) λa16=>(Rs.bind (Rs.ok []) λa37=>(Rs.bind (Rs.ok []) λa40=>(Rs.bind (Rs.ok (0:Int)) λa43=>(Rs.bind (Rs.bind (Rs.bind (Rs.ok a16) λx45=>(Rs.bind (Rs.ok (0:Int)) λx46=>(atR x45 x46))) λx47=>(QZ 0 x47)) λx152=>(Rs.bind (forN x152 (a43,a40,a37) (λg50 a52=>(Rs.bind (Rs.bind (Rs.bind (Rs.ok a16) λx60=>(Rs.bind (Rs.bind (Rs.bind (Rs.ok (8:Int)) λx56=>(Rs.bind (Rs.ok a52) λx57=>(QG x56 x57))) λx58=>(Rs.bind (Rs.ok (8:Int)) λx59=>(Rs.ok (x58+x59)))) λx61=>(atR x60 x61))) λx75=>(Rs.bind (Rs.bind (Rs.bind (Rs.bind (Rs.ok (0:Int)) λx69=>(Rs.bind (Rs.bind (Rs.ok (1:Int)) λx67=>(Rs.bind (Rs.bind (Rs.bind (Rs.ok (10:Int)) λx63=>(Rs.bind (Rs.ok (9:Int)) λx64=>(Mm x63 x64))) λx65=>(Rs.bind (Rs.ok []) λx66=>(Rs.ok (x65::x66)))) λx68=>(Rs.ok (x67::x68)))) λx70=>(Rs.ok (x69::x70)))) λx62=>(chk (x62.length<=sizeLine) (Rs.ok x62))) λx73=>(Rs.bind (Rs.bind (Rs.ok a16) λx71=>(Rs.bind (Rs.ok (3:Int)) λx72=>(atR x71 x72))) λx74=>(atR x73 x74))) λx76=>(QG x75 x76))) λa54=>(Rs.bind (Rs.bind (Rs.bind (Rs.ok g50.1) λx79=>(Rs.bind (Rs.ok (1:Int)) λx80=>(Rs.ok (x79+x80)))) λx81=>(Rs.bind (Rs.ok a54) λx82=>(Rs.ok (x81+x82)))) λa77=>(Rs.bind (Rs.ok a77) λa83=>(chk (g50.2.2.length<sizeLine) ((λa85=>(Rs.bind (Rs.bind (Rs.bind (Rs.ok (2:Int)) λx92=>(Rs.bind (Rs.bind (Rs.ok a16) λx90=>(Rs.bind (Rs.bind (Rs.bind (Rs.ok (8:Int)) λx86=>(Rs.bind (Rs.ok a52) λx87=>(QG x86 x87))) λx88=>(Rs.bind (Rs.ok (7:Int)) λx89=>(Rs.ok (x88+x89)))) λx91=>(atR x90 x91))) λx93=>(QG x92 x93))) λx94=>(Rs.bind (Rs.ok (1:Int)) λx95=>(Rs.ok (x94-x95)))) λx96=>(Rs.bind (Rs.ok a77) λx97=>(chk (g50.2.1.length<sizeLine) ((λa98=>(Rs.ok (a77,a98,a85))) (GI g50.2.1 x97 x96)))))) (g50.2.2++[a83])))))))) λg100=>(Rs.bind (Rs.bind (Rs.bind (Rs.bind (Rs.ok a16) λx102=>(Rs.bind (Rs.ok (2:Int)) λx103=>(atR x102 x103))) λx104=>(Rs.bind (Rs.ok (2:Int)) λx105=>(Rs.ok (decide (x104<x105))))) λx106=>(if x106=true then(Rs.bind (Rs.bind (Rs.bind (Rs.ok g100.2.2) λx114=>(Rs.bind (Rs.ok a16) λx115=>(noE (J0 x114 x115)))) λx120=>(Rs.bind (Rs.ok g100.2.1) λx121=>(Rs.bind (Rs.ok a16) λx122=>(Rs.bind (Rs.bind (Rs.ok (2:Int)) λx118=>(Rs.bind (Rs.bind (Rs.ok a16) λx116=>(Rs.bind (Rs.ok (4:Int)) λx117=>(atR x116 x117))) λx119=>(Rs.ok (x118+x119)))) λx123=>(noE (Qc x120 x121 x122 x123)))))) λa109=>(Rs.ok (a109))) else(Rs.bind (Rs.bind (Rs.bind (Rs.ok a16) λx126=>(Rs.bind (Rs.ok (1:Int)) λx127=>(atR x126 x127))) λx131=>(Rs.bind (Rs.bind (Rs.bind (Rs.ok g100.2.2) λx128=>(Rs.ok (x128.length:Int))) λx129=>(Rs.bind (Rs.ok (1:Int)) λx130=>(Rs.ok (min x129 x130)))) λx132=>(Rs.ok (max x131 x132)))) λa124=>(Rs.bind (Rs.bind (Rs.ok g100.2.2) λx137=>(Rs.bind (Rs.ok a16) λx138=>(Rs.bind (Rs.ok a124) λx139=>(noE (Dg x137 x138 x139))))) λa133=>(Rs.ok (a133)))))) λg141=>(Rs.bind (Rs.ok g141) λx150=>(Rs.bind (Rs.bind (Rs.ok g100.2.2) λx145=>(Vl x145 (λa143=>(Rs.bind (Rs.ok a143) λx148=>(Rs.bind (Rs.bind (Rs.ok g100.2.1) λx146=>(Rs.bind (Rs.ok a143) λx147=>(Ur x146 x147))) λx149=>(Rs.ok (x148,x149))))))) λx151=>(Rs.ok (x150,x151))))))))))))
noncomputable def VD (a_0:((List (List Int))×(List (Int×Int)))):Rs ((List (List Int))×(List (Int×Int))):=(Rs.bind (Rs.bind (Rs.bind (Rs.ok a_0) λx1=>(Rs.ok x1.1)) λx5=>(Vl x5 (λa3=>(Rs.bind (Rs.ok a3) λx6=>(Rs.ok x6))))) λx9=>(Rs.bind (Rs.bind (Rs.bind (Rs.ok a_0) λx8=>(Rs.ok x8.2)) λx7=>(Rs.ok x7)) λx10=>(Rs.ok (x9,x10))))
noncomputable def QQ (a_0:Int):Rs Bool:=(Uw (Rs.bind (Rs.ok a_0) λx1=>(Rs.ok true)) (Rs.bind (Rs.bind (Rs.ok a_0) λx2=>(Rs.ok false)) λx3=>(Rs.ok (!x3))))
noncomputable def Y4 (a_0:(List Int)):Rs Bool:=(Rs.bind (Rs.bind (Rs.bind (Rs.ok a_0) λx1=>(Rs.ok true)) λx2=>(Rs.ok (!x2))) λx3=>(if x3=true then(Rs.ok false) else(Rs.bind (Rs.ok a_0) λx18=>(Rs.bind (forC x18 () (λg6 a8=>(Rs.bind (Rs.bind (Rs.bind (Rs.ok a8) λx11=>(noE (QQ x11))) λx12=>(Rs.ok (!x12))) λx13=>(if x13=true then(Rs.bind (Rs.ok false) λx15=>(Rs.ok (Ctl.ret x15))) else(Rs.bind (Rs.ok ()) λx14=>(Rs.ok (Ctl.nx x14))))))) (QY λg16=>(Rs.ok true))))))
noncomputable def ZS (a_0:Int)(a_1:Int)(a_2:Int)(a_3:Int)(a_4:Int):Rs Int:=(Rs.bind (Rs.bind (Rs.ok a_1) λx3=>(Rs.bind (Rs.ok (2:Int)) λx4=>(B8 x3 x4))) λa1=>(Rs.bind (Rs.bind (Rs.ok a_0) λx5=>(Rs.bind (Rs.ok (1:Int)) λx6=>(Rs.ok (decide (x5=x6))))) λx7=>(if x7=true then(Rs.bind (Rs.bind (Rs.bind (Rs.ok (2:Int)) λx8=>(Rs.bind (Rs.ok a_4) λx9=>(QG x8 x9))) λx10=>(Rs.bind (Rs.ok a_3) λx11=>(Rs.ok (x10-x11)))) λx12=>(Rs.bind (Rs.ok a_1) λx13=>(Qg x12 x13))) else(Rs.bind (Rs.bind (Rs.ok a_0) λx14=>(Rs.bind (Rs.ok (2:Int)) λx15=>(Rs.ok (decide (x14=x15))))) λx16=>(if x16=true then(Rs.bind (Rs.bind (Rs.bind (Rs.ok a_2) λx17=>(Rs.bind (Rs.ok a_3) λx18=>(QG x17 x18))) λx23=>(Rs.bind (Rs.bind (Rs.bind (Rs.ok (1:Int)) λx19=>(Rs.bind (Rs.ok a_2) λx20=>(Rs.ok (x19-x20)))) λx21=>(Rs.bind (Rs.ok a_4) λx22=>(QG x21 x22))) λx24=>(Rs.ok (x23+x24)))) λx25=>(Rs.bind (Rs.ok a_1) λx26=>(Qg x25 x26))) else(Rs.bind (Uw (Rs.bind (Rs.ok a_0) λx27=>(Rs.bind (Rs.ok (3:Int)) λx28=>(Rs.ok (decide (x27=x28))))) (Uw (Rs.bind (Rs.ok a_1) λx29=>(Rs.bind (Rs.ok (2:Int)) λx30=>(Rs.ok (decide (x30<x29))))) (Uw (Rs.bind (Rs.ok a_3) λx31=>(Rs.bind (Rs.ok (2:Int)) λx32=>(Rs.ok (decide (x31<x32))))) (Rs.bind (Rs.ok a_4) λx35=>(Rs.bind (Rs.bind (Rs.ok a_1) λx33=>(Rs.bind (Rs.ok (1:Int)) λx34=>(Rs.ok (x33-x34)))) λx36=>(Rs.ok (decide (x35=x36)))))))) λx37=>(if x37=true then(Rs.bind (Rs.ok (1:Int)) λx38=>(Rs.bind (Rs.ok a_3) λx39=>(Rs.ok (x38-x39)))) else(Rs.bind (Uw (Rs.bind (Rs.ok a_0) λx40=>(Rs.bind (Rs.ok (6:Int)) λx41=>(Rs.ok (decide (x40=x41))))) (Uw (Rs.bind (Rs.ok a_3) λx44=>(Rs.bind (Rs.bind (Rs.ok a_1) λx42=>(Rs.bind (Rs.ok (1:Int)) λx43=>(Rs.ok (x42-x43)))) λx45=>(Rs.ok (decide (x44<x45))))) (Rs.bind (Rs.ok a_4) λx48=>(Rs.bind (Rs.bind (Rs.ok a_1) λx46=>(Rs.bind (Rs.ok (1:Int)) λx47=>(Rs.ok (x46-x47)))) λx49=>(Rs.ok (decide (x48=x49))))))) λx50=>(if x50=true then(Rs.bind (Rs.bind (Rs.ok a_3) λx51=>(Rs.bind (Rs.ok (1:Int)) λx52=>(Rs.ok (x51+x52)))) λx55=>(Rs.bind (Rs.bind (Rs.ok a_1) λx53=>(Rs.bind (Rs.ok (1:Int)) λx54=>(Rs.ok (x53-x54)))) λx56=>(Qg x55 x56))) else(Rs.bind (Uw (Rs.bind (Rs.ok a_0) λx57=>(Rs.bind (Rs.ok (4:Int)) λx58=>(Rs.ok (decide (x57=x58))))) (Uw (Rs.bind (Rs.ok a_3) λx59=>(Rs.bind (Rs.ok a1) λx60=>(Rs.ok (decide (x59<x60))))) (Rs.bind (Rs.ok a_4) λx61=>(Rs.bind (Rs.ok a1) λx62=>(Rs.ok (decide (x61<x62))))))) λx63=>(if x63=true then(Rs.bind (Rs.bind (Rs.bind (Rs.ok (2:Int)) λx64=>(Rs.bind (Rs.ok a_4) λx65=>(QG x64 x65))) λx66=>(Rs.bind (Rs.ok a_3) λx67=>(Rs.ok (x66-x67)))) λx68=>(Rs.bind (Rs.ok a1) λx69=>(Qg x68 x69))) else(Rs.bind (Uw (Rs.bind (Rs.ok a_0) λx70=>(Rs.bind (Rs.ok (4:Int)) λx71=>(Rs.ok (decide (x70=x71))))) (Uw (Rs.bind (Rs.ok a_3) λx72=>(Rs.bind (Rs.ok a1) λx73=>(Rs.ok (decide (x73<=x72))))) (Rs.bind (Rs.ok a_4) λx74=>(Rs.bind (Rs.ok a1) λx75=>(Rs.ok (decide (x75<=x74))))))) λx76=>(if x76=true then(Rs.bind (Rs.ok a1) λx87=>(Rs.bind (Rs.bind (Rs.bind (Rs.bind (Rs.bind (Rs.ok (2:Int)) λx77=>(Rs.bind (Rs.ok a_4) λx78=>(QG x77 x78))) λx79=>(Rs.bind (Rs.ok a_3) λx80=>(Rs.ok (x79-x80)))) λx81=>(Rs.bind (Rs.ok a1) λx82=>(Rs.ok (x81-x82)))) λx85=>(Rs.bind (Rs.bind (Rs.ok a_1) λx83=>(Rs.bind (Rs.ok a1) λx84=>(Rs.ok (x83-x84)))) λx86=>(Qg x85 x86))) λx88=>(Rs.ok (x87+x88)))) else(Rs.ok a_3))))))))))))))
noncomputable def QN (a_0:Int)(a_1:Int):Rs Int:=(Rs.bind (Rs.bind (Rs.ok a_0) λx1=>(Rs.ok (x1.natAbs:Int))) λa3=>(Rs.bind (Rs.bind (Rs.ok a_1) λx2=>(Rs.ok (x2.natAbs:Int))) λa4=>(Rs.bind (Q1 (a3.natAbs+a4.natAbs+2) (a3,a4) (λg9=>(Rs.bind (Rs.ok g9.2) λx11=>(Rs.bind (Rs.ok (0:Int)) λx12=>(Rs.ok (decide (x12<x11)))))) (λg9=>(Rs.bind (Rs.ok g9.2) λa15=>(Rs.bind (Rs.bind (Rs.ok g9.1) λx13=>(Rs.bind (Rs.ok g9.2) λx14=>(Qg x13 x14))) λa16=>(Rs.ok (a15,a16)))))) λg19=>(Rs.ok g19.1))))
noncomputable def UP (a_0:Int)(a_1:Int)(a_2:Int):Rs (List (List Int)):=(Rs.bind (Uw (Rs.bind (Rs.ok a_0) λx1=>(Rs.bind (Rs.ok (5:Int)) λx2=>(Rs.ok (decide (x1=x2))))) (Rs.bind (Rs.ok a_1) λx3=>(Rs.bind (Rs.ok (4:Int)) λx4=>(Rs.ok (decide (x3=x4)))))) λx5=>(if x5=true then(Rs.bind (Rs.bind (Rs.bind (Rs.bind (Rs.ok (0:Int)) λx14=>(Rs.bind (Rs.bind (Rs.ok (3:Int)) λx12=>(Rs.bind (Rs.bind (Rs.ok (1:Int)) λx10=>(Rs.bind (Rs.bind (Rs.ok (2:Int)) λx8=>(Rs.bind (Rs.ok []) λx9=>(Rs.ok (x8::x9)))) λx11=>(Rs.ok (x10::x11)))) λx13=>(Rs.ok (x12::x13)))) λx15=>(Rs.ok (x14::x15)))) λx7=>(chk (x7.length<=sizeLine) (Rs.ok x7))) λx49=>(Rs.bind (Rs.bind (Rs.bind (Rs.bind (Rs.ok (2:Int)) λx23=>(Rs.bind (Rs.bind (Rs.ok (1:Int)) λx21=>(Rs.bind (Rs.bind (Rs.ok (3:Int)) λx19=>(Rs.bind (Rs.bind (Rs.ok (0:Int)) λx17=>(Rs.bind (Rs.ok []) λx18=>(Rs.ok (x17::x18)))) λx20=>(Rs.ok (x19::x20)))) λx22=>(Rs.ok (x21::x22)))) λx24=>(Rs.ok (x23::x24)))) λx16=>(chk (x16.length<=sizeLine) (Rs.ok x16))) λx47=>(Rs.bind (Rs.bind (Rs.bind (Rs.bind (Rs.ok (3:Int)) λx32=>(Rs.bind (Rs.bind (Rs.ok (0:Int)) λx30=>(Rs.bind (Rs.bind (Rs.ok (2:Int)) λx28=>(Rs.bind (Rs.bind (Rs.ok (1:Int)) λx26=>(Rs.bind (Rs.ok []) λx27=>(Rs.ok (x26::x27)))) λx29=>(Rs.ok (x28::x29)))) λx31=>(Rs.ok (x30::x31)))) λx33=>(Rs.ok (x32::x33)))) λx25=>(chk (x25.length<=sizeLine) (Rs.ok x25))) λx45=>(Rs.bind (Rs.bind (Rs.bind (Rs.bind (Rs.ok (1:Int)) λx41=>(Rs.bind (Rs.bind (Rs.ok (2:Int)) λx39=>(Rs.bind (Rs.bind (Rs.ok (0:Int)) λx37=>(Rs.bind (Rs.bind (Rs.ok (3:Int)) λx35=>(Rs.bind (Rs.ok []) λx36=>(Rs.ok (x35::x36)))) λx38=>(Rs.ok (x37::x38)))) λx40=>(Rs.ok (x39::x40)))) λx42=>(Rs.ok (x41::x42)))) λx34=>(chk (x34.length<=sizeLine) (Rs.ok x34))) λx43=>(Rs.bind (Rs.ok []) λx44=>(Rs.ok (x43::x44)))) λx46=>(Rs.ok (x45::x46)))) λx48=>(Rs.ok (x47::x48)))) λx50=>(Rs.ok (x49::x50)))) λx6=>(chk (x6.length<=sizeLine) (Rs.ok x6))) else(Rs.bind (Q1 (a_1.natAbs+2) (a_2) (λg53=>(Rs.bind (Rs.bind (Rs.ok g53) λx56=>(Rs.bind (Rs.ok a_1) λx57=>(noE (QN x56 x57)))) λx58=>(Rs.bind (Rs.ok (1:Int)) λx59=>(Rs.ok (!(decide (x58=x59))))))) (λg53=>(Rs.bind (Rs.bind (Rs.ok g53) λx62=>(Rs.bind (Rs.ok (1:Int)) λx63=>(Rs.ok (x62+x63)))) λa60=>(Rs.ok (a60))))) λg64=>(Rs.bind (Rs.ok []) λa66=>(Rs.bind (Rs.bind (Rs.ok a_1) λx69=>(QZ 0 x69)) λx92=>(Rs.bind (forN x92 (a66) (λg72 a74=>(Rs.bind (Rs.bind (Rs.bind (Rs.ok a_1) λx76=>(QZ 0 x76)) λx80=>(Vl x80 (λa78=>(Rs.bind (Rs.ok a_0) λx82=>(Rs.bind (Rs.ok a_1) λx83=>(Rs.bind (Rs.ok g64) λx84=>(Rs.bind (Rs.ok a74) λx85=>(Rs.bind (Rs.ok a78) λx86=>(noE (ZS x82 x83 x84 x85 x86)))))))))) λa87=>(chk (g72.length<sizeLine) ((λa89=>(Rs.ok (a89))) (g72++[a87])))))) λg90=>(Rs.ok g90)))))))
noncomputable def ZC (a_0:(List Int))(a_1:Int):Rs (List Int):=(Rs.bind (Rs.bind (Rs.ok a_1) λx4=>(chk (0<=x4/\x4<=1000) (Rs.ok (ZW 0 x4)))) λa1=>(Rs.bind (Rs.ok []) λa5=>(Rs.bind (Rs.bind (Rs.ok a_1) λx8=>(QZ 0 x8)) λx29=>(Rs.bind (forN x29 (a5,a1) (λg11 a13=>(Rs.bind (Rs.bind (Rs.bind (Rs.ok a_0) λx15=>(Rs.bind (Rs.ok a13) λx16=>(atR x15 x16))) λx18=>(Rs.bind (Rs.bind (Rs.ok g11.2) λx17=>(Rs.ok (x17.length:Int))) λx19=>(Qg x18 x19))) λx25=>(Rs.bind (DM g11.2 x25) λp26=>(chk (g11.1.length<sizeLine) ((λa21 a22=>(Rs.ok (a22,a21))) p26.2 (g11.1++[p26.1]))))))) λg27=>(Rs.ok g27.1)))))
noncomputable def Z2 (a_0:(List (List Int)))(a_1:(List Int)):Rs (List (List Int)):=(Rs.bind (Rs.bind (Rs.ok a_0) λx7=>(Vl x7 (λa5=>(Rs.bind (Rs.ok a5) λx8=>(Rs.ok x8))))) λa1=>(Rs.bind (Rs.bind (Rs.bind (Rs.ok a_0) λx9=>(Rs.ok (x9.length:Int))) λx10=>(QZ 0 x10)) λx47=>(Rs.bind (forN x47 (a1) (λg13 a15=>(Rs.bind (Rs.bind (Rs.bind (Rs.ok a_0) λx17=>(Rs.ok (x17.length:Int))) λx18=>(QZ 0 x18)) λx44=>(Rs.bind (forN x44 (g13) (λg21 a23=>(Rs.bind (Rs.bind (Rs.ok a_1) λx29=>(Rs.bind (Rs.bind (Rs.bind (Rs.ok a_0) λx25=>(Rs.bind (Rs.ok a15) λx26=>(atR x25 x26))) λx27=>(Rs.bind (Rs.ok a23) λx28=>(atR x27 x28))) λx30=>(atR x29 x30))) λx35=>(Rs.bind (Rs.bind (Rs.ok a_1) λx31=>(Rs.bind (Rs.ok a15) λx32=>(atR x31 x32))) λx36=>(Rs.bind (atR g21 x36) λx40=>(Rs.bind (Rs.bind (Rs.ok a_1) λx33=>(Rs.bind (Rs.ok a23) λx34=>(atR x33 x34))) λx37=>(Rs.bind (JY x40 x37 x35) λx41=>(Rs.bind (JY g21 x36 x41) λa38=>(Rs.ok (a38)))))))))) λg42=>(Rs.ok (g42)))))) λg45=>(Rs.ok g45))))
noncomputable def Y1 (a_0:(List Int))(a_1:Int)(a_2:Int):Rs (List (List Int)):=(Rs.bind (Rs.bind (Rs.ok a_0) λx22=>(Rs.bind (Rs.ok a_1) λx23=>(Rs.bind (Rs.bind (Rs.bind (Rs.bind (Rs.ok (7:Int)) λx15=>(Rs.bind (Rs.bind (Rs.ok (24:Int)) λx13=>(Rs.bind (Rs.bind (Rs.ok (6:Int)) λx11=>(Rs.bind (Rs.bind (Rs.ok (2:Int)) λx9=>(Rs.bind (Rs.bind (Rs.ok (6:Int)) λx7=>(Rs.bind (Rs.ok []) λx8=>(Rs.ok (x7::x8)))) λx10=>(Rs.ok (x9::x10)))) λx12=>(Rs.ok (x11::x12)))) λx14=>(Rs.ok (x13::x14)))) λx16=>(Rs.ok (x15::x16)))) λx6=>(chk (x6.length<=sizeLine) (Rs.ok x6))) λx4=>(Rs.bind (Rs.bind (Rs.bind (Rs.bind (Rs.ok (24:Int)) λx20=>(Rs.bind (Rs.ok []) λx21=>(Rs.ok (x20::x21)))) λx19=>(chk (x19.length<=sizeLine) (Rs.ok x19))) λx17=>(Rs.bind (Rs.ok (24:Int)) λx18=>(U8 x17 x18))) λx5=>(GE x4 x5))) λx24=>(noE (Up x22 x23 x24))))) λa1=>(Rs.bind (Rs.bind (Rs.ok (1:Int)) λx31=>(Rs.bind (Rs.bind (Rs.bind (Rs.ok a1) λx27=>(Rs.bind (Rs.ok (1:Int)) λx28=>(atR x27 x28))) λx29=>(Rs.bind (Rs.ok a_2) λx30=>(Qg x29 x30))) λx32=>(Rs.ok (x31+x32)))) λa25=>(Rs.bind (Rs.bind (Uw (Rs.bind (Rs.ok a_2) λx33=>(Rs.bind (Rs.ok (2:Int)) λx34=>(Rs.ok (decide (x34<x33))))) (Rs.bind (Rs.bind (Rs.ok a1) λx35=>(Rs.bind (Rs.ok (4:Int)) λx36=>(atR x35 x36))) λx37=>(Rs.bind (Rs.ok (0:Int)) λx38=>(Rs.ok (decide (x38<x37)))))) λx39=>(if x39=true then(Rs.bind (Rs.bind (Rs.ok (3:Int)) λx50=>(Rs.bind (Rs.bind (Rs.bind (Rs.ok a1) λx44=>(Rs.bind (Rs.ok (1:Int)) λx45=>(atR x44 x45))) λx48=>(Rs.bind (Rs.bind (Rs.ok a_2) λx46=>(Rs.bind (Rs.ok (2:Int)) λx47=>(Rs.ok (x46-x47)))) λx49=>(Qg x48 x49))) λx51=>(Rs.ok (x50+x51)))) λa42=>(Rs.ok (a42))) else(Rs.ok (a25)))) λg53=>(Rs.bind (Rs.bind (Rs.bind (Rs.ok a1) λx58=>(Rs.bind (Rs.ok (0:Int)) λx59=>(atR x58 x59))) λx64=>(Rs.bind (Rs.ok g53) λx65=>(Rs.bind (Rs.bind (Rs.ok (2:Int)) λx62=>(Rs.bind (Rs.bind (Rs.ok a1) λx60=>(Rs.bind (Rs.ok (2:Int)) λx61=>(atR x60 x61))) λx63=>(Rs.ok (x62+x63)))) λx66=>(noE (UP x64 x65 x66))))) λa54=>(Rs.bind (Rs.bind (Rs.bind (Rs.ok a1) λx67=>(Rs.bind (Rs.ok (3:Int)) λx68=>(atR x67 x68))) λx69=>(Rs.bind (Rs.ok (0:Int)) λx70=>(Rs.ok (decide (x69=x70))))) λx71=>(if x71=true then(Rs.ok a54) else(Rs.bind (Rs.ok a54) λx80=>(Rs.bind (Rs.bind (Rs.bind (Rs.ok a1) λx75=>(Rs.bind (Rs.bind (Rs.ok (5:Int)) λx74=>(Rs.ok (some x74))) λx76=>(Rs.bind (Rs.ok none) λx77=>(Rs.ok (KU x75 x76 x77))))) λx78=>(Rs.bind (Rs.ok g53) λx79=>(noE (ZC x78 x79)))) λx81=>(noE (Z2 x80 x81))))))))))
noncomputable def QS (a_0:(List (List Int))):Rs (List (List Int)):=(Rs.bind (Rs.ok []) λa1=>(Rs.bind (Rs.ok (0:Int)) λa4=>(Rs.bind (Rs.ok a_0) λx94=>(Rs.bind (forN x94 (a4,a1) (λg8 a10=>(Rs.bind (Rs.ok g8.1) λa12=>(Rs.bind (Rs.ok g8.1) λa14=>(Rs.bind (Rs.bind (Rs.ok (1:Int)) λx18=>(Rs.ok (-x18))) λa16=>(Rs.bind (Rs.bind (Rs.bind (Rs.ok a10) λx19=>(Rs.ok (x19.length:Int))) λx20=>(QZ 0 x20)) λx91=>(Rs.bind (forN x91 (a16) (λg23 a25=>(Rs.bind (Rs.bind (Rs.bind (Rs.bind (Rs.ok a10) λx27=>(Rs.bind (Rs.ok a25) λx28=>(atR x27 x28))) λx29=>(Rs.bind (Rs.ok (0:Int)) λx30=>(Rs.ok (decide (x29<x30))))) λx31=>(if x31=true then(Rs.bind (Rs.ok a25) λa34=>(Rs.ok (a34))) else(Rs.ok (g23)))) λg37=>(Rs.ok (g37))))) λg38=>(Rs.bind (Rs.bind (Rs.bind (Rs.bind (Rs.ok a12) λx46=>(Rs.bind (Rs.ok []) λx47=>(Rs.ok (x46::x47)))) λx45=>(chk (x45.length<=sizeLine) (Rs.ok x45))) λx43=>(Rs.bind (Rs.bind (Rs.bind (Rs.ok a10) λx48=>(Rs.ok (x48.length:Int))) λx49=>(Rs.bind (Rs.ok (1:Int)) λx50=>(Rs.ok (max x49 x50)))) λx44=>(U8 x43 x44))) λa40=>(Rs.bind (Rs.bind (Rs.bind (Rs.ok g38) λx51=>(Rs.bind (Rs.ok (1:Int)) λx52=>(Rs.ok (x51+x52)))) λx53=>(QZ 0 x53)) λx90=>(Rs.bind (forN x90 (a40,g8.1,a14) (λg56 a58=>(Rs.bind (Rs.ok g56.2.2) λx60=>(Rs.bind (Rs.ok a58) λx61=>(Rs.bind (JY g56.1 x61 x60) λa62=>(Rs.bind (Rs.bind (Uw (Rs.bind (Rs.bind (Rs.ok a10) λx64=>(Rs.bind (Rs.ok a58) λx65=>(atR x64 x65))) λx66=>(Rs.bind (Rs.ok (0:Int)) λx67=>(Rs.ok (decide (x66<x67))))) (Rs.bind (Rs.ok a58) λx68=>(Rs.bind (Rs.ok g38) λx69=>(Rs.ok (decide (x68<x69)))))) λx70=>(if x70=true then(Rs.bind (Rs.bind (Rs.ok g56.2.1) λx75=>(Rs.bind (Rs.ok (1:Int)) λx76=>(Rs.ok (x75+x76)))) λa73=>(Rs.bind (Rs.ok a73) λa77=>(Rs.ok (a73,a77)))) else(Rs.ok (g56.2.1,g56.2.2)))) λg80=>(Rs.ok (a62,g80.1,g80.2)))))))) λg81=>(Rs.bind (Rs.bind (Rs.ok g81.2.1) λx85=>(Rs.bind (Rs.ok (1:Int)) λx86=>(Rs.ok (x85+x86)))) λa83=>(Rs.bind (Rs.ok g81.1) λa87=>(chk (g8.2.length<sizeLine) ((λa89=>(Rs.ok (a83,a89))) (g8.2++[a87]))))))))))))))) λg92=>(Rs.ok g92.2)))))
noncomputable def Qt (a_0:(List (List Int)))(a_1:Int):Rs (Int×Int):=(Rs.bind (Rs.bind (Rs.bind (Rs.ok a_0) λx1=>(Rs.ok (x1.length:Int))) λx2=>(QZ 0 x2)) λx28=>(Rs.bind (forC x28 () (λg5 a7=>(Rs.bind (Rs.bind (Rs.ok a_1) λx11=>(Rs.bind (Rs.bind (Rs.ok a_0) λx9=>(Rs.bind (Rs.ok a7) λx10=>(atR x9 x10))) λx12=>(Rs.ok (decide (x11∈x12))))) λx13=>(if x13=true then(Rs.bind (Rs.bind (Rs.ok a7) λx18=>(Rs.bind (Rs.bind (Rs.bind (Rs.ok a_0) λx14=>(Rs.bind (Rs.ok a7) λx15=>(atR x14 x15))) λx16=>(Rs.bind (Rs.ok a_1) λx17=>(Eo x16 x17))) λx19=>(Rs.ok (x18,x19)))) λx21=>(Rs.ok (Ctl.ret x21))) else(Rs.bind (Rs.ok ()) λx20=>(Rs.ok (Ctl.nx x20))))))) (QY λg22=>(Rs.bind (Rs.bind (Rs.ok (1:Int)) λx24=>(Rs.ok (-x24))) λx26=>(Rs.bind (Rs.bind (Rs.ok (1:Int)) λx25=>(Rs.ok (-x25))) λx27=>(Rs.ok (x26,x27)))))))
noncomputable def Qb (a_0:((List (List Int))×(List (Int×Int)))):Rs (List (Int×Int×Int×Int×Int)):=(Rs.bind (Rs.ok a_0) λa1=>(Rs.bind (Rs.bind (Rs.ok a1.1) λx7=>(noE (QS x7))) λa4=>(Rs.bind (Rs.ok []) λa8=>(Rs.bind (Rs.ok a1.2) λx61=>(Rs.bind (forN x61 (a8) (λg13 a15=>(Rs.bind (Rs.bind (Rs.ok a1.1) λx18=>(Rs.bind (Rs.ok a15.1) λx19=>(noE (Qt x18 x19)))) λa20=>(Rs.bind (Rs.bind (Rs.ok a1.1) λx25=>(Rs.bind (Rs.bind (Rs.ok a15.1) λx24=>(Rs.ok (-x24))) λx26=>(noE (Qt x25 x26)))) λa27=>(Rs.bind (Rs.bind (Rs.bind (Rs.ok a27.2) λx32=>(Rs.bind (Rs.ok (1:Int)) λx33=>(Rs.ok (x32+x33)))) λx37=>(Rs.bind (Rs.bind (Rs.bind (Rs.ok a1.1) λx34=>(Rs.bind (Rs.ok a27.1) λx35=>(atR x34 x35))) λx36=>(Rs.ok (x36.length:Int))) λx38=>(Qg x37 x38))) λa30=>(Rs.bind (Rs.bind (Rs.ok a15.1) λx51=>(Rs.bind (Rs.ok a15.2) λx52=>(Rs.bind (Rs.bind (Rs.bind (Rs.ok a4) λx39=>(Rs.bind (Rs.ok a20.1) λx40=>(atR x39 x40))) λx41=>(Rs.bind (Rs.ok a20.2) λx42=>(atR x41 x42))) λx53=>(Rs.bind (Rs.bind (Rs.bind (Rs.ok a4) λx43=>(Rs.bind (Rs.ok a27.1) λx44=>(atR x43 x44))) λx45=>(Rs.bind (Rs.ok a27.2) λx46=>(atR x45 x46))) λx54=>(Rs.bind (Rs.bind (Rs.bind (Rs.ok a4) λx47=>(Rs.bind (Rs.ok a27.1) λx48=>(atR x47 x48))) λx49=>(Rs.bind (Rs.ok a30) λx50=>(atR x49 x50))) λx55=>(Rs.ok (x51,x52,x53,x54,x55))))))) λa56=>(chk (g13.length<sizeLine) ((λa58=>(Rs.ok (a58))) (g13++[a56]))))))))) λg59=>(Rs.ok g59))))))
noncomputable def Qw (a_0:((List (List Int))×(List (Int×Int)))):Rs Int:=(Rs.bind (Rs.bind (Rs.bind (Rs.ok a_0) λx3=>(Rs.ok x3.2)) λx4=>(Rs.ok (x4.length:Int))) λa1=>(Rs.bind (Rs.bind (Rs.ok a_0) λx5=>(Rs.ok x5.1)) λx32=>(Rs.bind (forN x32 (a1) (λg8 a10=>(Rs.bind (Rs.bind (Rs.bind (Rs.bind (Rs.bind (Rs.ok a10) λx15=>(Lv x15 (λa13=>(Rs.bind (Rs.ok a13) λx16=>(Rs.bind (Rs.ok (0:Int)) λx17=>(Rs.ok (decide (x16<x17)))))) (λa13=>(Rs.ok a13)))) λx18=>(Rs.ok (x18.length:Int))) λx19=>(Rs.bind (Rs.ok (0:Int)) λx20=>(Rs.ok (decide (x19=x20))))) λx21=>(if x21=true then(Rs.bind (Rs.bind (Rs.ok g8) λx26=>(Rs.bind (Rs.ok (1:Int)) λx27=>(Rs.ok (x26+x27)))) λa24=>(Rs.ok (a24))) else(Rs.ok (g8)))) λg29=>(Rs.ok (g29))))) λg30=>(Rs.ok g30))))
noncomputable def JW (a_0:(List (Int×Int×Int×Int×Int)))(a_1:(List (List Int)))(a_2:(List Int)):Rs Bool:=(Rs.bind (Rs.ok a_0) λx39=>(Rs.bind (forC x39 () (λg3 a5=>(Rs.bind (Rs.bind (Rs.ok a_2) λx7=>(Rs.bind (Rs.ok a5.2.2.2.1) λx8=>(atR x7 x8))) λa11=>(Rs.bind (Rs.bind (Rs.ok a_2) λx9=>(Rs.bind (Rs.ok a5.2.2.2.2) λx10=>(atR x9 x10))) λa12=>(Rs.bind (Rs.bind (Rs.bind (Rs.ok a5.2.1) λx15=>(Rs.bind (Rs.ok (0:Int)) λx16=>(Rs.ok (decide (x15<x16))))) λx17=>(if x17=true then(Rs.bind (Rs.ok a12) λa20=>(Rs.bind (Rs.ok a11) λa21=>(Rs.ok (a20,a21)))) else(Rs.ok (a11,a12)))) λg25=>(Rs.bind (Rs.bind (Rs.bind (Rs.bind (Rs.ok a_1) λx26=>(Rs.bind (Rs.ok g25.1) λx27=>(atR x26 x27))) λx30=>(Rs.bind (Rs.bind (Rs.ok a_2) λx28=>(Rs.bind (Rs.ok a5.2.2.1) λx29=>(atR x28 x29))) λx31=>(atR x30 x31))) λx32=>(Rs.bind (Rs.ok g25.2) λx33=>(Rs.ok (!(decide (x32=x33)))))) λx34=>(if x34=true then(Rs.bind (Rs.ok false) λx36=>(Rs.ok (Ctl.ret x36))) else(Rs.bind (Rs.ok ()) λx35=>(Rs.ok (Ctl.nx x35)))))))))) (QY λg37=>(Rs.ok true))))
noncomputable def J1 (a_0:Int)(a_1:Int):Rs Int:=(Rs.bind (Rs.ok (1:Int)) λa1=>(Rs.bind (Rs.bind (Rs.ok a_1) λx3=>(QZ 0 x3)) λx16=>(Rs.bind (forN x16 (a1) (λg6 a8=>(Rs.bind (Rs.bind (Rs.ok g6) λx12=>(Rs.bind (Rs.ok a_0) λx13=>(QG x12 x13))) λa10=>(Rs.ok (a10))))) λg14=>(Rs.ok g14))))
noncomputable def JZ (a_0:((List (List Int))×(List (Int×Int))))(a_1:Int):Rs Int:=(Rs.bind (Rs.bind (Rs.ok a_0) λx4=>(noE (Qw x4))) λa1=>(Rs.bind (Rs.ok (1:Int)) λa5=>(Rs.bind (Q1 (8) (a5) (λg9=>(Uw (Rs.bind (Rs.ok g9) λx11=>(Rs.bind (Rs.ok (6:Int)) λx12=>(Rs.ok (decide (x11<x12))))) (Rs.bind (Rs.bind (Rs.bind (Rs.ok g9) λx14=>(Rs.bind (Rs.ok (1:Int)) λx15=>(Rs.ok (x14+x15)))) λx16=>(Rs.bind (Rs.ok a1) λx17=>(noE (J1 x16 x17)))) λx18=>(Rs.bind (Rs.ok a_1) λx19=>(Rs.ok (decide (x18<=x19))))))) (λg9=>(Rs.bind (Rs.bind (Rs.ok g9) λx22=>(Rs.bind (Rs.ok (1:Int)) λx23=>(Rs.ok (x22+x23)))) λa20=>(Rs.ok (a20))))) λg24=>(Rs.ok g24))))
noncomputable def YK (a_0:(List (List Int)))(a_1:(List (List Int))):Rs (List (List Int)):=(Rs.bind (Rs.bind (Rs.ok a_1) λx3=>(Rs.ok (x3.length:Int))) λa1=>(Rs.bind (Rs.ok []) λa4=>(Rs.bind (Rs.bind (Rs.bind (Rs.bind (Rs.ok a_0) λx7=>(Rs.ok (x7.length:Int))) λx8=>(Rs.bind (Rs.ok a1) λx9=>(QG x8 x9))) λx10=>(QZ 0 x10)) λx63=>(Rs.bind (forN x63 (a4) (λg13 a15=>(Rs.bind (Rs.ok []) λa17=>(Rs.bind (Rs.bind (Rs.bind (Rs.bind (Rs.ok a_0) λx20=>(Rs.ok (x20.length:Int))) λx21=>(Rs.bind (Rs.ok a1) λx22=>(QG x21 x22))) λx23=>(QZ 0 x23)) λx60=>(Rs.bind (forN x60 (a17) (λg26 a28=>(Rs.bind (Rs.bind (Rs.bind (Rs.ok a_0) λx34=>(Rs.bind (Rs.bind (Rs.ok a15) λx32=>(Rs.bind (Rs.ok a1) λx33=>(B8 x32 x33))) λx35=>(atR x34 x35))) λx38=>(Rs.bind (Rs.bind (Rs.ok a28) λx36=>(Rs.bind (Rs.ok a1) λx37=>(B8 x36 x37))) λx39=>(atR x38 x39))) λa30=>(Rs.bind (Rs.bind (Rs.bind (Rs.ok a30) λx40=>(Rs.bind (Rs.ok a1) λx41=>(QG x40 x41))) λx50=>(Rs.bind (Rs.bind (Rs.bind (Rs.ok a_1) λx44=>(Rs.bind (Rs.bind (Rs.ok a15) λx42=>(Rs.bind (Rs.ok a1) λx43=>(Qg x42 x43))) λx45=>(atR x44 x45))) λx48=>(Rs.bind (Rs.bind (Rs.ok a28) λx46=>(Rs.bind (Rs.ok a1) λx47=>(Qg x46 x47))) λx49=>(atR x48 x49))) λx51=>(Rs.ok (x50+x51)))) λa52=>(chk (g26.length<sizeLine) ((λa54=>(Rs.ok (a54))) (g26++[a52]))))))) λg55=>(Rs.bind (Rs.ok g55) λa57=>(chk (g13.length<sizeLine) ((λa59=>(Rs.ok (a59))) (g13++[a57]))))))))) λg61=>(Rs.ok g61)))))
noncomputable def Zi (a_0:(List (List Int)))(a_1:(List (List Int))):Rs (List (List Int)):=(Rs.bind (Rs.bind (Rs.ok a_0) λx3=>(Rs.ok (x3.length:Int))) λa1=>(Rs.bind (Rs.ok []) λa4=>(Rs.bind (Rs.bind (Rs.ok a1) λx7=>(QZ 0 x7)) λx61=>(Rs.bind (forN x61 (a4) (λg10 a12=>(Rs.bind (Rs.bind (Rs.bind (Rs.bind (Rs.ok a_0) λx17=>(Rs.bind (Rs.ok a12) λx18=>(atR x17 x18))) λx16=>(Rs.ok x16)) λx14=>(Rs.bind (Rs.bind (Rs.bind (Rs.bind (Rs.ok a12) λx22=>(Rs.bind (Rs.ok []) λx23=>(Rs.ok (x22::x23)))) λx21=>(chk (x21.length<=sizeLine) (Rs.ok x21))) λx19=>(Rs.bind (Rs.bind (Rs.ok a_1) λx24=>(Rs.ok (x24.length:Int))) λx20=>(U8 x19 x20))) λx15=>(GE x14 x15))) λa25=>(chk (g10.length<sizeLine) ((λa27=>(Rs.ok (a27))) (g10++[a25])))))) λg28=>(Rs.bind (Rs.bind (Rs.bind (Rs.ok a_1) λx30=>(Rs.ok (x30.length:Int))) λx31=>(QZ 0 x31)) λx60=>(Rs.bind (forN x60 (g28) (λg34 a36=>(Rs.bind (Rs.bind (Rs.bind (Rs.bind (Rs.bind (Rs.bind (Rs.ok a36) λx43=>(Rs.bind (Rs.ok a1) λx44=>(Rs.ok (x43+x44)))) λx45=>(Rs.bind (Rs.ok []) λx46=>(Rs.ok (x45::x46)))) λx42=>(chk (x42.length<=sizeLine) (Rs.ok x42))) λx40=>(Rs.bind (Rs.ok a1) λx41=>(U8 x40 x41))) λx38=>(Rs.bind (Rs.bind (Rs.bind (Rs.ok a_1) λx47=>(Rs.bind (Rs.ok a36) λx48=>(atR x47 x48))) λx52=>(Vl x52 (λa50=>(Rs.bind (Rs.ok a50) λx53=>(Rs.bind (Rs.ok a1) λx54=>(Rs.ok (x53+x54))))))) λx39=>(GE x38 x39))) λa55=>(chk (g34.length<sizeLine) ((λa57=>(Rs.ok (a57))) (g34++[a55])))))) λg58=>(Rs.ok g58)))))))
noncomputable def QP (a_0:(List (List Int)))(a_1:(List (List Int)))(a_2:(List Int)):Rs ((List (List Int))×(List (List Int))×(List Int)):=(Rs.bind (Rs.bind (Rs.bind (Rs.ok a_2) λx1=>(Rs.bind (Rs.ok (0:Int)) λx2=>(atR x1 x2))) λx3=>(Rs.bind (Rs.ok (0:Int)) λx4=>(Rs.ok (decide (x3=x4))))) λx5=>(if x5=true then(Rs.bind (Rs.bind (Rs.bind (Rs.ok a_2) λx11=>(Rs.bind (Rs.bind (Rs.ok (5:Int)) λx10=>(Rs.ok (some x10))) λx12=>(Rs.bind (Rs.ok none) λx13=>(Rs.ok (KU x11 x12 x13))))) λx15=>(Rs.bind (Rs.bind (Rs.ok a_0) λx14=>(Rs.ok (x14.length:Int))) λx16=>(noE (ZC x15 x16)))) λa6=>(Rs.bind (Rs.ok a_0) λx20=>(Rs.bind (Rs.bind (Rs.ok a_0) λx18=>(Rs.bind (Rs.ok a6) λx19=>(noE (Z2 x18 x19)))) λx21=>(Rs.bind (Rs.ok a6) λx22=>(Rs.ok (x20,x21,x22)))))) else(Rs.bind (Rs.bind (Rs.bind (Rs.ok a_2) λx23=>(Rs.bind (Rs.ok (0:Int)) λx24=>(atR x23 x24))) λx25=>(Rs.bind (Rs.ok (1:Int)) λx26=>(Rs.ok (decide (x25=x26))))) λx27=>(if x27=true then(Rs.bind (Rs.bind (Rs.ok a_0) λx31=>(Rs.bind (Rs.ok a_1) λx32=>(noE (YK x31 x32)))) λa28=>(Rs.bind (Rs.ok a28) λx42=>(Rs.bind (Rs.ok a_0) λx43=>(Rs.bind (Rs.bind (Rs.bind (Rs.bind (Rs.ok a28) λx33=>(Rs.ok (x33.length:Int))) λx34=>(QZ 0 x34)) λx38=>(Vl x38 (λa36=>(Rs.bind (Rs.ok a36) λx40=>(Rs.bind (Rs.bind (Rs.ok a_1) λx39=>(Rs.ok (x39.length:Int))) λx41=>(B8 x40 x41)))))) λx44=>(Rs.ok (x42,x43,x44)))))) else(Rs.bind (Rs.bind (Rs.bind (Rs.ok a_2) λx45=>(Rs.bind (Rs.ok (0:Int)) λx46=>(atR x45 x46))) λx47=>(Rs.bind (Rs.ok (2:Int)) λx48=>(Rs.ok (decide (x47=x48))))) λx49=>(if x49=true then(Rs.bind (Rs.bind (Rs.ok a_0) λx53=>(Rs.bind (Rs.ok a_1) λx54=>(noE (YK x53 x54)))) λa50=>(Rs.bind (Rs.ok a50) λx64=>(Rs.bind (Rs.ok a_1) λx65=>(Rs.bind (Rs.bind (Rs.bind (Rs.bind (Rs.ok a50) λx55=>(Rs.ok (x55.length:Int))) λx56=>(QZ 0 x56)) λx60=>(Vl x60 (λa58=>(Rs.bind (Rs.ok a58) λx62=>(Rs.bind (Rs.bind (Rs.ok a_1) λx61=>(Rs.ok (x61.length:Int))) λx63=>(Qg x62 x63)))))) λx66=>(Rs.ok (x64,x65,x66)))))) else(Rs.bind (Rs.bind (Rs.bind (Rs.ok a_2) λx67=>(Rs.bind (Rs.ok (0:Int)) λx68=>(atR x67 x68))) λx69=>(Rs.bind (Rs.ok (3:Int)) λx70=>(Rs.ok (decide (x69=x70))))) λx71=>(if x71=true then(Rs.bind (Rs.ok a_0) λx77=>(Rs.bind (Rs.bind (Rs.ok a_0) λx73=>(Rs.bind (Rs.ok a_1) λx74=>(noE (Zi x73 x74)))) λx78=>(Rs.bind (Rs.bind (Rs.bind (Rs.ok a_0) λx76=>(Rs.ok (x76.length:Int))) λx75=>(chk (0<=x75/\x75<=1000) (Rs.ok (ZW 0 x75)))) λx79=>(Rs.ok (x77,x78,x79))))) else(Rs.bind (Rs.bind (Rs.bind (Rs.ok a_2) λx80=>(Rs.bind (Rs.ok (0:Int)) λx81=>(atR x80 x81))) λx82=>(Rs.bind (Rs.ok (4:Int)) λx83=>(Rs.ok (decide (x82=x83))))) λx84=>(if x84=true then(Rs.bind (Rs.ok a_0) λx96=>(Rs.bind (Rs.ok a_1) λx97=>(Rs.bind (Rs.bind (Rs.bind (Rs.bind (Rs.bind (Rs.bind (Rs.ok a_2) λx88=>(Rs.bind (Rs.ok (1:Int)) λx89=>(atR x88 x89))) λx91=>(Rs.bind (Rs.bind (Rs.ok a_1) λx90=>(Rs.ok (x90.length:Int))) λx92=>(Qg x91 x92))) λx93=>(Rs.bind (Rs.ok []) λx94=>(Rs.ok (x93::x94)))) λx87=>(chk (x87.length<=sizeLine) (Rs.ok x87))) λx85=>(Rs.bind (Rs.bind (Rs.ok a_0) λx95=>(Rs.ok (x95.length:Int))) λx86=>(U8 x85 x86))) λx98=>(Rs.ok (x96,x97,x98))))) else(Rs.bind (Rs.ok a_0) λx112=>(Rs.bind (Rs.ok a_1) λx113=>(Rs.bind (Rs.bind (Rs.bind (Rs.bind (Rs.ok a_0) λx99=>(Rs.ok (x99.length:Int))) λx100=>(QZ 0 x100)) λx104=>(Vl x104 (λa102=>(Rs.bind (Rs.bind (Rs.ok a_2) λx107=>(Rs.bind (Rs.bind (Rs.ok (5:Int)) λx105=>(Rs.bind (Rs.ok a102) λx106=>(Rs.ok (x105+x106)))) λx108=>(atR x107 x108))) λx110=>(Rs.bind (Rs.bind (Rs.ok a_1) λx109=>(Rs.ok (x109.length:Int))) λx111=>(Qg x110 x111)))))) λx114=>(Rs.ok (x112,x113,x114)))))))))))))))
noncomputable def KG (a_0:(List (List Int)))(a_1:(List (List Int)))(a_2:(List Int)):Rs Bool:=(Rs.bind (Rs.bind (Rs.bind (Rs.ok a_2) λx1=>(Rs.ok (x1.length:Int))) λx3=>(Rs.bind (Rs.bind (Rs.ok a_0) λx2=>(Rs.ok (x2.length:Int))) λx4=>(Rs.ok (!(decide (x3=x4)))))) λx5=>(if x5=true then(Rs.ok false) else(Rs.bind (Rs.ok a_2) λx64=>(Rs.bind (forC x64 () (λg8 a10=>(Rs.bind (orR (Rs.bind (Rs.ok a10) λx12=>(Rs.bind (Rs.ok (0:Int)) λx13=>(Rs.ok (decide (x12<x13))))) (Rs.bind (Rs.ok a10) λx15=>(Rs.bind (Rs.bind (Rs.ok a_1) λx14=>(Rs.ok (x14.length:Int))) λx16=>(Rs.ok (decide (x16<=x15)))))) λx17=>(if x17=true then(Rs.bind (Rs.ok false) λx19=>(Rs.ok (Ctl.ret x19))) else(Rs.bind (Rs.ok ()) λx18=>(Rs.ok (Ctl.nx x18))))))) (QY λg20=>(Rs.bind (Rs.bind (Rs.bind (Rs.ok a_0) λx22=>(Rs.ok (x22.length:Int))) λx23=>(QZ 0 x23)) λx63=>(Rs.bind (forC x63 () (λg26 a28=>(Rs.bind (Rs.bind (Rs.bind (Rs.ok a_0) λx30=>(Rs.ok (x30.length:Int))) λx31=>(QZ 0 x31)) λx60=>(Rs.bind (forC x60 () (λg34 a36=>(Rs.bind (Rs.bind (Rs.bind (Rs.ok a_2) λx42=>(Rs.bind (Rs.bind (Rs.bind (Rs.ok a_0) λx38=>(Rs.bind (Rs.ok a28) λx39=>(atR x38 x39))) λx40=>(Rs.bind (Rs.ok a36) λx41=>(atR x40 x41))) λx43=>(atR x42 x43))) λx52=>(Rs.bind (Rs.bind (Rs.bind (Rs.ok a_1) λx46=>(Rs.bind (Rs.bind (Rs.ok a_2) λx44=>(Rs.bind (Rs.ok a28) λx45=>(atR x44 x45))) λx47=>(atR x46 x47))) λx50=>(Rs.bind (Rs.bind (Rs.ok a_2) λx48=>(Rs.bind (Rs.ok a36) λx49=>(atR x48 x49))) λx51=>(atR x50 x51))) λx53=>(Rs.ok (!(decide (x52=x53)))))) λx54=>(if x54=true then(Rs.bind (Rs.ok false) λx56=>(Rs.ok (Ctl.ret x56))) else(Rs.bind (Rs.ok ()) λx55=>(Rs.ok (Ctl.nx x55))))))) (QI λg57=>(Rs.bind (Rs.ok ()) λx59=>(Rs.ok (Ctl.nx x59)))))))) (QY λg61=>(Rs.ok true)))))))))
noncomputable def Y6 (a_0:((List (List Int))×(List (Int×Int))))(a_1:(List (List Int)))(a_2:(List (List Int)))(a_3:(List Int)):Rs Bool:=(Rs.bind (Rs.bind (Rs.ok a_0) λx4=>(noE (Qb x4))) λa1=>(Rs.bind (Rs.ok []) λa5=>(Rs.bind (Rs.bind (Rs.bind (Rs.ok a_0) λx10=>(noE (VD x10))) λx16=>(Rs.bind (Rs.bind (Rs.ok a_2) λx14=>(Vl x14 (λa12=>(Rs.bind (Rs.ok a12) λx15=>(Rs.ok x15))))) λx17=>(noE (YZ x16 x17)))) λx88=>(Rs.bind (forC x88 (a5) (λg20 a22=>(Rs.bind (Rs.bind (Rs.bind (Rs.ok a22) λx25=>(noE (Y4 x25))) λx26=>(Rs.ok (!x26))) λx27=>(if x27=true then(Rs.bind (Rs.ok false) λx34=>(Rs.ok (Ctl.ret x34))) else(Rs.bind (Rs.ok true) λx29=>(Rs.bind (Rs.bind (Rs.ok a22) λx28=>(Rs.ok x28)) λx30=>(chk (g20.length<sizeLine) ((λa31=>(Rs.bind (Rs.ok (a31)) λx33=>(Rs.ok (Ctl.nx x33)))) (Uq g20 x30 x29))))))))) (QY λg35=>(Rs.bind (Rs.bind (Rs.bind (Rs.ok a_0) λx41=>(noE (VD x41))) λx47=>(Rs.bind (Rs.bind (Rs.ok a_1) λx45=>(Vl x45 (λa43=>(Rs.bind (Rs.ok a43) λx46=>(Rs.ok x46))))) λx48=>(noE (YZ x47 x48)))) λa37=>(Rs.bind (orR (Rs.bind (Rs.bind (Rs.ok a37) λx49=>(Rs.ok true)) λx50=>(Rs.ok (!x50))) (Uw (Rs.bind (Rs.bind (Rs.ok a37) λx51=>(Rs.ok (x51.length:Int))) λx53=>(Rs.bind (Rs.bind (Rs.ok a_1) λx52=>(Rs.ok (x52.length:Int))) λx54=>(Rs.ok (decide (x53<x54))))) (Rs.bind (Rs.bind (Rs.ok a_0) λx56=>(noE (Qw x56))) λx57=>(Rs.bind (Rs.ok (0:Int)) λx58=>(Rs.ok (decide (x58<x57))))))) λx59=>(if x59=true then(Rs.ok false) else(Rs.bind (Rs.ok a37) λx87=>(Rs.bind (forC x87 () (λg62 a64=>(Rs.bind (Rs.bind (Rs.ok a64) λx71=>(Vl x71 (λa69=>(Rs.bind (Rs.ok a_3) λx72=>(Rs.bind (Rs.ok a69) λx73=>(atR x72 x73)))))) λa66=>(Rs.bind (orR (Rs.bind (Rs.bind (Rs.ok a1) λx75=>(Rs.bind (Rs.ok a_2) λx76=>(Rs.bind (Rs.ok a66) λx77=>(noE (JW x75 x76 x77))))) λx78=>(Rs.ok (!x78))) (Rs.bind (Rs.bind (Rs.ok a66) λx79=>(Rs.ok x79)) λx80=>(Rs.bind (Rs.ok g35) λx81=>(Rs.ok (!(VJ x81 x80).isSome))))) λx82=>(if x82=true then(Rs.bind (Rs.ok false) λx84=>(Rs.ok (Ctl.ret x84))) else(Rs.bind (Rs.ok ()) λx83=>(Rs.ok (Ctl.nx x83)))))))) (QY λg85=>(Rs.ok true))))))))))))
noncomputable def GJ (a_0:(List Int)):Rs Bool:=(Rs.bind (Rs.bind (Rs.ok a_0) λx4=>(Rs.bind (Rs.ok (0:Int)) λx5=>(Rs.bind (Rs.ok (5:Int)) λx6=>(noE (Q9 x4 x5 x6))))) λa1=>(Rs.bind (Rs.bind (Rs.ok (4:Int)) λx12=>(Rs.bind (Rs.bind (Rs.ok a1) λx10=>(Rs.bind (Rs.ok (81:Int)) λx11=>(noE (JZ x10 x11)))) λx13=>(Rs.ok (min x12 x13)))) λa7=>(Rs.bind (Rs.bind (Rs.ok a_0) λx35=>(Rs.bind (Rs.ok (3:Int)) λx36=>(Rs.bind (Rs.bind (Rs.bind (Rs.bind (Rs.ok (6:Int)) λx28=>(Rs.bind (Rs.bind (Rs.ok (4:Int)) λx26=>(Rs.bind (Rs.bind (Rs.ok (4:Int)) λx24=>(Rs.bind (Rs.bind (Rs.ok (8:Int)) λx22=>(Rs.bind (Rs.bind (Rs.ok (16:Int)) λx20=>(Rs.bind (Rs.ok []) λx21=>(Rs.ok (x20::x21)))) λx23=>(Rs.ok (x22::x23)))) λx25=>(Rs.ok (x24::x25)))) λx27=>(Rs.ok (x26::x27)))) λx29=>(Rs.ok (x28::x29)))) λx19=>(chk (x19.length<=sizeLine) (Rs.ok x19))) λx17=>(Rs.bind (Rs.bind (Rs.bind (Rs.bind (Rs.ok (24:Int)) λx33=>(Rs.bind (Rs.ok []) λx34=>(Rs.ok (x33::x34)))) λx32=>(chk (x32.length<=sizeLine) (Rs.ok x32))) λx30=>(Rs.bind (Rs.ok (16:Int)) λx31=>(U8 x30 x31))) λx18=>(GE x17 x18))) λx37=>(noE (Up x35 x36 x37))))) λa14=>(Rs.bind (Rs.bind (Rs.ok a_0) λx41=>(Rs.bind (Rs.ok (1:Int)) λx42=>(Rs.bind (Rs.ok a7) λx43=>(noE (Y1 x41 x42 x43))))) λa38=>(Rs.bind (Rs.bind (Rs.ok a_0) λx47=>(Rs.bind (Rs.ok (2:Int)) λx48=>(Rs.bind (Rs.ok a7) λx49=>(noE (Y1 x47 x48 x49))))) λa44=>(Rs.bind (Rs.bind (Rs.ok a38) λx51=>(Rs.bind (Rs.ok a44) λx52=>(Rs.bind (Rs.ok a14) λx53=>(noE (QP x51 x52 x53))))) λa54=>(Rs.bind (Rs.bind (Rs.bind (Rs.bind (Rs.ok a14) λx59=>(Rs.bind (Rs.ok (2:Int)) λx60=>(atR x59 x60))) λx61=>(Rs.bind (Rs.ok (0:Int)) λx62=>(Rs.ok (decide (x61=x62))))) λx63=>(if x63=true then(Rs.bind (Rs.bind (Rs.bind (Rs.ok a14) λx68=>(Rs.bind (Rs.ok (4:Int)) λx69=>(atR x68 x69))) λx71=>(Rs.bind (Rs.bind (Rs.ok a54.2.2) λx70=>(Rs.ok (x70.length:Int))) λx72=>(Qg x71 x72))) λa66=>(Rs.bind (Rs.bind (Rs.bind (Rs.bind (Rs.bind (Rs.bind (Rs.ok a14) λx74=>(Rs.bind (Rs.ok (1:Int)) λx75=>(atR x74 x75))) λx77=>(Rs.bind (Rs.bind (Rs.ok a54.2.1) λx76=>(Rs.ok (x76.length:Int))) λx78=>(Qg x77 x78))) λx91=>(Rs.bind (Rs.bind (Rs.bind (Rs.ok (1:Int)) λx79=>(Rs.ok (-x79))) λx89=>(Rs.bind (Rs.bind (Rs.bind (Rs.ok a54.2.1) λx80=>(Rs.ok (x80.length:Int))) λx87=>(Rs.bind (Rs.bind (Rs.bind (Rs.bind (Rs.ok a54.2.2) λx81=>(Rs.bind (Rs.ok a66) λx82=>(atR x81 x82))) λx83=>(Rs.bind (Rs.ok (1:Int)) λx84=>(Rs.ok (x83+x84)))) λx85=>(Rs.bind (Rs.ok []) λx86=>(Rs.ok (x85::x86)))) λx88=>(Rs.ok (x87::x88)))) λx90=>(Rs.ok (x89::x90)))) λx92=>(Rs.ok (x91::x92)))) λx73=>(chk (x73.length<=sizeLine) (Rs.ok x73))) λx95=>(Rs.bind (Rs.bind (Rs.ok a14) λx93=>(Rs.bind (Rs.ok (1:Int)) λx94=>(atR x93 x94))) λx96=>(atR x95 x96))) λx97=>(Rs.bind (Rs.ok a66) λx98=>(Rs.bind (JY a54.2.2 x98 x97) λa99=>(Rs.ok (a99)))))) else(Rs.ok (a54.2.2)))) λg102=>(Rs.bind (Rs.bind (Rs.bind (Rs.bind (Rs.ok a14) λx103=>(Rs.bind (Rs.ok (3:Int)) λx104=>(atR x103 x104))) λx105=>(Rs.bind (Rs.ok (0:Int)) λx106=>(Rs.ok (decide (x105=x106))))) λx107=>(if x107=true then(Rs.bind (Rs.bind (Rs.ok g102) λx113=>(Rs.bind (Rs.bind (Rs.bind (Rs.ok (0:Int)) λx116=>(Rs.bind (Rs.ok []) λx117=>(Rs.ok (x116::x117)))) λx115=>(chk (x115.length<=sizeLine) (Rs.ok x115))) λx114=>(GE x113 x114))) λa110=>(Rs.ok (a110))) else(Rs.ok (g102)))) λg119=>(Rs.bind (Rs.bind (Rs.bind (Rs.bind (Rs.ok a14) λx120=>(Rs.bind (Rs.ok (3:Int)) λx121=>(atR x120 x121))) λx122=>(Rs.bind (Rs.ok (1:Int)) λx123=>(Rs.ok (decide (x122=x123))))) λx124=>(if x124=true then(Rs.bind (Rs.bind (Rs.ok g119) λx131=>(Rs.bind (Rs.bind (Rs.ok (1:Int)) λx130=>(Rs.ok (some x130))) λx132=>(Rs.bind (Rs.ok none) λx133=>(Rs.ok (KU x131 x132 x133))))) λa127=>(Rs.ok (a127))) else(Rs.ok (g119)))) λg135=>(Rs.bind (Rs.bind (Rs.ok a54.1) λx141=>(Vl x141 (λa139=>(Rs.bind (Rs.ok a139) λx142=>(Rs.ok x142))))) λa136=>(Rs.bind (Rs.bind (Rs.ok a54.2.1) λx148=>(Vl x148 (λa146=>(Rs.bind (Rs.ok a146) λx149=>(Rs.ok x149))))) λa143=>(Rs.bind (Rs.bind (Rs.ok g135) λx152=>(Rs.ok x152)) λa150=>(Rs.bind (Rs.bind (Rs.ok a136) λx156=>(Rs.bind (Rs.ok a143) λx157=>(Rs.bind (Rs.ok a150) λx158=>(noE (ZB x156 x157 x158))))) λa153=>(Rs.bind (Rs.bind (Rs.ok a54.1) λx162=>(Rs.bind (Rs.ok a54.2.1) λx163=>(Rs.bind (Rs.ok g135) λx164=>(noE (KG x162 x163 x164))))) λa159=>(Rs.bind (orR (Rs.bind (Rs.bind (Rs.ok a153) λx165=>(Rs.ok true)) λx166=>(Rs.ok (!x166))) (Rs.bind (Rs.ok a153) λx167=>(Rs.bind (Rs.ok a159) λx168=>(Rs.ok (!(decide (x167=x168))))))) λx169=>(if x169=true then(Rs.ok false) else(Rs.bind (orR (Rs.bind (Rs.ok a136) λx170=>(Rs.bind (Rs.ok a54.1) λx171=>(Rs.ok (!(decide (x170=x171)))))) (orR (Rs.bind (Rs.ok a143) λx172=>(Rs.bind (Rs.ok a54.2.1) λx173=>(Rs.ok (!(decide (x172=x173)))))) (Rs.bind (Rs.ok a150) λx174=>(Rs.bind (Rs.ok g135) λx175=>(Rs.ok (!(decide (x174=x175)))))))) λx176=>(if x176=true then(Rs.ok false) else(orR (Rs.bind (Rs.ok a159) λx177=>(Rs.ok (!x177))) (Rs.bind (Rs.ok a1) λx179=>(Rs.bind (Rs.ok a54.1) λx180=>(Rs.bind (Rs.ok a54.2.1) λx181=>(Rs.bind (Rs.ok g135) λx182=>(noE (Y6 x179 x180 x181 x182)))))))))))))))))))))))))
end My
namespace L2
open PySem
section
variable {α β γ ρ:Type}
theorem Rs.okb (a:α)(f:α->Rs β):(Rs.ok a).bind f=f a:=(Eq.refl (f a)).symm.symm
theorem Bl {f:α->Rs β}{h:α->β}:∀{as:List α},(∀a∈as,f a= .ok (h a))->DP as f= .ok (as.map h)
 | [],_=>rfl
 |a::as,hf=>by
  show(f a).bind _=_
  rw[hf a (by simp),Rs.ok_bind,Bl λb hb=>hf b (by simp[hb])];rfl
theorem Zh {f:α->Rs β}{h:α->β}{as:List α}(hl:as.length<=sizeLine)(hf:∀a∈as,f a= .ok (h a)):Vl as f= .ok (as.map h):=by
 unfold Vl;rw[XE hl];exact Bl hf
theorem Cg {c:α->Rs Bool}{f:α->Rs β}{p:α->Bool}{h:α->β}:∀{as:List α},(∀a∈as,c a= .ok (p a))->(∀a∈as,p a=true->f a= .ok (h a))->FE as c f= .ok ((as.filter p).map h)
 | [],_,_=>rfl
 |a::as,hc,hf=>by
  show(c a).bind _=_
  rw[hc a (by simp),Rs.ok_bind]
  have ih:=Cg (as:=as) (λb hb=>hc b (by simp[hb])) λb hb=>hf b (by simp[hb])
  cases hp:p a with
  |false=>rw[if_neg (by simp),ih,List.filter_cons,hp];rfl
  |true=>rw[if_pos rfl,hf a (by simp) hp,Rs.ok_bind,ih,List.filter_cons,hp];rfl
theorem Gw {c:α->Rs Bool}{f:α->Rs β}{p:α->Bool}{h:α->β}{as:List α}(hl:as.length<=sizeLine)(hc:∀a∈as,c a= .ok (p a))(hf:∀a∈as,p a=true->f a= .ok (h a)):Lv as c f= .ok ((as.filter p).map h):=by
 unfold Lv;rw[XE hl];exact Cg hc hf
theorem KH {f:γ->α->Rs γ}(P:Nat->γ->Prop):∀(as:List α) (k:Nat) (g:γ),P k g->(∀i a g,as[i]?=some a->P (k+i) g->∃g',f g a= .ok g'/\P (k+i+1) g')->∃g',forN as g f= .ok g'/\P (k+as.length) g'
 | [],k,g,h0,_=>⟨g,rfl,h0⟩
 |a::as,k,g,h0,hs=>by
  obtain⟨g1,e1,p1⟩:=hs 0 a g rfl h0
  obtain⟨g2,e2,p2⟩:=KH P as (k+1) g1 p1 λi b g hb hp=>by
   obtain⟨g',e',p'⟩:=hs (i+1) b g (by simpa using hb) (by rw[show k+(i+1)=k+1+i by omega];exact hp)
   exact⟨g',e',by rw[show k+1+i+1=k+(i+1)+1 by omega];exact p'⟩
  refine⟨g2,?_,by rw[List.length_cons,show k+(as.length+1)=k+1+as.length by omega];exact p2⟩
  show(f g a).bind _=_
  rw[e1,Rs.ok_bind];exact e2
theorem UT {f:γ->α->Rs γ}(P:Nat->γ->Prop){as:List α}{g:γ}(h0:P 0 g)(hs:∀i a g,as[i]?=some a->P i g->∃g',f g a= .ok g'/\P (i+1) g'):∃g',forN as g f= .ok g'/\P as.length g':=by
 have:=KH P as 0 g h0 (by simpa using hs)
 simpa using this
theorem ZP {f:List β->α->Rs (List β)}{h:α->β}:∀{as:List α}{g:List β},g.length+as.length<=sizeLine->(∀g:List β,g.length<sizeLine->∀a∈as,f g a= .ok (g++[h a]))->forN as g f= .ok (g++as.map h)
 | [],g,_,_=>by simp[forN]
 |a::as,g,hl,hf=>by
  show(f g a).bind _=_
  rw[List.length_cons] at hl
  rw[hf g (by omega) a (by simp),Rs.ok_bind,ZP (by simp;omega) λg hg b hb=>hf g hg b (by simp[hb])]
  simp
theorem ZJ {f:γ->α->Rs (Ctl ρ γ)}:∀{as:List α}{g:γ},(∀a∈as,f g a= .ok (.nx g))->forC as g f= .ok (.nx g)
 | [],_,_=>rfl
 |a::as,g,hf=>by
  show(f g a).bind _=_
  rw[hf a (by simp),Rs.ok_bind]
  exact ZJ λb hb=>hf b (by simp[hb])
theorem KQ {f:γ->α->Rs (Ctl ρ γ)}(P:Nat->γ->Prop):∀(as:List α) (k:Nat) (g:γ),P k g->(∀i a g,as[i]?=some a->P (k+i) g->∃g',f g a= .ok (.nx g')/\P (k+i+1) g')->∃g',forC as g f= .ok (.nx g')/\P (k+as.length) g'
 | [],k,g,h0,_=>⟨g,rfl,h0⟩
 |a::as,k,g,h0,hs=>by
  obtain⟨g1,e1,p1⟩:=hs 0 a g rfl h0
  obtain⟨g2,e2,p2⟩:=KQ P as (k+1) g1 p1 λi b g hb hp=>by
   obtain⟨g',e',p'⟩:=hs (i+1) b g (by simpa using hb) (by rw[show k+(i+1)=k+1+i by omega];exact hp)
   exact⟨g',e',by rw[show k+1+i+1=k+(i+1)+1 by omega];exact p'⟩
  refine⟨g2,?_,by rw[List.length_cons,show k+(as.length+1)=k+1+as.length by omega];exact p2⟩
  show(f g a).bind _=_
  rw[e1,Rs.ok_bind];exact e2
theorem Fy {f:γ->α->Rs (Ctl ρ γ)}(P:Nat->γ->Prop){as:List α}{g:γ}(h0:P 0 g)(hs:∀i a g,as[i]?=some a->P i g->∃g',f g a= .ok (.nx g')/\P (i+1) g'):∃g',forC as g f= .ok (.nx g')/\P as.length g':=by
 have:=KQ P as 0 g h0 (by simpa using hs)
 simpa using this
theorem Yl {a b:Int}(h:0<b):Qg a b= .ok (a % b):=XE h
theorem Zw {a b:Int}(h1: -(2^64)<a)(h2:a<2^64):QG a b= .ok (a*b):=XE (.inl ⟨h1,h2⟩)
theorem Z9 {a b:Int}(h1: -(2^64)<b)(h2:b<2^64):QG a b= .ok (a*b):=XE (.inr ⟨h1,h2⟩)
theorem K4 {a b:Int}(h:0<b)(h2:b<2^250):B8 a b= .ok (a/b):=XE ⟨h,by
 have h3:b.natAbs<2^250:=by omega
 rcases Nat.eq_zero_or_pos b.natAbs with h0 |h0
 ·omega
 ·have:=(Nat.log2_lt (by omega)).mpr h3
  omega⟩
theorem Bk {a b:Int}(h0:0<=b)(h1:b<=1000000)(h2: -(2^64)<a)(h3:a<2^64):Mm a b= .ok (a^b.toNat):=XE ⟨h0,h1,by omega⟩
theorem Ym {as:List α}{i:Nat}{a:α}(h:as[i]?=some a):atR as (i:Int)= .ok a:=by
 have hlt:=(List.getElem?_eq_some_iff.mp h).1
 unfold atR atI ixN
 rw[if_pos (by omega),if_pos (by omega)]
 simp[h]
theorem Mp {as:List α}{i:Int}{a:α}(h0:0<=i)(h:as[i.toNat]?=some a):atR as i= .ok a:=by
 have:i=(i.toNat:Int):=by omega
 rw[this];exact Ym h
theorem YA {n:Nat}(h:n<2^62):QZ 0 (n:Int)= .ok ((List.range n).map λ(i:Nat)=>(i:Int)):=by
 unfold QZ
 rw[XE (by omega)]
 unfold ZW
 congr 1
 rw[Int.sub_zero,Int.toNat_natCast]
 exact List.map_congr_left λi _=>by omega
theorem Yz {n i:Nat}{a:Int}(h:((List.range n).map λ(i:Nat)=>(i:Int))[i]?=some a):a=(i:Int)/\i<n:=by
 have hlt:=(List.getElem?_eq_some_iff.mp h).1
 simp only[List.length_map,List.length_range] at hlt
 rw[List.getElem?_map,List.getElem?_range hlt] at h
 exact⟨(Option.some.inj h).symm,hlt⟩
theorem X7 {n:Nat}{a:Int}(h:a∈(List.range n).map λ(i:Nat)=>(i:Int)):∃i:Nat,i<n/\a=(i:Int):=by
 obtain⟨i,hi,rfl⟩:=List.mem_map.mp h
 exact⟨i,List.mem_range.mp hi,rfl⟩
theorem Yp {n:Nat}:((List.range n).map λ(i:Nat)=>(i:Int)).length=n:=by simp
theorem BR {a:Bool}{b:Rs Bool}{c:Bool}(h:a=true->b= .ok c):Uw (.ok a) b= .ok (a&&c):=by
 cases a with
 |false=>rfl
 |true=>
  show(if true=true then b else Rs.ok false)=_
  rw[if_pos rfl,h rfl];rfl
theorem MP {a:Bool}{b:Rs Bool}{c:Bool}(h:a=false->b= .ok c):orR (.ok a) b= .ok (a || c):=by
 cases a with
 |true=>rfl
 |false=>
  show(if false=true then Rs.ok true else b)=_
  rw[if_neg Bool.false_ne_true,h rfl];rfl
theorem sz {n:Nat}(h:n<=100000):n<=sizeLine:=Nat.le_trans h (by decide)
theorem DK {n:Nat}(h:n<=100000):n<sizeLine:=Nat.lt_of_le_of_lt h (by decide)
noncomputable def Ok (m:Rs β)(R:β->Prop):Prop:=∃ r,m= .ok r/\R r
theorem Ok.pure {R:β->Prop}{a:β}(h:R a):Ok (.ok a) R:=⟨a,rfl,h⟩
theorem Ok.bind {m:Rs α}{f:α->Rs β}{R:α->Prop}{T:β->Prop}(h:Ok m R)(hf:∀a,R a->Ok (f a) T):Ok (m.bind f) T:=by
 obtain⟨a,e,ha⟩:=h
 rw[e];exact hf a ha
theorem Ok.imp {m:Rs α}{R T:α->Prop}(h:Ok m R)(hf:∀a,R a->T a):Ok m T:=by
 obtain⟨a,e,ha⟩:=h
 exact⟨a,e,hf a ha⟩
theorem Ok.noE {m:Rs α}{R:α->Prop}(h:Ok m R):Ok (noE m) R:=by
 obtain⟨a,e,ha⟩:=h
 rw[e];exact⟨a,rfl,ha⟩
theorem Ok.chk {c:Prop}[Decidable c]{m:Rs α}{R:α->Prop}(hc:c)(h:Ok m R):Ok (chk c m) R:=by rw[XE hc];exact h
theorem Ok.ite {b:Bool}{m n:Rs α}{R:α->Prop}(h1:b=true->Ok m R)(h2:b=false->Ok n R):Ok (if b=true then m else n) R:=by
 cases b with
 |true=>rw[if_pos rfl];exact h1 rfl
 |false=>rw[if_neg Bool.false_ne_true];exact h2 rfl
theorem Ok.forN {f:γ->α->Rs γ}(P:Nat->γ->Prop){as:List α}{g:γ}(h0:P 0 g)(hs:∀i a g,as[i]?=some a->P i g->Ok (f g a) (P (i+1))):Ok (forN as g f) (P as.length):=UT P h0 hs
theorem Ok.forC {f:γ->α->Rs (Ctl ρ γ)}(P:Nat->γ->Prop){as:List α}{g:γ}(h0:P 0 g)(hs:∀i a g,as[i]?=some a->P i g->∃g',f g a= .ok (.nx g')/\P (i+1) g'):Ok (forC as g f) (λc=>∃ g',c= .nx g'/\P as.length g'):=by
 obtain⟨g',e,h⟩:=Fy P h0 hs
 exact⟨_,e,g',rfl,h⟩
theorem Qo {f:γ->Rs ρ}(g:γ):QY f (.nx g)=f g:=(Eq.refl (f g)).symm.symm
theorem Qf {f:γ->Rs ρ}(r:ρ):QY f (.ret r)= .ok r:=(Eq.refl (Rs.ok r)).symm.symm
theorem Ju {δ:Type}{f:γ->Rs (Ctl ρ δ)}(g:γ):QI f (.nx g)=f g:=(Eq.refl (f g)).symm.symm
theorem UR {δ:Type}{f:γ->Rs (Ctl ρ δ)}(r:ρ):QI f (.ret r)= .ok (.ret r):=(Eq.refl (Rs.ok (Ctl.ret r))).symm.symm
theorem XJ (a:α):noE (Rs.ok a)= .ok a:=(Eq.refl (Rs.ok a)).symm.symm
theorem Ok.of {m:Rs α}{a:α}(h:m= .ok a):Ok m (λb=>b=a):=⟨a,h,rfl⟩
theorem Ok.eq {m:Rs α}{a:α}(h:Ok m (λb=>b=a)):m= .ok a:=by
 obtain⟨b,e,rfl⟩:=h
 exact e
end
end L2
namespace My
noncomputable def ZF (n:Nat)(f:Nat->Nat->Nat)(a:Nat):List Int:=(List.range n).map λb=>(f a b:Int)
noncomputable def XW (n:Nat)(f:Nat->Nat->Nat):List (List Int):=(List.range n).map (ZF n f)
theorem XV (n:Nat)(f:Nat->Nat->Nat)(a:Nat):(ZF n f a).length=n:=by simp[ZF]
theorem XB (n:Nat)(f:Nat->Nat->Nat):(XW n f).length=n:=by simp[XW]
theorem ZL {n:Nat}{f:Nat->Nat->Nat}{a b:Nat}(h:b<n):(ZF n f a)[b]?=some (f a b:Int):=by
 unfold ZF;rw[List.getElem?_map,List.getElem?_range h];rfl
theorem JH {n:Nat}{f:Nat->Nat->Nat}{a:Nat}(h:a<n):(XW n f)[a]?=some (ZF n f a):=by
 unfold XW;rw[List.getElem?_map,List.getElem?_range h];rfl
theorem VZ {n:Nat}{f g:Nat->Nat->Nat}{a:Nat}(h:∀b,b<n->f a b=g a b):ZF n f a=ZF n g a:=by
 unfold ZF
 exact List.map_congr_left λb hb=>by rw[h b (List.mem_range.mp hb)]
theorem ZU {n:Nat}{f g:Nat->Nat->Nat}(h:∀a b,a<n->b<n->f a b=g a b):XW n f=XW n g:=by
 unfold XW
 exact List.map_congr_left λa ha=>VZ λb hb=>h a b (List.mem_range.mp ha) hb
structure Col (n:Nat)(f:Nat->Nat->Nat):Prop where
 lt:∀a b,a<n->b<n->f a b<n
 r2:∀x y b,x<n->y<n->b<n->f x b=f y b->x=y
structure GoodF (n:Nat)(f:Nat->Nat->Nat):Prop extends Col n f where
 r1:∀a,a<n->f a a=a
 r3:∀a b c,a<n->b<n->c<n->f (f a b) c=f (f a c) (f b c)
theorem GoodF.congr {n:Nat}{f g:Nat->Nat->Nat}(h:GoodF n f)(e:∀a b,a<n->b<n->g a b=f a b):GoodF n g where
 lt a b ha hb:=by rw[e a b ha hb];exact h.lt a b ha hb
 r2 x y b hx hy hb q:=by rw[e x b hx hb,e y b hy hb] at q;exact h.r2 x y b hx hy hb q
 r1 a ha:=by rw[e a a ha ha];exact h.r1 a ha
 r3 a b c ha hb hc:=by
  rw[e a b ha hb,e a c ha hc,e b c hb hc,e _ c (h.lt a b ha hb) hc,e _ _ (h.lt a c ha hc) (h.lt b c hb hc)]
  exact h.r3 a b c ha hb hc
theorem Uh:∀(n:Nat) (p:Nat->Nat),(∀a,a<n->p a<n)->(∀a b,a<n->b<n->p a=p b->a=b)->∀y,y<n->∃x,x<n/\p x=y
 |0,_,_,_,y,hy=>absurd hy (Nat.not_lt_zero _)
 |n+1,p,hl,hi,y,hy=>by
  by_cases hh:∃x,x<n+1/\p x=y
  ·exact hh
  ·exfalso
   -- send n to y, and y's place away
   have hne:∀x,x<n+1->p x≠y:=λx hx e=>hh ⟨x,hx,e⟩
   -- among the first n: p', which skips y
   let s:Nat->Nat:=λv=>if v<y then v else v-1
   have hs:∀a,a<n+1->s (p a)<n:=λa ha=>by
    have h1:=hl a ha;have h2:=hne a ha
    show(if p a<y then p a else p a-1)<n
    split<;> omega
   have hsi:∀a b,a<n+1->b<n+1->s (p a)=s (p b)->a=b:=λa b ha hb e=>by
    have h1:=hne a ha;have h2:=hne b hb
    refine hi a b ha hb ?_
    have e':(if p a<y then p a else p a-1)=(if p b<y then p b else p b-1):=e
    split at e'<;> split at e'<;> omega
   obtain⟨x,hx,ex⟩:=Uh n (λa=>s (p a)) (λa ha=>hs a (by omega)) (λa b ha hb e=>hsi a b (by omega) (by omega) e) (s (p n)) (hs n (by omega))
   have:=hsi x n (by omega) (by omega) ex
   omega
structure PermN (n:Nat)(p q:Nat->Nat):Prop where
 lt:∀a,a<n->p a<n
 qlt:∀a,a<n->q a<n
 pq:∀a,a<n->p (q a)=a
 qp:∀a,a<n->q (p a)=a
theorem PermN.good {n:Nat}{p q:Nat->Nat}{f:Nat->Nat->Nat}(h:PermN n p q)(g:GoodF n f):GoodF n (λx y=>p (f (q x) (q y))) where
 lt a b ha hb:=h.lt _ (g.lt _ _ (h.qlt a ha) (h.qlt b hb))
 r2 x y b hx hy hb e:=by
  have e1:q (p (f (q x) (q b)))=q (p (f (q y) (q b))):=congrArg q e
  rw[h.qp _ (g.lt _ _ (h.qlt x hx) (h.qlt b hb)),h.qp _ (g.lt _ _ (h.qlt y hy) (h.qlt b hb))] at e1
  have:=g.r2 _ _ _ (h.qlt x hx) (h.qlt y hy) (h.qlt b hb) e1
  rw[←h.pq x hx, ←h.pq y hy,this]
 r1 a ha:=by
  show p (f (q a) (q a))=a
  rw[g.r1 _ (h.qlt a ha),h.pq a ha]
 r3 a b c ha hb hc:=by
  have l1:=g.lt _ _ (h.qlt a ha) (h.qlt b hb)
  have l2:=g.lt _ _ (h.qlt a ha) (h.qlt c hc)
  have l3:=g.lt _ _ (h.qlt b hb) (h.qlt c hc)
  show p (f (q (p (f (q a) (q b)))) (q c))=p (f (q (p (f (q a) (q c)))) (q (p (f (q b) (q c)))))
  rw[h.qp _ l1,h.qp _ l2,h.qp _ l3,g.r3 _ _ _ (h.qlt a ha) (h.qlt b hb) (h.qlt c hc)]
theorem Hx {n:Nat}{p:Nat->Nat}(hl:∀a,a<n->p a<n)(hi:∀a b,a<n->b<n->p a=p b->a=b):∃q,PermN n p q:=by
 have ho:=Uh n p hl hi
 refine⟨λy=>if h:y<n then Classical.choose (ho y h) else 0,hl,λa ha=>?_,λa ha=>?_,λa ha=>?_⟩
 ·simp only[dif_pos ha];exact(Classical.choose_spec (ho a ha)).1
 ·simp only[dif_pos ha];exact(Classical.choose_spec (ho a ha)).2
 ·simp only[dif_pos (hl a ha)]
  have:=Classical.choose_spec (ho (p a) (hl a ha))
  exact hi _ _ this.1 ha this.2
theorem GM {A B n z:Int}(h:A-B=n*z):A % n=B % n:=by
 have:A=B+n*z:=by omega
 rw[this,Int.add_mul_emod_self_left]
noncomputable def Bp (k n a b:Int):Int:=(k*a+(1-k)*b) % n
noncomputable def Eb (k:Int)(n:Nat)(a b:Nat):Nat:=(Bp k n a b).toNat
theorem YE {k:Int}{n:Nat}(hn:0<n)(a b:Nat):((Eb k n a b:Nat):Int)=Bp k n a b:=by
 unfold Eb
 have:=Int.emod_nonneg (k*a+(1-k)*b) (show(n:Int)≠0 by omega)
 unfold Bp
 omega
theorem U4 {k:Int}{n:Nat}(hn:0<n)(hk:∀x:Int,(n:Int)∣k*x->(n:Int)∣x):GoodF n (Eb k n) where
 lt a b _ _:=by
  have h:=YE (k:=k) hn a b
  have:=Int.emod_lt_of_pos (k*a+(1-k)*b) (show 0<(n:Int) by omega)
  unfold Bp at h
  omega
 r1 a ha:=by
  have h:=YE (k:=k) hn a a
  have e:k*(a:Int)+(1-k)*a=a:=by grind
  unfold Bp at h
  rw[e,Int.emod_eq_of_lt (by omega) (by omega)] at h
  omega
 r2 x y b hx hy hb e:=by
  have h1:=YE (k:=k) hn x b
  have h2:=YE (k:=k) hn y b
  rw[e,h2] at h1
  unfold Bp at h1
  have:=Int.emod_eq_emod_iff_emod_sub_eq_zero.mp h1
  have hd:(n:Int)∣k*((y:Int)-x):=by
   have:=Int.dvd_of_emod_eq_zero this
   have e2:(k*(y:Int)+(1-k)*b)-(k*x+(1-k)*b)=k*((y:Int)-x):=by grind
   rwa [e2] at this
  obtain⟨z,hz⟩:=hk _ hd
  have hz1:z<1:=by
   apply Int.lt_of_mul_lt_mul_left (a:=(n:Int)) _ (by omega)
   omega
  have hz2: -1<z:=by
   apply Int.lt_of_mul_lt_mul_left (a:=(n:Int)) _ (by omega)
   omega
  have:z=0:=by omega
  subst this
  omega
 r3 a b c _ _ _:=by
  have e1:=YE (k:=k) hn a b
  have e2:=YE (k:=k) hn a c
  have e3:=YE (k:=k) hn b c
  have e4:=YE (k:=k) hn (Eb k n a b) c
  have e5:=YE (k:=k) hn (Eb k n a c) (Eb k n b c)
  have hh:Bp k n (Eb k n a b:Nat) c=Bp k n (Eb k n a c:Nat) (Eb k n b c:Nat):=by
   rw[e1,e2,e3]
   unfold Bp
   have q1:=Int.emod_add_mul_ediv (k*(a:Int)+(1-k)*b) n
   have q2:=Int.emod_add_mul_ediv (k*(a:Int)+(1-k)*c) n
   have q3:=Int.emod_add_mul_ediv (k*(b:Int)+(1-k)*c) n
   generalize (k*(a:Int)+(1-k)*b)/n=d1 at q1
   generalize (k*(a:Int)+(1-k)*c)/n=d2 at q2
   generalize (k*(b:Int)+(1-k)*c)/n=d3 at q3
   generalize (k*(a:Int)+(1-k)*b) % n=m1 at*
   generalize (k*(a:Int)+(1-k)*c) % n=m2 at*
   generalize (k*(b:Int)+(1-k)*c) % n=m3 at*
   refine GM (z:=-k*d1+k*d2+(1-k)*d3) ?_
   grind
  omega
theorem DI {k:Int}{n:Nat}(h:Int.gcd k n=1)(x:Int)(hd:(n:Int)∣k*x):(n:Int)∣x:=by
 have h1:=Int.natAbs_dvd_natAbs.mpr hd
 rw[Int.natAbs_mul,Int.natAbs_natCast] at h1
 have h2:Nat.Coprime n k.natAbs:=by
  have:Nat.gcd k.natAbs n=1:=h
  rw[Nat.gcd_comm] at this
  exact this
 exact Int.natAbs_dvd_natAbs.mp (by rw[Int.natAbs_natCast];exact h2.dvd_of_dvd_mul_left h1)
theorem Fj {n:Nat}(x:Int)(hd:(n:Int)∣(-1)*x):(n:Int)∣x:=by
 have:(-1)*x= -x:=by omega
 rw[this] at hd
 exact Int.dvd_neg.mp hd
theorem JR (n:Nat):GoodF n (λa _=>a):=⟨⟨λ_ _ h _=>h,λ_ _ _ _ _ _ e=>e⟩,λ_ _=>rfl,λ_ _ _ _ _ _=>rfl⟩
theorem K8 {n:Nat}{p:Nat->Nat}(h1:∀a,a<n->p a<n)(h2:∀a,a+1=n->p a=a)(h3:∀x y,x<n->y<n->p x=p y->x=y):GoodF n (λa b=>if b+1=n then p a else a) where
 lt a b ha hb:=by
  show(if b+1=n then p a else a)<n
  split
  ·exact h1 a ha
  ·exact ha
 r1 a ha:=by
  show(if a+1=n then p a else a)=a
  split
  ·next h=>exact h2 a h
  ·rfl
 r2 x y b hx hy hb e:=by
  have e:(if b+1=n then p x else x)=if b+1=n then p y else y:=e
  by_cases h:b+1=n
  ·rw[if_pos h,if_pos h] at e;exact h3 x y hx hy e
  ·rw[if_neg h,if_neg h] at e;exact e
 r3 a b c ha hb hc:=by
  show(if c+1=n then p (if b+1=n then p a else a) else if b+1=n then p a else a)=if(if c+1=n then p b else b)+1=n then p (if c+1=n then p a else a) else if c+1=n then p a else a
  by_cases h:c+1=n
  ·rw[if_pos h,if_pos h,if_pos h]
   by_cases g:b+1=n
   ·rw[if_pos g,h2 b g,if_pos g]
   ·rw[if_neg g,if_neg λz=>g ?_]
    have hp:p b=b:=by
     refine h3 _ _ (h1 b hb) hb (h2 _ z)
    rw[hp] at z
    exact z
  ·rw[if_neg h,if_neg h,if_neg h]
theorem BC (n:Nat):GoodF n (λa b=>if 2<n/\a<2/\b+1=n then 1-a else a):=by
 by_cases hn:2<n
 ·refine(K8 (n:=n) (p:=λa=>if a<2 then 1-a else a) (λa ha=>?_) (λa ha=>if_neg (by omega)) λx y _ _ e=>?_).congr λa b _ _=>?_
  ·show(if a<2 then 1-a else a)<n
   split
   ·omega
   ·exact ha
  ·have e:(if x<2 then 1-x else x)=if y<2 then 1-y else y:=e
   by_cases h:x<2
   ·by_cases g:y<2
    ·rw[if_pos h,if_pos g] at e;clear hn;omega
    ·rw[if_pos h,if_neg g] at e;clear hn;omega
   ·by_cases g:y<2
    ·rw[if_neg h,if_pos g] at e;clear hn;omega
    ·rw[if_neg h,if_neg g] at e;exact e
  ·show(if 2<n/\a<2/\b+1=n then 1-a else a)=if b+1=n then(if a<2 then 1-a else a) else a
   by_cases g:b+1=n
   ·rw[if_pos g]
    by_cases h:a<2
    ·rw[if_pos h,if_pos ⟨hn,h,g⟩]
    ·rw[if_neg h,if_neg λz=>h z.2.1]
   ·rw[if_neg g,if_neg λz=>g z.2.2]
 ·exact(JR n).congr λa b _ _=>if_neg λz=>hn z.1
theorem Dq (n:Nat):GoodF n (λa b=>if a+1<n/\b+1=n then(if a+2<n then a+1 else 0) else a):=by
 refine(K8 (n:=n) (p:=λa=>if a+1<n then(if a+2<n then a+1 else 0) else a) (λa ha=>?_) (λa ha=>if_neg (by omega)) λx y hx hy e=>?_).congr λa b _ _=>?_
 ·show(if a+1<n then(if a+2<n then a+1 else 0) else a)<n
  split
  ·split
   ·assumption
   ·exact Nat.lt_of_le_of_lt (Nat.zero_le _) ha
  ·exact ha
 ·have e:(if x+1<n then(if x+2<n then x+1 else 0) else x)=if y+1<n then(if y+2<n then y+1 else 0) else y:=e
  by_cases h:x+1<n
  ·rw[if_pos h] at e
   by_cases g:y+1<n
   ·rw[if_pos g] at e
    by_cases h':x+2<n
    ·rw[if_pos h'] at e
     by_cases g':y+2<n
     ·rw[if_pos g'] at e;exact Nat.succ.inj e
     ·rw[if_neg g'] at e;exact nomatch e
    ·rw[if_neg h'] at e
     by_cases g':y+2<n
     ·rw[if_pos g'] at e;exact nomatch e
     ·clear e hx hy;omega
   ·rw[if_neg g] at e
    by_cases h':x+2<n
    ·rw[if_pos h'] at e;clear hx hy h;omega
    ·rw[if_neg h'] at e;clear hx hy h';omega
  ·rw[if_neg h] at e
   by_cases g:y+1<n
   ·rw[if_pos g] at e
    by_cases h':y+2<n
    ·rw[if_pos h'] at e;clear hx hy g;omega
    ·rw[if_neg h'] at e;clear hx hy h';omega
   ·rw[if_neg g] at e;exact e
 ·show(if a+1<n/\b+1=n then(if a+2<n then a+1 else 0) else a)=if b+1=n then(if a+1<n then(if a+2<n then a+1 else 0) else a) else a
  by_cases g:b+1=n
  ·rw[if_pos g]
   by_cases h:a+1<n
   ·rw[if_pos h,if_pos ⟨h,g⟩]
   ·rw[if_neg h,if_neg λz=>h z.1]
  ·rw[if_neg g,if_neg λz=>g z.2]
noncomputable def Us (h:Nat)(f g:Nat->Nat->Nat)(a b:Nat):Nat:=if a<h/\b<h then f a b else if h<=a/\h<=b then h+g (a-h) (b-h) else a
theorem CP {h m:Nat}{f g:Nat->Nat->Nat}(F:GoodF h f)(G:GoodF m g):GoodF (h+m) (Us h f g):=by
 have s1:∀a b,a<h->b<h->Us h f g a b=f a b:=λa b ha hb=>by unfold Us;rw[if_pos ⟨ha,hb⟩]
 have s2:∀a b,Us h f g (h+a) (h+b)=h+g a b:=λa b=>by unfold Us;rw[if_neg (by omega),if_pos (by omega),Nat.add_sub_cancel_left,Nat.add_sub_cancel_left]
 have s3:∀a b,a<h->Us h f g a (h+b)=a:=λa b ha=>by unfold Us;rw[if_neg (by omega),if_neg (by omega)]
 have s4:∀a b,b<h->Us h f g (h+a) b=h+a:=λa b ha=>by unfold Us;rw[if_neg (by omega),if_neg (by omega)]
 have up:∀a,h<=a->∃a',a=h+a':=λa ha=>⟨a-h,by omega⟩
 refine⟨⟨λa b ha hb=>?_,λx y b hx hy hb e=>?_⟩,λa ha=>?_,λa b c ha hb hc=>?_⟩
 ·by_cases h1:a<h<;> by_cases h2:b<h
  ·rw[s1 a b h1 h2];have:=F.lt a b h1 h2;omega
  ·obtain⟨b,rfl⟩:=up b (by omega);rw[s3 a b h1];omega
  ·obtain⟨a,rfl⟩:=up a (by omega);rw[s4 a b h2];omega
  ·obtain⟨a,rfl⟩:=up a (by omega);obtain⟨b,rfl⟩:=up b (by omega)
   rw[s2];have:=G.lt a b (by omega) (by omega);omega
 ·by_cases h1:x<h<;> by_cases h2:y<h<;> by_cases h3:b<h
  ·rw[s1 _ _ h1 h3,s1 _ _ h2 h3] at e;exact F.r2 x y b h1 h2 h3 e
  ·obtain⟨b,rfl⟩:=up b (by omega);rw[s3 _ _ h1,s3 _ _ h2] at e;exact e
  ·obtain⟨y,rfl⟩:=up y (by omega);rw[s1 _ _ h1 h3,s4 _ _ h3] at e;have:=F.lt x b h1 h3;omega
  ·obtain⟨y,rfl⟩:=up y (by omega);obtain⟨b,rfl⟩:=up b (by omega);rw[s3 _ _ h1,s2] at e;omega
  ·obtain⟨x,rfl⟩:=up x (by omega);rw[s4 _ _ h3,s1 _ _ h2 h3] at e;have:=F.lt y b h2 h3;omega
  ·obtain⟨x,rfl⟩:=up x (by omega);obtain⟨b,rfl⟩:=up b (by omega);rw[s2,s3 _ _ h2] at e;omega
  ·obtain⟨x,rfl⟩:=up x (by omega);obtain⟨y,rfl⟩:=up y (by omega);rw[s4 _ _ h3,s4 _ _ h3] at e;exact e
  ·obtain⟨x,rfl⟩:=up x (by omega);obtain⟨y,rfl⟩:=up y (by omega);obtain⟨b,rfl⟩:=up b (by omega)
   rw[s2,s2] at e
   rw[G.r2 x y b (by omega) (by omega) (by omega) (by omega)]
 ·by_cases h1:a<h
  ·rw[s1 _ _ h1 h1,F.r1 a h1]
  ·obtain⟨a,rfl⟩:=up a (by omega);rw[s2,G.r1 a (by omega)]
 ·by_cases h1:a<h<;> by_cases h2:b<h<;> by_cases h3:c<h
  ·rw[s1 a b h1 h2,s1 a c h1 h3,s1 b c h2 h3,s1 _ _ (F.lt a b h1 h2) h3,s1 _ _ (F.lt a c h1 h3) (F.lt b c h2 h3)];exact F.r3 a b c h1 h2 h3
  ·obtain⟨c,rfl⟩:=up c (by omega)
   rw[s1 a b h1 h2,s3 a c h1,s3 b c h2,s3 _ c (F.lt a b h1 h2),s1 a b h1 h2]
  ·obtain⟨b,rfl⟩:=up b (by omega)
   rw[s3 a b h1,s4 b c h3,s1 a c h1 h3,s3 _ b (F.lt a c h1 h3)]
  ·obtain⟨b,rfl⟩:=up b (by omega);obtain⟨c,rfl⟩:=up c (by omega)
   rw[s3 a b h1,s3 a c h1,s2 b c,s3 _ _ h1]
  ·obtain⟨a,rfl⟩:=up a (by omega)
   rw[s4 a b h2,s4 a c h3,s1 b c h2 h3,s4 _ _ (F.lt b c h2 h3)]
  ·obtain⟨a,rfl⟩:=up a (by omega);obtain⟨c,rfl⟩:=up c (by omega)
   rw[s4 a b h2,s2 a c,s3 b c h2,s4 _ _ h2]
  ·obtain⟨a,rfl⟩:=up a (by omega);obtain⟨b,rfl⟩:=up b (by omega)
   rw[s2 a b,s4 _ c h3,s4 a c h3,s4 b c h3,s2 a b]
  ·obtain⟨a,rfl⟩:=up a (by omega);obtain⟨b,rfl⟩:=up b (by omega);obtain⟨c,rfl⟩:=up c (by omega)
   rw[s2 a b,s2 a c,s2 b c,s2,s2,G.r3 a b c (by omega) (by omega) (by omega)]
noncomputable def DH (way n k a b:Int):Int:=
 if way=1 then(2*b-a) % n else if way=2 then(k*a+(1-k)*b) % n else if way=3/\n > 2/\a<2/\b=n-1 then 1-a else
 if way=6/\a<n-1/\b=n-1 then(a+1) % (n-1) else if way=4/\a<n/2/\b<n/2 then(2*b-a) % (n/2) else
 if way=4/\a≥n/2/\b≥n/2 then n/2+(2*b-a-n/2) % (n-n/2) else a
noncomputable def Gd (way k:Int)(n a b:Nat):Nat:=(DH way n k a b).toNat
theorem Ki (n:Int)(a b:Int):(2*b-a) % n=Bp (-1) n a b:=by
 unfold Bp
 congr 1
 omega
theorem DX {way k:Int}{n:Nat}(hn:0<n)(hk:Int.gcd k n=1):GoodF n (Gd way k n)/\∀a b,a<n->b<n->((Gd way k n a b:Nat):Int)=DH way n k a b:=by
 suffices h:∃f,GoodF n f/\∀a b,a<n->b<n->((f a b:Nat):Int)=DH way n k a b by
  obtain⟨f,g,e⟩:=h
  have e2:∀a b,a<n->b<n->Gd way k n a b=f a b:=λa b ha hb=>by unfold Gd;rw[←e a b ha hb];omega
  exact⟨g.congr e2,λa b ha hb=>by rw[e2 a b ha hb];exact e a b ha hb⟩
 unfold DH
 by_cases w1:way=1
 ·refine⟨_,U4 (k:= -1) hn Fj,λa b ha hb=>?_⟩
  rw[if_pos w1,YE hn,Ki]
 by_cases w2:way=2
 ·refine⟨_,U4 (k:=k) hn (DI hk),λa b ha hb=>?_⟩
  rw[if_neg w1,if_pos w2,YE hn];rfl
 by_cases w3:way=3
 ·refine⟨_,BC n,λa b ha hb=>?_⟩
  rw[if_neg w1,if_neg w2]
  by_cases c:2<n/\a<2/\b+1=n
  ·rw[if_pos c,if_pos ⟨w3,by omega,by omega,by omega⟩];omega
  ·rw[if_neg c,if_neg (λz=>c ⟨by omega,by omega,by omega⟩),if_neg (λz=>by omega),if_neg (λz=>by omega),if_neg (λz=>by omega)]
 by_cases w6:way=6
 ·refine⟨_,Dq n,λa b ha hb=>?_⟩
  have n3:¬(way=3/\(n:Int) > 2/\(a:Int)<2/\(b:Int)=n-1):=λz=>w3 z.1
  by_cases c:a+1<n/\b+1=n
  ·have y6:way=6/\(a:Int)<n-1/\(b:Int)=n-1:=⟨w6,by omega,by omega⟩
   rw[if_pos c,if_neg w1,if_neg w2,if_neg n3,if_pos y6]
   by_cases c2:a+2<n
   ·rw[if_pos c2,Int.emod_eq_of_lt (by omega) (by omega)];omega
   ·rw[if_neg c2]
    have:(a:Int)+1=(n:Int)-1:=by omega
    rw[this,Int.emod_self];rfl
  ·rw[if_neg c,if_neg w1,if_neg w2,if_neg n3,if_neg (λz=>c ⟨by omega,by omega⟩),if_neg (λz=>by omega),if_neg (λz=>by omega)]
 by_cases w4:way=4
 ·have hh:∀m:Nat,0<m->GoodF m (Eb (-1) m):=λm hm=>U4 hm Fj
  by_cases h0:n/2=0
  ·have hn1:n=1:=by omega
   subst hn1
   refine⟨_,JR 1,λa b ha hb=>?_⟩
   have:a=0:=by omega
   have:b=0:=by omega
   subst a b
   rw[if_neg w1,if_neg w2,if_neg (λz=>w3 z.1),if_neg (λz=>w6 z.1),if_neg (λz=>by omega),if_pos ⟨w4,by omega,by omega⟩]
   decide
  ·have g:=CP (hh (n/2) (by omega)) (hh (n-n/2) (by omega))
   rw[show n/2+(n-n/2)=n by omega] at g
   refine⟨_,g,λa b ha hb=>?_⟩
   have hc:((n/2:Nat):Int)=(n:Int)/2:=by omega
   rw[if_neg w1,if_neg w2,if_neg (λz=>w3 z.1),if_neg (λz=>w6 z.1)]
   unfold Us
   by_cases c1:a<n/2/\b<n/2
   ·rw[if_pos c1,if_pos ⟨w4,by omega,by omega⟩,YE (by omega), ←Ki,hc]
   ·have m4:¬(way=4/\(a:Int)<(n:Int)/2/\(b:Int)<(n:Int)/2):=λz=>c1 ⟨by omega,by omega⟩
    rw[if_neg c1,if_neg m4]
    by_cases c2:n/2<=a/\n/2<=b
    ·have y4:way=4/\(a:Int)≥(n:Int)/2/\(b:Int)≥(n:Int)/2:=⟨w4,by omega,by omega⟩
     rw[if_pos c2,if_pos y4]
     have hm:(((n-n/2:Nat)):Int)=(n:Int)-(n:Int)/2:=by omega
     have:=YE (k:=-1) (n:=n-n/2) (by omega) (a-n/2) (b-n/2)
     rw[←Ki,hm] at this
     rw[show 2*(b:Int)-a-(n:Int)/2=2*((b-n/2:Nat):Int)-((a-n/2:Nat):Int) by omega, ←this]
     omega
    ·rw[if_neg c2,if_neg (λz=>c2 ⟨by omega,by omega⟩)]
 refine⟨_,JR n,λa b ha hb=>?_⟩
 rw[if_neg w1,if_neg w2,if_neg (λz=>w3 z.1),if_neg (λz=>w6 z.1),if_neg (λz=>w4 z.1),if_neg (λz=>w4 z.1)]
noncomputable def Vg (a b:Nat):Nat:=(([[0,3,1,2],[2,1,3,0],[3,0,2,1],[1,2,0,3]]:List (List Nat)).getD a []).getD b 0
theorem Cz:GoodF 4 Vg:=by
 have h1:∀a,a<4->∀b,b<4->Vg a b<4:=by decide+kernel
 have h2:∀b,b<4->∀x,x<4->∀y,y<4->Vg x b=Vg y b->x=y:=by decide+kernel
 have h3:∀a,a<4->Vg a a=a:=by decide+kernel
 have h4:∀a,a<4->∀b,b<4->∀c,c<4->Vg (Vg a b) c=Vg (Vg a c) (Vg b c):=by decide+kernel
 exact⟨⟨λa b ha hb=>h1 a ha b hb,λx y b hx hy hb=>h2 b hb x hx y hy⟩,h3,λa b c ha hb hc=>h4 a ha b hb c hc⟩
theorem Ha:XW 4 Vg=[[0,3,1,2],[2,1,3,0],[3,0,2,1],[1,2,0,3]]:=by decide+kernel
end My
namespace My
open PySem L2
theorem Qi {n:Nat}{f:Nat->Nat->Nat}{a:Nat}(h:a<n):atR (XW n f) (a:Int)= .ok (ZF n f a):=Ym (JH h)
theorem Q2 {n:Nat}{f:Nat->Nat->Nat}{a b:Nat}(h:b<n):atR (ZF n f a) (b:Int)= .ok (f a b:Int):=Ym (ZL h)
theorem JN {α:Type}{as:List α}{i:Nat}{a:α}(h:i<as.length):JY as (i:Int) a= .ok (as.set i a):=by
 unfold JY ixN
 rw[if_pos (by omega),if_pos (by omega)]
 simp
theorem IG {n:Nat}{f:Nat->Nat->Nat}{a b v:Nat}:(ZF n f a).set b (v:Int)=ZF n (λx y=>if x=a/\y=b then v else f x y) a:=by
 apply List.ext_getElem?
 intro j
 by_cases hj:j<n
 ·rw[ZL hj]
  by_cases e:j=b
  ·subst e;rw[List.getElem?_set_self (by rw[XV];exact hj)];simp
  ·rw[List.getElem?_set_ne (λz=>e z.symm),ZL hj];simp[e]
 ·rw[List.getElem?_eq_none (by rw[List.length_set,XV];omega),List.getElem?_eq_none (by rw[XV];omega)]
theorem IC {n:Nat}{f:Nat->Nat->Nat}{a b v:Nat}(ha:a<n):(XW n f).set a ((ZF n f a).set b (v:Int))=XW n (λx y=>if x=a/\y=b then v else f x y):=by
 apply List.ext_getElem?
 intro j
 by_cases hj:j<n
 ·rw[JH hj]
  by_cases e:j=a
  ·subst e;rw[List.getElem?_set_self (by rw[XB];exact hj),IG]
  ·rw[List.getElem?_set_ne (λz=>e z.symm),JH hj]
   congr 1
   exact VZ λy _=>by simp[e]
 ·rw[List.getElem?_eq_none (by rw[List.length_set,XB];omega),List.getElem?_eq_none (by rw[XB];omega)]
noncomputable def KI (n:Nat)(sp:List Int)(p q:Nat->Nat):Prop:=PermN n p q/\sp=(List.range n).map λi=>((p i:Nat):Int)
theorem KI.get {n:Nat}{sp:List Int}{p q:Nat->Nat}(h:KI n sp p q){i:Nat}(hi:i<n):atR sp (i:Int)= .ok ((p i:Nat):Int):=Ym (by rw[h.2,List.getElem?_map,List.getElem?_range hi];rfl)
theorem CS {as:List Int}{i:Nat}(h:i<as.length)(hl:as.length<=100000):DM as (i:Int)= .ok (as[i],as.eraseIdx i):=by
 unfold DM
 rw[XE (by omega)]
 have e:seqIndex? (i:Int) as.length=some i:=by
  unfold seqIndex?
  have h0:¬((i:Int)<0):=by omega
  simp[h0,h]
 rw[e]
 simp[h]
theorem EQ {n:Nat}{sp:List Int}(h:sp.Perm ((List.range n).map λ(i:Nat)=>(i:Int))):∃p q,KI n sp p q:=by
 have hl:sp.length=n:=by have:=h.length_eq;simpa using this
 have hlt:∀i,i<n->∃k:Nat,k<n/\sp[i]?=some (k:Int):=λi hi=>by
  have hm:sp[i]'(by omega)∈(List.range n).map λ(i:Nat)=>(i:Int):=h.mem_iff.mp (List.getElem_mem _)
  obtain⟨k,hk,e⟩:=X7 hm
  exact⟨k,hk,by rw[List.getElem?_eq_getElem (by omega),e]⟩
 let p:Nat->Nat:=λi=>(sp[i]?.getD 0).toNat
 have hp:∀i,i<n->p i<n/\sp[i]?=some (p i:Int):=λi hi=>by
  obtain⟨k,hk,e⟩:=hlt i hi
  have:p i=k:=by simp[p,e]
  rw[this];exact⟨hk,e⟩
 have nd:sp.Nodup:=h.nodup_iff.mpr (by
  rw[List.nodup_iff_pairwise_ne,List.pairwise_map]
  exact List.nodup_range.imp fun {a b} h e=>h (by omega))
 obtain⟨q,hq⟩:=Hx (n:=n) (p:=p) (λa ha=>(hp a ha).1) λa b ha hb e=>by
  have h1:=(hp a ha).2
  have h2:=(hp b hb).2
  rw[←e] at h2
  exact(List.getElem?_inj (by omega) nd).mp (h1.trans h2.symm)
 refine⟨p,q,hq,?_⟩
 apply List.ext_getElem?
 intro i
 by_cases hi:i<n
 ·rw[(hp i hi).2,List.getElem?_map,List.getElem?_range hi];rfl
 ·rw[List.getElem?_eq_none (by omega),List.getElem?_eq_none (by simp;omega)]
theorem JQ:∀{as:List Int}{i:Nat} (h:i<as.length),(as[i]::as.eraseIdx i).Perm as
 |a::as,0,_=>by simp
 |a::as,i+1,h=>by
  have:=JQ (as:=as) (i:=i) (by simpa using h)
  simp only[List.getElem_cons_succ,List.eraseIdx_cons_succ]
  exact(List.Perm.swap _ _ _).trans (this.cons a)
theorem FM {α:Type}(as:List α){k:Nat}(h:k<=as.length):KU as (some (k:Int)) none=as.drop k:=by
 unfold KU
 rw[HT.sIx_nat,HT.sIx_none,Nat.min_eq_left h,List.take_of_length_le (by rw[List.length_drop];omega)]
end My
namespace My
theorem QE (names:List Int):(names.flatMap λx=>[x,-x]).length=2*names.length:=by
 induction names with
 |nil=>rfl
 |cons x r ih=>rw[List.flatMap_cons,List.length_append,ih];simp;omega
theorem JL {α:Type}:∀{l:List α}{k:Nat}{y:α},l[k]?=some y->(y::l.eraseIdx k).Perm l
 | [],_,_,e=>by simp at e
 |a::r,0,y,e=>by
  have e':a=y:=by simpa using e
  subst e';exact List.Perm.refl _
 |a::r,k+1,y,e=>by
  have e':r[k]?=some y:=by simpa using e
  show(y::a::r.eraseIdx k).Perm (a::r)
  exact(List.Perm.swap a y _).trans (List.Perm.cons a (JL e'))
theorem K6 {α:Type}{l:List α}{k:Nat}{y:α}(e:l[k]?=some y):(l.eraseIdx k).length+1=l.length:=by
 have:=(JL e).length_eq
 simpa using this
theorem F0 {α:Type}:∀{ws:List (List α)}{j:Nat}{w:List α}{y:α},ws[j]?=some w->((ws.set j (w++[y])).flatten).Perm (y::ws.flatten)
 | [],_,_,_,e=>by simp at e
 |a::r,0,w,y,e=>by
  have e':a=w:=by simpa using e
  subst e'
  show((a++[y])++r.flatten).Perm (y::(a++r.flatten))
  rw[List.append_assoc]
  exact List.perm_middle
 |a::r,j+1,w,y,e=>by
  have e':r[j]?=some w:=by simpa using e
  show(a++(r.set j (w++[y])).flatten).Perm (y::(a++r.flatten))
  exact(List.Perm.append_left a (F0 e')).trans List.perm_middle
theorem BH {α:Type}{ws:List (List α)}{j k:Nat}{w l:List α}{y:α}(e:ws[j]?=some w)(e3:l[k]?=some y):((ws.set j (w++[y])).flatten++l.eraseIdx k).Perm (ws.flatten++l):=by
 refine((F0 (y:=y) e).append_right _).trans ?_
 rw[List.cons_append]
 refine List.perm_middle.symm.trans ?_
 exact List.Perm.append_left _ (JL e3)
theorem mem_set {α:Type}:∀{l:List α}{j:Nat}{v x:α},x∈l.set j v->x∈l∨x=v
 | [],_,_,_,h=>by simp at h
 |a::r,0,v,x,h=>by
  rw[List.set_cons_zero] at h
  rcases List.mem_cons.mp h with h |h
  ·exact .inr h
  ·exact .inl (List.mem_cons_of_mem _ h)
 |a::r,j+1,v,x,h=>by
  rw[List.set_cons_succ] at h
  rcases List.mem_cons.mp h with h |h
  ·exact .inl (by rw[h];exact List.mem_cons_self)
  ·rcases mem_set h with h |h
   ·exact .inl (List.mem_cons_of_mem _ h)
   ·exact .inr h
theorem Ge:∀{l:List Bool}{j:Nat},l[j]?=some false->(l.set j true).count false+1=l.count false
 | [],_,e=>by simp at e
 |a::r,0,e=>by
  have e':a=false:=by simpa using e
  subst e';simp
 |a::r,j+1,e=>by
  have e':r[j]?=some false:=by simpa using e
  have ih:=Ge e'
  rw[List.set_cons_succ,List.count_cons,List.count_cons]
  omega
end My
namespace My
noncomputable def GZ (r:Int×Int)(at':Int):List Int:=if at'=r.1 then[r.2] else if at'=r.1+1 then[-r.2] else[]
noncomputable def UM (r:Int×Int)(at':Int):Int:=if at'=r.1 then r.1+1 else if at'=r.1+1 then r.1 else at'
noncomputable def EV:List (Int×Int)->Int->Int
 | [],a=>a
 |r::rs,a=>EV rs (UM r a)
noncomputable def G8:List (Int×Int)->Int->List Int
 | [],_=>[]
 |r::rs,a=>GZ r a++G8 rs (UM r a)
theorem Bb (rs:List (Int×Int))(r:Int×Int):∀a,EV (rs++[r]) a=UM r (EV rs a):=by
 induction rs with
 |nil=>intro a;rfl
 |cons q rs ih=>intro a;exact ih _
theorem CL (rs:List (Int×Int))(r:Int×Int):∀a,G8 (rs++[r]) a=G8 rs a++GZ r (EV rs a):=by
 induction rs with
 |nil=>intro a;simp[G8,EV]
 |cons q rs ih=>intro a;simp[G8,EV,ih]
theorem Gs {S:Int}{r:Int×Int}{a:Int}(h0:0<=r.1)(h1:r.1+1<S)(a0:0<=a)(a1:a<S):0<=UM r a/\UM r a<S:=by
 unfold UM
 split
 ·omega
 ·split<;> omega
noncomputable def DO (S:Nat):List Int:=(List.range S).map λ(k:Nat)=>(k:Int)
theorem QV {S:Nat}{x:Int}:x∈DO S↔0<=x/\x<(S:Int):=by
 unfold DO
 rw[List.mem_map]
 constructor
 ·rintro⟨k,hk,rfl⟩
  have:=List.mem_range.mp hk
  omega
 ·rintro⟨h0,h1⟩
  exact⟨x.toNat,List.mem_range.mpr (by omega),by omega⟩
theorem Qj {α β:Type}{f:α->β}:∀{l:List α},(∀a b,a∈l->b∈l->f a=f b->a=b)->l.Nodup->(l.map f).Nodup
 | [],_,_=>List.nodup_nil
 |a::r,h,nd=>by
  rw[List.map_cons,List.nodup_cons]
  refine⟨λm=>?_,Qj (λx y hx hy=>h x y (List.mem_cons_of_mem _ hx) (List.mem_cons_of_mem _ hy)) (List.nodup_cons.mp nd).2⟩
  obtain⟨b,hb,e⟩:=List.mem_map.mp m
  have:=h b a (List.mem_cons_of_mem _ hb) List.mem_cons_self e
  exact(List.nodup_cons.mp nd).1 (by rw[←this];exact hb)
theorem QM (S:Nat):(DO S).Nodup:=Qj (λa b _ _ e=>by omega) List.nodup_range
theorem JV {α:Type}[DecidableEq α]:∀{l m:List α},l.Nodup->m.Nodup->(∀x,x∈l↔x∈m)->l.Perm m
 | [],m,_,_,h=>by
  cases m with
  |nil=>exact List.Perm.refl _
  |cons a r=>exact absurd ((h a).mpr List.mem_cons_self) (by simp)
 |a::r,m,nl,nm,h=>by
  have ha:a∈m:=(h a).mp List.mem_cons_self
  have hp:m.Perm (a::m.erase a):=List.perm_cons_erase ha
  refine List.Perm.trans (List.Perm.cons a ?_) hp.symm
  have nd2:(a::m.erase a).Nodup:=hp.nodup_iff.mp nm
  refine JV (List.nodup_cons.mp nl).2 (List.nodup_cons.mp nd2).2 λx=>?_
  constructor
  ·intro hx
   have hxa:x≠a:=λe=>(List.nodup_cons.mp nl).1 (by rw[←e];exact hx)
   have:x∈a::m.erase a:=hp.mem_iff.mp ((h x).mp (List.mem_cons_of_mem _ hx))
   exact(List.mem_cons.mp this).resolve_left hxa
  ·intro hx
   have hxa:x≠a:=λe=>(List.nodup_cons.mp nd2).1 (e▸hx)
   have:x∈a::r:=(h x).mpr (hp.mem_iff.mpr (List.mem_cons_of_mem _ hx))
   exact(List.mem_cons.mp this).resolve_left hxa
theorem BU {S:Nat}{r:Int×Int}(h0:0<=r.1)(h1:r.1+1<(S:Int)):((DO S).map (UM r)).Perm (DO S):=by
 refine JV (Qj (λa b _ _ e=>?_) (QM S)) (QM S) λx=>?_
 ·unfold UM at e
  split at e<;> split at e<;> (try split at e)<;> (try split at e)<;> omega
 ·rw[List.mem_map,QV]
  constructor
  ·rintro⟨a,ha,rfl⟩
   have:=QV.mp ha
   exact Gs h0 h1 this.1 this.2
  ·rintro⟨x0,x1⟩
   refine⟨UM r x,QV.mpr (Gs h0 h1 x0 x1),?_⟩
   unfold UM
   split<;> (try split)<;> (try split)<;> omega
theorem Z0 {α β:Type}(f:α->List β){l m:List α}(h:l.Perm m):(l.flatMap f).Perm (m.flatMap f):=by
 induction h with
 |nil=>exact List.Perm.refl _
 |cons x _ ih=>rw[List.flatMap_cons,List.flatMap_cons];exact List.Perm.append_left _ ih
 |swap x y l=>
  rw[List.flatMap_cons,List.flatMap_cons,List.flatMap_cons,List.flatMap_cons, ←List.append_assoc, ←List.append_assoc]
  exact List.Perm.append_right _ List.perm_append_comm
 |trans _ _ ih1 ih2=>exact ih1.trans ih2
theorem Ue {α β:Type}(f g:α->List β):∀l:List α,(l.flatMap λx=>f x++g x).Perm (l.flatMap f++l.flatMap g)
 | []=>List.Perm.refl _
 |a::r=>by
  rw[List.flatMap_cons,List.flatMap_cons,List.flatMap_cons]
  refine(List.Perm.append_left _ (Ue f g r)).trans ?_
  rw[List.append_assoc,List.append_assoc]
  refine List.Perm.append_left _ ?_
  rw[←List.append_assoc, ←List.append_assoc]
  exact List.Perm.append_right _ List.perm_append_comm
theorem Jc {α β:Type}(f:α->List β):∀{l:List α},(∀x∈l,f x=[])->l.flatMap f=[]
 | [],_=>rfl
 |a::r,h=>by rw[List.flatMap_cons,h a List.mem_cons_self,Jc f λx hx=>h x (List.mem_cons_of_mem _ hx)];rfl
theorem EK {S:Nat}{r:Int×Int}(h0:0<=r.1)(h1:r.1+1<(S:Int)):((DO S).flatMap (GZ r)).Perm [r.2,-r.2]:=by
 have ha:r.1∈DO S:=QV.mpr ⟨h0,by omega⟩
 have hp:=List.perm_cons_erase ha
 have nd:=hp.nodup_iff.mp (QM S)
 have hb:r.1+1∈(DO S).erase r.1:=by
  have:r.1+1∈r.1::(DO S).erase r.1:=hp.mem_iff.mp (QV.mpr ⟨by omega,h1⟩)
  exact(List.mem_cons.mp this).resolve_left (by omega)
 have hq:=List.perm_cons_erase hb
 have nd2:=hq.nodup_iff.mp (List.nodup_cons.mp nd).2
 refine(Z0 _ (hp.trans (List.Perm.cons _ hq))).trans ?_
 rw[List.flatMap_cons,List.flatMap_cons,Jc]
 ·unfold GZ
  rw[if_pos rfl,if_neg (by omega),if_pos rfl]
  exact List.Perm.refl _
 ·intro x hx
  have x2:x≠r.1+1:=λe=>(List.nodup_cons.mp nd2).1 (e▸hx)
  have x1:x≠r.1:=λe=>(List.nodup_cons.mp nd).1 (e▸hq.mem_iff.mpr (List.mem_cons_of_mem _ hx))
  unfold GZ
  rw[if_neg x1,if_neg x2]
theorem Q7 {α β γ:Type}(f:α->β)(g:β->List γ)(l:List α):(l.map f).flatMap g=l.flatMap λx=>g (f x):=by
 induction l with
 |nil=>rfl
 |cons a r ih=>rw[List.map_cons,List.flatMap_cons,List.flatMap_cons,ih]
theorem Fz {S:Nat}:∀{rs:List (Int×Int)},(∀r∈rs,0<=r.1/\r.1+1<(S:Int))->((DO S).flatMap (G8 rs)).Perm (rs.flatMap λr=>[r.2,-r.2])
 | [],_=>by rw[Jc (G8 []) (λx _=>rfl)];exact List.Perm.refl _
 |r::rs,h=>by
  obtain⟨h0,h1⟩:=h r List.mem_cons_self
  rw[List.flatMap_cons]
  refine(Ue (GZ r) (λa=>G8 rs (UM r a)) (DO S)).trans ?_
  refine List.Perm.append (EK h0 h1) ?_
  rw[←Q7 (UM r) (G8 rs)]
  exact(Z0 _ (BU h0 h1)).trans (Fz λq hq=>h q (List.mem_cons_of_mem _ hq))
theorem Lh {x s:Int}(h:s=1∨s= -1): [x*s,-(x*s)].Perm [x,-x]:=by
 rcases h with h |h
 ·subst h;simp
 ·subst h
  have e1:x* -1= -x:=by omega
  have e2: -(-x)=x:=by omega
  rw[e1,e2]
  exact List.Perm.swap _ _ _
theorem Jk {α β:Type}{f g:α->List β}:∀{l:List α},(∀x∈l,(f x).Perm (g x))->(l.flatMap f).Perm (l.flatMap g)
 | [],_=>List.Perm.refl _
 |a::r,h=>by
  rw[List.flatMap_cons,List.flatMap_cons]
  exact List.Perm.append (h a List.mem_cons_self) (Jk λx hx=>h x (List.mem_cons_of_mem _ hx))
end My
namespace My
theorem HL {r:Int×Int}{a:Int}(h:a=r.1):GZ r a=[r.2]:=by unfold GZ;rw[if_pos h]
theorem Iz {r:Int×Int}{a:Int}(h:a=r.1+1):GZ r a=[-r.2]:=by unfold GZ;rw[if_neg (by omega),if_pos h]
theorem Lk {r:Int×Int}{a:Int}(h:¬a=r.1)(h2:¬a=r.1+1):GZ r a=[]:=by unfold GZ;rw[if_neg h,if_neg h2]
theorem Lb {r:Int×Int}{a:Int}(h:a=r.1):UM r a=r.1+1:=by unfold UM;rw[if_pos h]
theorem Ld {r:Int×Int}{a:Int}(h:a=r.1+1):UM r a=r.1:=by unfold UM;rw[if_neg (by omega),if_pos h]
theorem Il {r:Int×Int}{a:Int}(h:¬a=r.1)(h2:¬a=r.1+1):UM r a=a:=by unfold UM;rw[if_neg h,if_neg h2]
structure Done (S:Int)(seen:List Bool)(ps:List Int):Prop where
 nd:ps.Nodup
 at':∀p∈ps,0<=p/\p<S/\seen[p.toNat]?=some true
 of:∀q:Nat,seen[q]?=some true->(q:Int)∈ps
theorem Done.none (S:Int)(n:Nat):Done S (List.replicate n false) []:=
 ⟨List.nodup_nil,λp h=>by simp at h,λq h=>by
  rw[List.getElem?_replicate] at h
  split at h<;> cases h⟩
theorem U0 {l:List Bool}{j q:Nat}(h:l[q]?=some true):(l.set j true)[q]?=some true:=by
 by_cases e:j=q
 ·subst e
  rw[List.getElem?_set_self (List.getElem?_eq_some_iff.mp h).1]
 ·rw[List.getElem?_set_ne e];exact h
theorem Done.snoc {S:Int}{seen:List Bool}{ps:List Int}{a:Int}(h:Done S seen ps)(a0:0<=a)(a1:a<S)(e:seen[a.toNat]?=some false):Done S (seen.set a.toNat true) (ps++[a]):=by
 have hl:a.toNat<seen.length:=(List.getElem?_eq_some_iff.mp e).1
 have hn:a∉ps:=λm=>by
  have:=(h.at' a m).2.2
  rw[e] at this;cases this
 refine⟨?_,λp hp=>?_,λq hq=>?_⟩
 ·rw[List.nodup_append]
  refine⟨h.nd,by simp,λx hx y hy=>?_⟩
  rw[List.mem_singleton.mp hy]
  exact λe=>hn (e▸hx)
 ·rcases List.mem_append.mp hp with hp |hp
  ·obtain⟨h1,h2,h3⟩:=h.at' p hp
   exact⟨h1,h2,U0 h3⟩
  ·rw[List.mem_singleton.mp hp]
   exact⟨a0,a1,by rw[List.getElem?_set_self hl]⟩
 ·by_cases hqa:a.toNat=q
  ·exact List.mem_append_right _ (List.mem_singleton.mpr (by omega))
  ·rw[List.getElem?_set_ne hqa] at hq
   exact List.mem_append_left _ (h.of q hq)
theorem Done.all {S:Int}{seen:List Bool}{ps:List Int}(h:Done S seen ps)(hl:seen.length=S.toNat)(h0:0<=S)(ha:∀q:Nat,q<S.toNat->seen[q]?=some true):ps.Perm (DO S.toNat):=by
 refine JV h.nd (QM _) λx=>?_
 rw[QV]
 constructor
 ·intro hx
  obtain⟨h1,h2,_⟩:=h.at' x hx
  omega
 ·rintro⟨x0,x1⟩
  have:=h.of x.toNat (ha x.toNat (by omega))
  rw[show((x.toNat:Nat):Int)=x by omega] at this
  exact this
theorem Ff {seen:List Bool}{i:Nat}(h:∀q:Nat,q<i->seen[q]?=some true)(hi:seen[i]?=some true):∀q:Nat,q<i+1->seen[q]?=some true:=λq hq=>by
 by_cases e:q=i
 ·subst e;exact hi
 ·exact h q (by omega)
end My
namespace My
open PySem L2
theorem Bo (ns:List Int){p:Int}(hp:0<=p):∃c,VN ns p= .ok c:=by
 unfold VN
 simp only[Rs.okb]
 by_cases h:p<(ns.length:Int)
 ·rw[decide_eq_true h,if_pos rfl]
  have hl:p.toNat<ns.length:=by omega
  exact⟨ns[p.toNat],Mp hp (by simp[hl])⟩
 ·rw[decide_eq_false h,if_neg Bool.false_ne_true]
  obtain⟨g,e,_⟩:=UT (as:=KU ns none (some 63)) (g:=(5:Int)) (f:=λg15 a17=>(Rs.bind (Rs.bind (Rs.bind (Rs.bind (QG g15 48271) λx25=>(Rs.bind (Qg a17 1000003) λx26=>(Rs.ok (x25+x26)))) λx27=>Rs.ok (x27+1)) λx29=>Qg x29 2147483647) λa19=>(Rs.ok (a19)))) (λ_ _=>True) True.intro λi a g _ _=>by
   rw[Z9 (by decide) (by decide),Rs.ok_bind,Yl (by decide),Rs.ok_bind,Rs.ok_bind,Rs.ok_bind,Yl (by decide),Rs.ok_bind]
   exact⟨_,rfl,True.intro⟩
  rw[e,Rs.ok_bind,Zw (by decide) (by decide),Rs.ok_bind,Rs.ok_bind,Yl (by decide)]
  exact⟨_,rfl⟩
theorem Hg (c:Int){k:Int}(h0:0<=k)(h1:k<=100000):∃y,GL c k= .ok y/\0<=y:=by
 unfold GL
 simp only[Rs.okb]
 have hm:0<=c % 2147483629/\c % 2147483629<2147483629:=⟨Int.emod_nonneg _ (by decide),Int.emod_lt_of_pos _ (by decide)⟩
 rw[Yl (by decide),Rs.ok_bind,Zw (by decide) (by decide),Rs.ok_bind,Rs.ok_bind,Rs.ok_bind,Bk (by decide) (by decide) (by omega) (by omega),Rs.ok_bind,Yl (by decide),Rs.ok_bind]
 rw[Z9 (by decide) (by decide),Rs.ok_bind,Zw (by decide) (by decide),Rs.ok_bind,Z9 (by omega) (by omega),Rs.ok_bind,Rs.ok_bind,Rs.ok_bind,Yl (by decide),Rs.ok_bind,K4 (by decide) (by decide)]
 exact⟨_,rfl,Int.ediv_nonneg (Int.emod_nonneg _ (by decide)) (by decide)⟩
theorem B0 (ns:List Int){p:Int}(hp:0<=p)(sizes:List Int)(hl:sizes.length<=100000)(hs:∀x∈sizes,0<x/\x<2^250):
  Ok (Up ns p sizes) λr=>r.length=sizes.length/\∀(i:Nat) x s,r[i]?=some x->sizes[i]?=some s->0<=x/\x<s:=by
 obtain⟨c,ec⟩:=Bo ns hp
 unfold Up
 simp only[Rs.okb]
 rw[ec,show noE (Rs.ok c)= .ok c from rfl,Rs.ok_bind,YA (by omega),Rs.ok_bind,Bk (by decide) (by decide) (by decide) (by decide)]
 simp only[Rs.okb]
 have key:∀(i:Nat) (a:Int) (g:List Int×Int),((List.range sizes.length).map λ(i:Nat)=>(i:Int))[i]?=some a->(g.1.length=i/\∀(j:Nat) x s,g.1[j]?=some x->sizes[j]?=some s->0<=x/\x<s)->∀y z:Int,∀s,sizes[i]?=some s->0<=y/\y<s->((g.1++[y],z).1.length=i+1/\∀(j:Nat) x s,(g.1++[y],z).1[j]?=some x->sizes[j]?=some s->0<=x/\x<s):=by
  intro i a g ha ⟨hg,hq⟩ y z s hs1 hy
  refine⟨by simp[hg],λj x s' hx hs'=>?_⟩
  have hx:(g.1++[y])[j]?=some x:=hx
  rcases Nat.lt_trichotomy j i with hj |hj |hj
  ·rw[List.getElem?_append_left (by omega)] at hx;exact hq j x s' hx hs'
  ·subst hj
   rw[List.getElem?_append_right (by omega),hg,Nat.sub_self] at hx
   have:y=x:=by simpa using hx
   rw[hs1] at hs'
   cases hs'
   rw[←this];exact hy
  ·rw[List.getElem?_eq_none (by simp;omega)] at hx;cases hx
 refine Ok.bind (Ok.forN (λi (g:List Int×Int)=>g.1.length=i/\∀(j:Nat) x s,g.1[j]?=some x->sizes[j]?=some s->0<=x/\x<s) ⟨rfl,λj x s h _=>by simp at h⟩ λi a g ha hg=>?_) (T:=λ(r:List Int)=>r.length=sizes.length/\∀(i:Nat) x s,r[i]?=some x->sizes[i]?=some s->0<=x/\x<s) λg ⟨hg,hq⟩=>?_
 ·obtain⟨rfl,hi⟩:=Yz ha
  have hsz:sizes[i]?=some sizes[i]:=by simp[hi]
  have hsp:=hs _ (List.getElem_mem hi)
  have hgl:g.1.length<sizeLine:=DK (by have:=hg.1;omega)
  by_cases hc:c<10^(18:Int).toNat
  ·rw[decide_eq_true hc,if_pos rfl]
   obtain⟨y,ey,hy⟩:=Hg c (k:=(i:Int)) (by omega) (by omega)
   rw[ey,show noE (Rs.ok y)= .ok y from rfl,Rs.ok_bind,Ym hsz,Rs.ok_bind,Yl hsp.1,Rs.ok_bind,XE hgl]
   exact⟨_,rfl,key i _ g ha hg _ _ _ hsz ⟨Int.emod_nonneg _ (by omega),Int.emod_lt_of_pos _ hsp.1⟩⟩
  ·rw[decide_eq_false hc,if_neg Bool.false_ne_true]
   by_cases hq:0<g.2
   ·rw[decide_eq_true hq,if_pos rfl,Ym hsz,Rs.ok_bind,Yl hsp.1,Rs.ok_bind,XE hgl]
    simp only[Rs.okb]
    rw[K4 hsp.1 hsp.2]
    exact⟨_,rfl,key i _ g ha hg _ _ _ hsz ⟨Int.emod_nonneg _ (by omega),Int.emod_lt_of_pos _ hsp.1⟩⟩
   ·rw[decide_eq_false hq,if_neg Bool.false_ne_true,Yl (by decide),Rs.ok_bind]
    obtain⟨c2,ec2⟩:=Bo ns (p:=(p+1+(i:Int)) % 63) (Int.emod_nonneg _ (by decide))
    obtain⟨y,ey,hy⟩:=Hg c2 (k:=(i:Int)) (by omega) (by omega)
    rw[ec2,show noE (Rs.ok c2)= .ok c2 from rfl,Rs.ok_bind,ey,show noE (Rs.ok y)= .ok y from rfl,Rs.ok_bind,Ym hsz,Rs.ok_bind,Yl hsp.1,Rs.ok_bind,XE hgl]
    exact⟨_,rfl,key i _ g ha hg _ _ _ hsz ⟨Int.emod_nonneg _ (by omega),Int.emod_lt_of_pos _ hsp.1⟩⟩
 ·rw[Yp] at hg
  exact⟨g.1,rfl,hg,hq⟩
theorem Za {α:Type}{r:List α}{k:Int}{n:Nat}(e:k=(n:Int))(h:n<r.length):atR r k= .ok r[n]:=by
 subst e;exact Ym (by simp[h])
theorem JC {γ:Type}{c:γ->Rs Bool}{f:γ->Rs γ}(P:γ->Prop)(μ:γ->Nat)(hs:∀g,P g->∃b,c g= .ok b/\(b=true->Ok (f g) λg'=>P g'/\μ g'<μ g)):∀(n:Nat) (g:γ),P g->μ g<n->Ok (Q1 n g c f) λg'=>P g'/\c g'= .ok false
 |0,_,_,h=>by omega
 |n+1,g,hp,hm=>by
  obtain⟨b,hb,h⟩:=hs g hp
  show Ok ((c g).bind _) _
  rw[hb,Rs.okb]
  cases b with
  |false=>rw[if_neg Bool.false_ne_true];exact⟨g,rfl,hp,hb⟩
  |true=>
   rw[if_pos rfl]
   exact Ok.bind (h rfl) λg' h'=>JC P μ hs n g' h'.1 (by omega)
theorem EM {ns r:List Int}(hl:ns.length<=100)(hr:8*ns.length+3<=r.length):Ok (J0 ns r) λl=>l.Perm ns:=by
 unfold J0
 simp only[Rs.okb]
 rw[YA (by omega)]
 simp only[Rs.okb]
 refine Ok.bind (Ok.forN (λi (g:List Int×List Int)=>g.1.length=i/\(g.1++g.2).Perm ns) ⟨rfl,List.Perm.refl _⟩ λi a g ha hg=>?_) λg hg=>?_
 ·obtain⟨rfl,hi⟩:=Yz ha
  obtain⟨h1,h2⟩:=hg
  have hl:=h2.length_eq
  simp only[List.length_append] at hl
  rw[Zw (by decide) (by decide)]
  simp only[Rs.okb]
  rw[Za (r:=r) (n:=8*i+9) (by omega) (by omega)]
  simp only[Rs.okb]
  have hpos:(0:Int)<(g.2.length:Int):=by omega
  generalize r[8*i+9]=y
  have hm1:=Int.emod_nonneg y (show(g.2.length:Int)≠0 by omega)
  have hm2:=Int.emod_lt_of_pos y hpos
  rw[Yl hpos,Rs.okb]
  generalize hk:y % (g.2.length:Int)=k at hm1 hm2
  obtain⟨j,rfl⟩:∃j:Nat,k=j:=⟨k.toNat,by omega⟩
  have hj:j<g.2.length:=by omega
  rw[CS hj (by omega),Rs.okb,XE (DK (by omega))]
  refine⟨_,rfl,by simp[h1],?_⟩
  refine List.Perm.trans ?_ h2
  show((g.1++[g.2[j]])++g.2.eraseIdx j).Perm (g.1++g.2)
  rw[List.append_assoc]
  exact(JQ hj).append_left _
 ·obtain⟨h1,h2⟩:=hg
  rw[Yp] at h1
  have hl:=h2.length_eq
  simp only[List.length_append] at hl
  have:g.2=[]:=List.length_eq_zero_iff.mp (by omega)
  rw[this,List.append_nil] at h2
  exact⟨_,rfl,h2⟩
theorem L5 {ns r:List Int}{rings:Nat}(hl:ns.length<=100)(hr:8*ns.length+3<=r.length)(hg:ns≠ []->1<=rings)(hg2:rings<=100):Ok (Dg ns r (rings:Int)) λws=>ws.length=rings/\ws.flatten.Perm (ns.flatMap λx=>[x,-x]):=by
 unfold Dg
 simp only[Rs.okb]
 refine Ok.bind (Ok.forN (λi (g:List Int)=>g=(ns.take i).flatMap λx=>[x,-x]) rfl λi a g ha hg=>?_) λg hgg=>?_
 ·have hi:=(List.getElem?_eq_some_iff.mp ha).1
  subst hg
  rw[XE (show[a,-a].length<=sizeLine from sz (by simp)),Rs.okb,XE (sz (by rw[QE];simp;omega))]
  refine⟨_,rfl,?_⟩
  rw[List.take_add_one,ha]
  simp
 rw[List.take_length] at hgg
 subst hgg
 rw[YA (by omega)]
 simp only[Rs.okb]
 rw[Zh (h:=λ_=>([]:List Int)) (sz (by simp;omega)) λ_ _=>rfl]
 simp only[Rs.okb]
 rw[Zw (by decide) (by decide),Rs.okb,show(2:Int)*(ns.length:Int)=((2*ns.length:Nat):Int) by omega,YA (by omega)]
 simp only[Rs.okb]
 refine Ok.bind (Ok.forN (λi (g:List Int×List (List Int))=>g.2.length=rings/\g.1.length+i=2*ns.length/\(∀w∈g.2,w.length<=i)/\(g.2.flatten++g.1).Perm (ns.flatMap λx=>[x,-x])) ⟨by simp,by rw[QE];rfl,λw hw=>?_,?_⟩ λi a g ha hg=>?_) λg hg=>?_
 ·obtain⟨_,_,rfl⟩:=List.mem_map.mp hw
  exact Nat.zero_le _
 ·have:∀l:List Int,(l.map λ_=>([]:List Int)).flatten=[]:=λl=>by simp
  rw[this];exact List.Perm.refl _
 ·obtain⟨rfl,hi⟩:=Yz ha
  obtain⟨h1,h2,h3,h4⟩:=hg
  have hne:1<=rings:=by
   refine ‹ns≠ []->1<=rings› λe=>?_
   rw[e] at hi;simp at hi
  rw[Zw (by decide) (by decide)]
  simp only[Rs.okb]
  rw[Za (r:=r) (n:=4*i+5) (by omega) (by omega)]
  simp only[Rs.okb]
  have hpos:(0:Int)<(g.1.length:Int):=by omega
  generalize r[4*i+5]=y
  have hm1:=Int.emod_nonneg y (show(g.1.length:Int)≠0 by omega)
  have hm2:=Int.emod_lt_of_pos y hpos
  rw[Yl hpos,Rs.okb]
  generalize hk:y % (g.1.length:Int)=k at hm1 hm2
  obtain⟨j,rfl⟩:∃j:Nat,k=j:=⟨k.toNat,by omega⟩
  have hj:j<g.1.length:=by omega
  rw[CS hj (by omega),Rs.okb]
  simp only[Rs.okb]
  rw[Za (r:=r) (n:=4*i+6) (by omega) (by omega)]
  simp only[Rs.okb]
  generalize r[4*i+6]=y2
  have hp2:(0:Int)<(rings:Int):=by omega
  have hn1:=Int.emod_nonneg y2 (show(rings:Int)≠0 by omega)
  have hn2:=Int.emod_lt_of_pos y2 hp2
  rw[Yl hp2,Rs.okb]
  generalize hk2:y2 % (rings:Int)=k2 at hn1 hn2
  obtain⟨q,rfl⟩:∃q:Nat,k2=q:=⟨k2.toNat,by omega⟩
  have hq:q<g.2.length:=by omega
  have hw:=h3 g.2[q] (List.getElem_mem hq)
  rw[Za (n:=q) rfl hq,Rs.okb,XE (DK (by omega)),JN hq,Rs.okb]
  have hjs:g.1[j]?=some g.1[j]:=by simp[hj]
  have hqs:g.2[q]?=some g.2[q]:=by simp[hq]
  refine⟨_,rfl,by simp[h1],?_,λw hw'=>?_,(BH hqs hjs).trans h4⟩
  ·have:=K6 hjs
   show(g.1.eraseIdx j).length+(i+1)=_
   omega
  ·rcases mem_set hw' with h |h
   ·have:=h3 w h;omega
   ·rw[h];simp;omega
 ·obtain⟨h1,h2,h3,h4⟩:=hg
  rw[Yp] at h2
  have:g.1=[]:=List.length_eq_zero_iff.mp (by omega)
  rw[this,List.append_nil] at h4
  exact⟨_,rfl,h1,h4⟩
noncomputable def V7 (ns r:List Int)(sg:Int->Int)(S:Int):List (Int×Int):=(List.range ns.length).map λk=>(r.getD (8*k+10) 0 % (S-1),ns.getD k 0*sg (ns.getD k 0))
theorem DC {ns r:List Int}{sg:Int->Int}{S:Int}{k:Nat}(h:k<ns.length)(h2:8*k+10<r.length):(V7 ns r sg S)[k]?=some (r[8*k+10] % (S-1),ns[k]*sg ns[k]):=by
 unfold V7
 rw[List.getElem?_map,List.getElem?_range h]
 simp[h,h2]
theorem Dk {ns r:List Int}{d:List (Int×Int)}{sg:Int->Int}{S:Nat}(hl:ns.length<=100)(hr:8*ns.length+3<=r.length)(hd:∀x∈ns,ZV d x=some (sg x))(hs:∀x∈ns,sg x=1∨sg x= -1)(h2:2<=S)(h4:S<=100):Ok (Qc ns d r (S:Int)) λws=>ws.length<=S/\ws.flatten.Perm (ns.flatMap λx=>[x,-x]):=by
 have hrs:∀q∈V7 ns r sg (S:Int),0<=q.1/\q.1+1<(S:Int):=λq hq=>by
  obtain⟨k,_,rfl⟩:=List.mem_map.mp hq
  have hp:(0:Int)<(S:Int)-1:=by omega
  have hm1:=Int.emod_nonneg (r.getD (8*k+10) 0) (show((S:Int)-1)≠0 by omega)
  have hm2:=Int.emod_lt_of_pos (r.getD (8*k+10) 0) hp
  show 0<=_ % _/\_ % _+1<_
  omega
 have hrl:(V7 ns r sg (S:Int)).length=ns.length:=by simp[V7]
 have hin:∀(rs:List (Int×Int)),(∀q∈rs,0<=q.1/\q.1+1<(S:Int))->∀a:Int,0<=a->a<(S:Int)->0<=EV rs a/\EV rs a<(S:Int):=by
  intro rs
  induction rs with
  |nil=>intro _ a h0 h1;exact⟨h0,h1⟩
  |cons q rs ih=>
   intro hq a h0 h1
   have h:=Gs (hq q (by simp)).1 (hq q (by simp)).2 h0 h1
   exact ih (λx hx=>hq x (by simp[hx])) _ h.1 h.2
 have hcl:∀(rs:List (Int×Int)) (a:Int),(G8 rs a).length<=rs.length:=by
  intro rs
  induction rs with
  |nil=>intro a;exact Nat.le_refl _
  |cons q rs ih=>
   intro a
   show(GZ q a++G8 rs (UM q a)).length<=_
   have h1:(GZ q a).length<=1:=by
    unfold GZ
    split
    ·simp
    ·split<;> simp
   have:=ih (UM q a)
   simp only[List.length_append,List.length_cons]
   omega
 unfold Qc
 simp only[Rs.okb]
 rw[XE (show[false].length<=sizeLine from sz (by simp)),Rs.okb,show U8 [false] (S:Int)= .ok (List.replicate S false) from ?_]
 rotate_left
 ·unfold U8
  rw[XE ⟨by omega,by omega,sz (by simp;omega)⟩,Int.toNat_natCast]
  congr 1
  clear h2 h4 hrs hin hrl
  induction S with
  |zero=>rfl
  |succ n ih=>rw[List.replicate_succ,List.flatten_cons,ih,List.replicate_succ];rfl
 rw[Rs.okb,YA (by omega),Rs.okb]
 generalize hR:V7 ns r sg (S:Int)=rs at hrs hrl
 refine Ok.bind (Ok.forN (λi (g:List Bool×List (List Int))=>g.1.length=S/\g.2.length<=i/\(∀q:Nat,q<i->g.1[q]?=some true)/\∃ps,Done (S:Int) g.1 ps/\g.2.flatten=ps.flatMap (G8 rs)) ⟨by simp,Nat.le_refl _,λq hq=>by omega,[],Done.none _ _,rfl⟩ λi a g ha hg=>?_) λg hg=>?_
 ·obtain⟨rfl,hi⟩:=Yz ha
  obtain⟨g1,g2,g3,ps,g4,g5⟩:=hg
  have hi1:i<g.1.length:=by omega
  rw[Za (n:=i) rfl hi1]
  simp only[Rs.okb]
  cases hb:g.1[i] with
  |true=>
   rw[show(!true)=false from rfl,if_neg Bool.false_ne_true]
   simp only[Rs.okb]
   exact⟨_,rfl,g1,by show g.2.length<=_;omega,Ff g3 (by simp[hi1,hb]),ps,g4,g5⟩
  |false=>
   rw[show(!false)=true from rfl,if_pos rfl]
   refine Ok.bind (R:=λg':List Bool×List (List Int)=>g'.1.length=S/\g'.2.length<=i+1/\(∀q:Nat,q<i+1->g'.1[q]?=some true)/\∃ps,Done (S:Int) g'.1 ps/\g'.2.flatten=ps.flatMap (G8 rs)) (Ok.bind (JC (λg':List Bool×Int×List Int=>g'.1.length=S/\0<=g'.2.1/\g'.2.1<(S:Int)/\(∀q:Nat,g.1[q]?=some true->g'.1[q]?=some true)/\((g'.2.1=(i:Int)/\g'.1[i]?=some false)∨g'.1[i]?=some true)/\g'.2.2.length+100*g'.1.count false<=100*S/\∃qs,Done (S:Int) g'.1 (ps++qs)/\g'.2.2=qs.flatMap (G8 rs)) (λg'=>g'.1.count false) (λg' hg'=>?_) _ (g.1,(i:Int),[]) ⟨g1,by show(0:Int)<=(i:Int);omega,by show(i:Int)<(S:Int);omega,λq h=>h, .inl ⟨rfl,by simp[hi1,hb]⟩,by
    have:g.1.count false<=g.1.length:=List.count_le_length
    show 0+100*g.1.count false<=100*S
    omega,[],by rw[List.append_nil];exact g4,rfl⟩ ?_) λg' hg'=>?_) λg' hg'=>?_
   ·obtain⟨w1,w2,w3,w4,w5,w8,qs,w6,w7⟩:=hg'
    obtain⟨p,hp⟩:∃p:Nat,g'.2.1=(p:Int):=⟨g'.2.1.toNat,by omega⟩
    have hpl:p<g'.1.length:=by omega
    rw[Za hp hpl]
    refine⟨_,rfl,λhf=>?_⟩
    have hf':g'.1[p]=false:=by simpa using hf
    have hfs:g'.1[p]?=some false:=by simp[hpl,hf']
    rw[hp,JN hpl]
    simp only[Rs.okb]
    rw[YA (by omega)]
    simp only[Rs.okb]
    refine Ok.bind (Ok.forN (λk (h:Int×List Int)=>h.1=EV (rs.take k) (p:Int)/\h.2=g'.2.2++G8 (rs.take k) (p:Int)) ⟨rfl,by rw[List.take_zero];exact(List.append_nil _).symm⟩ λk b h hb' hh=>?_) λh hh=>?_
    ·obtain⟨rfl,hk⟩:=Yz hb'
     obtain⟨e1,e2⟩:=hh
     have hq:=DC (sg:=sg) (S:=(S:Int)) hk (show 8*k+10<r.length by omega)
     rw[hR] at hq
     have hts:rs.take (k+1)=rs.take k++[(r[8*k+10] % ((S:Int)-1),ns[k]*sg ns[k])]:=by rw[List.take_add_one,hq];rfl
     rw[hts,Bb,CL, ←e1]
     rw[Zw (by decide) (by decide)]
     simp only[Rs.okb]
     rw[Za (r:=r) (n:=8*k+10) (by omega) (by omega)]
     simp only[Rs.okb]
     rw[Yl (by omega)]
     simp only[Rs.okb]
     rw[Za (r:=ns) (n:=k) rfl hk]
     simp only[Rs.okb]
     have hgd:Ur d ns[k]= .ok (sg ns[k]):=by unfold Ur;rw[hd _ (List.getElem_mem hk)];rfl
     have hsg:=hs _ (List.getElem_mem hk)
     rw[hgd]
     simp only[Rs.okb]
     rw[Z9 (a:=ns[k]) (by omega) (by omega),Z9 (a:=-ns[k]) (by omega) (by omega)]
     simp only[Rs.okb]
     have hlen:h.2.length<sizeLine:=DK (by
      have:=hcl (rs.take k) (p:Int)
      rw[List.length_take] at this
      rw[e2,List.length_append];omega)
     rw[XE hlen,XE hlen]
     generalize r[8*k+10] % ((S:Int)-1)=low
     by_cases c1:h.1=low
     ·rw[if_pos (decide_eq_true c1)]
      simp only[Rs.okb]
      refine⟨_,rfl,?_,?_⟩
      ·rw[Lb c1]
      ·rw[HL c1,e2,List.append_assoc]
     ·rw[if_neg (by rw[decide_eq_false c1];exact Bool.false_ne_true)]
      by_cases c2:h.1=low+1
      ·rw[if_pos (decide_eq_true c2)]
       simp only[Rs.okb]
       refine⟨_,rfl,?_,?_⟩
       ·rw[Ld c2]
       ·rw[Iz c2,e2,List.append_assoc,Int.neg_mul]
      ·rw[if_neg (by rw[decide_eq_false c2];exact Bool.false_ne_true)]
       simp only[Rs.okb]
       refine⟨_,rfl,?_,?_⟩
       ·rw[Il c1 c2]
       ·rw[Lk c1 c2,List.append_nil,e2]
    ·rw[Yp, ←hrl,List.take_length] at hh
     obtain⟨e1,e2⟩:=hh
     have hpr:=hin rs hrs (p:Int) (by omega) (by omega)
     have hct:=Ge hfs
     have hcl':=hcl rs (p:Int)
     refine⟨_,rfl,⟨?_,?_,?_,?_,?_,?_,qs++[(p:Int)],?_,?_⟩,?_⟩
     ·show(g'.1.set p true).length=S
      rw[List.length_set];exact w1
     ·show 0<=h.1
      rw[e1];exact hpr.1
     ·show h.1<_
      rw[e1];exact hpr.2
     ·exact λq hq=>U0 (w4 q hq)
     ·refine .inr ?_
      show(g'.1.set p true)[i]?=some true
      rcases w5 with⟨h1,_⟩ |h1
      ·have:p=i:=by omega
       subst this
       rw[List.getElem?_set_self hpl]
      ·exact U0 h1
     ·show h.2.length+100*(g'.1.set p true).count false<=100*S
      rw[e2,List.length_append];omega
     ·rw[←List.append_assoc]
      have:=w6.snoc (a:=(p:Int)) (by omega) (by omega) (by rw[Int.toNat_natCast];exact hfs)
      rwa [Int.toNat_natCast] at this
     ·show h.2=_
      rw[e2,w7,List.flatMap_append]
      simp
     ·show(g'.1.set p true).count false<g'.1.count false
      omega
   ·have:g.1.count false<=g.1.length:=List.count_le_length
    show g.1.count false<(S:Int).natAbs+2
    omega
   ·obtain⟨⟨w1,w2,w3,w4,w5,w8,qs,w6,w7⟩,hc⟩:=hg'
    obtain⟨p,hp⟩:∃p:Nat,g'.2.1=(p:Int):=⟨g'.2.1.toNat,by omega⟩
    have hpl:p<g'.1.length:=by omega
    rw[Za hp hpl,Rs.okb] at hc
    have hc':g'.1[p]=true:=by
     have:=Rs.ok.inj hc
     simpa using this
    have h5:g'.1[i]?=some true:=by
     rcases w5 with⟨h1,h6⟩ |h1
     ·have:p=i:=by omega
      subst this
      rw[List.getElem?_eq_getElem hpl,hc'] at h6
      cases h6
     ·exact h1
    rw[XE (DK (by omega))]
    refine⟨_,rfl,w1,?_,?_,ps++qs,w6,?_⟩
    ·show(g.2++[g'.2.2]).length<=_
     simp;omega
    ·exact Ff (λq hq=>w4 q (g3 q hq)) h5
    ·show(g.2++[g'.2.2]).flatten=_
     rw[List.flatten_append,g5,List.flatMap_append,w7]
     simp
   ·exact⟨_,rfl,hg'⟩
 ·obtain⟨g1,g2,g3,ps,g4,g5⟩:=hg
  rw[Yp] at g2 g3
  refine⟨_,rfl,g2,?_⟩
  rw[g5]
  refine(Z0 _ (g4.all (by rw[g1];rfl) (by omega) λq hq=>g3 q (by omega))).trans ?_
  rw[Int.toNat_natCast]
  refine(Fz hrs).trans ?_
  rw[←hR]
  unfold V7
  rw[Q7]
  have e:ns.flatMap (λx=>[x,-x])=(List.range ns.length).flatMap λk=>[ns.getD k 0,-(ns.getD k 0)]:=by
   have h:ns=(List.range ns.length).map λk=>ns.getD k 0:=List.ext_getElem (by simp) λj h1 h2=>by simp[h1]
   conv=>lhs;rw[h]
   rw[Q7]
  rw[e]
  refine Jk λk hk=>Lh (hs _ ?_)
  have hk':=List.mem_range.mp hk
  simp[hk']
theorem Cw {α:Type}{l:List α}{m c:Nat}(hm:l.length=m)(hc:c<m):∀{n j:Nat},j<n->(List.replicate n l).flatten[m*j+c]?=l[c]?
 |0,_,h=>by omega
 |n+1,0,_=>by
  rw[List.replicate_succ,List.flatten_cons,Nat.mul_zero,Nat.zero_add,List.getElem?_append_left (by omega)]
 |n+1,j+1,h=>by
  rw[List.replicate_succ,List.flatten_cons,List.getElem?_append_right (by rw[hm,Nat.mul_succ];omega),hm,show m*(j+1)+c-m=m*j+c by rw[Nat.mul_succ];omega]
  exact Cw hm hc (by omega)
theorem Bj {α:Type}(l:List α):∀n:Nat,(List.replicate n l).flatten.length=n*l.length
 |0=>by simp
 |n+1=>by rw[List.replicate_succ,List.flatten_cons,List.length_append,Bj l n,Nat.succ_mul];omega
structure Drawn (most:Nat)(D:List (List Int)×List (Int×Int)):Prop where
 le:D.2.length<=most
 inc:(D.2.map Prod.fst).Pairwise (· < ·)
 pos:∀e∈D.2,1<=e.1/\e.1<2^62/\(e.2=1∨e.2= -1)
 perm:D.1.flatten.Perm ((D.2.map Prod.fst).flatMap λx=>[x,-x])
 few:D.1.length<=5
theorem BV:∀{d:List (Int×Int)}{x:Int},x∈d.map Prod.fst->∃v,ZV d x=some v/\(x,v)∈d
 | [],_,h=>by simp at h
 |kv::d,x,h=>by
  by_cases c:kv.1=x
  ·exact⟨kv.2,by simp[ZV,List.find?_cons,c],by rw[←c];simp⟩
  ·have hx:x∈d.map Prod.fst:=by
    rw[List.map_cons,List.mem_cons] at h
    rcases h with h |h
    ·exact absurd h.symm c
    ·exact h
   obtain⟨v,h1,h2⟩:=BV hx
   exact⟨v,by unfold ZV at h1⊢;rw[List.find?_cons,decide_eq_false c];exact h1,List.mem_cons_of_mem _ h2⟩
theorem Et {d:List (Int×Int)}{k v:Int}(h:∀x∈d.map Prod.fst,x≠k):GI d k v=d++[(k,v)]:=by
 unfold GI
 rw[if_neg]
 rw[List.any_eq_true]
 rintro⟨kv,h1,h2⟩
 exact h kv.1 (List.mem_map.mpr ⟨kv,h1,rfl⟩) (by simpa using h2)
theorem E1 (ns:List Int){p:Int}(hp:0<=p){most:Nat}(hm:most<=100):Ok (Q9 ns p (most:Int)) (Drawn most):=by
 unfold Q9
 simp only[Rs.okb]
 rw[XE (sz (by simp))]
 simp only[Rs.okb]
 rw[XE (sz (by simp))]
 simp only[Rs.okb]
 rw[Zw (by decide) (by decide),Rs.okb,show(2:Int)*(most:Int)=((2*most:Nat):Int) by omega]
 rw[show U8 [(80:Int),5,2,3] ((2*most:Nat):Int)= .ok (List.replicate (2*most) [(80:Int),5,2,3]).flatten from by
  unfold U8
  rw[XE ⟨by omega,by omega,sz (by simp;omega)⟩,Int.toNat_natCast]]
 simp only[Rs.okb]
 have hrl:=Bj [(80:Int),5,2,3] (2*most)
 have hrg:∀{j c:Nat},c<4->j<2*most->(List.replicate (2*most) [(80:Int),5,2,3]).flatten[4*j+c]?=[(80:Int),5,2,3][c]?:=fun {j c} hc hj=>Cw rfl hc hj
 have hrm:∀x∈(List.replicate (2*most) [(80:Int),5,2,3]).flatten,0<x/\x<2^250:=λx hx=>by
  obtain⟨l,h1,h2⟩:=List.mem_flatten.mp hx
  rw[(List.mem_replicate.mp h1).2] at h2
  simp only[List.mem_cons,List.not_mem_nil,or_false] at h2
  rcases h2 with rfl |rfl |rfl |rfl<;> decide
 generalize (List.replicate (2*most) [(80:Int),5,2,3]).flatten=tl at hrl hrg hrm
 rw[show([(80:Int),5,2,3]).length=4 from rfl] at hrl
 rw[show GE [(most:Int)+1,5,4,3,3] tl= .ok ([(most:Int)+1,5,4,3,3]++tl) from XE (sz (by simp;omega))]
 simp only[Rs.okb]
 refine Ok.bind (Ok.noE (B0 ns hp _ (by simp;omega) λx hx=>?_)) λr hr=>?_
 ·rw[List.mem_append] at hx
  rcases hx with h |h
  ·simp only[List.mem_cons,List.not_mem_nil,or_false] at h
   rcases h with rfl |rfl |rfl |rfl |rfl
   ·refine⟨by omega,by omega⟩
   all_goals decide
  ·exact hrm x h
 obtain⟨hl,hv⟩:=hr
 have hl':r.length=5+8*most:=by rw[hl];simp;omega
 have hv5:∀(j c:Nat) (s:Int),c<4->j<2*most-> [(80:Int),5,2,3][c]?=some s->∀h:5+4*j+c<r.length,0<=r[5+4*j+c]/\r[5+4*j+c]<s:=λj c s hc hj hs h=>by
  refine hv (5+4*j+c) _ s (by simp[h]) ?_
  rw[List.getElem?_append_right (by simp;omega)]
  simp only[List.length_cons,List.length_nil]
  rw[show 5+4*j+c-(0+1+1+1+1+1)=4*j+c by omega,hrg hc hj]
  exact hs
 have v0:=hv 0 r[0] _ (by simp) rfl
 have v1:=hv 1 r[1] _ (by simp) rfl
 have v2:=hv 2 r[2] _ (by simp) rfl
 have v3:=hv 3 r[3] _ (by simp) rfl
 have v4:=hv 4 r[4] _ (by simp) rfl
 rw[Za (r:=r) (k:=0) (n:=0) rfl (by omega),Za (r:=r) (k:=1) (n:=1) rfl (by omega),Za (r:=r) (k:=2) (n:=2) rfl (by omega),Za (r:=r) (k:=3) (n:=3) rfl (by omega),Za (r:=r) (k:=4) (n:=4) rfl (by omega)]
 simp only[Rs.okb]
 obtain⟨m0,hm0⟩:∃m0:Nat,r[0]=m0:=⟨r[0].toNat,by omega⟩
 rw[hm0] at v0⊢
 rw[YA (by omega),Bk (by decide) (by decide) (by decide) (by decide)]
 simp only[Rs.okb]
 rw[XE (sz (by simp))]
 simp only[Rs.okb]
 have hz:∃z,atR [0,1,(10:Int)^(9:Int).toNat] r[3]= .ok z/\0<=z/\z<=1000000000:=by
  rcases(by omega:r[3]=0∨r[3]=1∨r[3]=2) with h |h |h<;> rw[h]
  ·exact⟨0,rfl,by decide,by decide⟩
  ·exact⟨1,rfl,by decide,by decide⟩
  ·exact⟨1000000000,rfl,by decide,by decide⟩
 obtain⟨z,hz,hz0,hz1⟩:=hz
 rw[hz]
 simp only[Rs.okb]
 refine Ok.bind (Ok.forN (λi (g:Int×List (Int×Int)×List Int)=>g.2.1.map Prod.fst=g.2.2/\g.2.2.length=i/\0<=g.1/\g.1<=(i:Int)*3000000000/\g.2.2.Pairwise (· < ·)/\(∀x∈g.2.2,1<=x/\x<=g.1)/\∀e∈g.2.1,e.2=1∨e.2= -1) ⟨rfl,rfl,Int.le_refl _,by decide,List.Pairwise.nil,λx hx=>(by cases hx),λx hx=>(by cases hx)⟩ λi a g ha hg=>?_) λg hg=>?_
 ·obtain⟨rfl,hi⟩:=Yz ha
  obtain⟨h1,h2,h3,h4,h5,h6,h7⟩:=hg
  have hA:5+4*(2*i)+3<r.length:=by omega
  have hB:5+4*(2*i)+2<r.length:=by omega
  have kA:=hv5 (2*i) 3 3 (by omega) (by omega) rfl hA
  have kB:=hv5 (2*i) 2 2 (by omega) (by omega) rfl hB
  rw[Zw (a:=8) (by decide) (by decide)]
  simp only[Rs.okb]
  rw[Za (r:=r) (k:=8*(i:Int)+8) (n:=5+4*(2*i)+3) (by omega) hA,Za (r:=r) (k:=8*(i:Int)+7) (n:=5+4*(2*i)+2) (by omega) hB]
  simp only[Rs.okb]
  generalize r[5+4*(2*i)+3]=y at kA
  generalize r[5+4*(2*i)+2]=y2 at kB
  rw[Zw (a:=y) (by omega) (by omega),Zw (a:=2) (by decide) (by decide)]
  simp only[Rs.okb]
  have hd1:g.2.1.length=i:=by rw[←h2, ←h1,List.length_map]
  rw[XE (DK (by omega)),XE (DK (by omega))]
  have q0:0<=y*z:=Int.mul_nonneg kA.1 hz0
  have q1:y*z<=2*1000000000:=Int.mul_le_mul (by omega) hz1 hz0 (by decide)
  generalize y*z=st at q0 q1
  have hnew:∀x∈g.2.1.map Prod.fst,x≠g.1+1+st:=λx hx e=>by
   rw[h1] at hx
   have:=(h6 x hx).2
   omega
  rw[Et hnew]
  refine⟨_,rfl,?_,?_,?_,?_,?_,?_,?_⟩
  ·show(g.2.1++[(g.1+1+st,2*y2-1)]).map Prod.fst=g.2.2++[g.1+1+st]
   rw[List.map_append,h1];rfl
  ·show(g.2.2++[g.1+1+st]).length=_
   simp[h2]
  ·show 0<=g.1+1+st
   omega
  ·show g.1+1+st<=_
   omega
  ·show(g.2.2++[g.1+1+st]).Pairwise (· < ·)
   rw[List.pairwise_append]
   refine⟨h5,by simp,λx hx w hw=>?_⟩
   rw[List.mem_singleton] at hw
   have:=(h6 x hx).2
   omega
  ·intro x hx
   show 1<=x/\x<=g.1+1+st
   rcases List.mem_append.mp hx with h |h
   ·have:=h6 x h;omega
   ·rw[List.mem_singleton] at h;omega
  ·intro e he
   rcases List.mem_append.mp he with h |h
   ·exact h7 e h
   ·rw[List.mem_singleton] at h
    subst h
    show 2*y2-1=1∨2*y2-1= -1
    omega
 obtain⟨h1,h2,h3,h4,h5,h6,h7⟩:=hg
 rw[Yp] at h2 h4
 generalize hN:g.2.2=names at*
 generalize hD:g.2.1=d at*
 have hsg:∀x∈names,ZV d x=some ((ZV d x).getD 1)/\((ZV d x).getD 1=1∨(ZV d x).getD 1= -1):=λx hx=>by
  obtain⟨v,e1,e2⟩:=BV (d:=d) (x:=x) (by rw[h1];exact hx)
  rw[e1]
  exact⟨rfl,h7 _ e2⟩
 have hmap:Vl names (λa=>(Ur d a).bind λx=>.ok (a,x))= .ok (names.map λa=>(a,(ZV d a).getD 1)):=Zh (sz (by omega)) λa ha=>by
  unfold Ur
  rw[(hsg a ha).1];rfl
 refine Ok.bind (R:=λws:List (List Int)=>ws.length<=5/\ws.flatten.Perm (names.flatMap λx=>[x,-x])) (Ok.ite (λ_=>?_) λ_=>?_) λws hws=>?_
 ·refine Ok.bind (R:=λws:List (List Int)=>ws.length<=5/\ws.flatten.Perm (names.flatMap λx=>[x,-x])) ?_ λws hws=>⟨_,rfl,hws⟩
  refine Ok.bind (Ok.noE (EM (by omega) (by omega))) λl hl2=>?_
  rw[show(2:Int)+r[4]=((2+r[4].toNat:Nat):Int) by omega]
  have hln:=hl2.length_eq
  refine Ok.noE (Ok.imp (Dk (sg:=λx=>(ZV d x).getD 1) (by omega) (by omega) (λx hx=>(hsg x (hl2.mem_iff.mp hx)).1) (λx hx=>(hsg x (hl2.mem_iff.mp hx)).2) (by omega) (by omega)) λws hw=>⟨by omega,hw.2.trans (Z0 _ hl2)⟩)
 ·refine Ok.bind (R:=λws:List (List Int)=>ws.length<=5/\ws.flatten.Perm (names.flatMap λx=>[x,-x])) ?_ λws hws=>⟨_,rfl,hws⟩
  obtain⟨rings,hrings⟩:∃k:Nat,max r[1] (min (names.length:Int) 1)=(k:Int):=⟨(max r[1] (min (names.length:Int) 1)).toNat,by omega⟩
  rw[hrings]
  refine Ok.noE (Ok.imp (L5 (by omega) (by omega) (λhne=>?_) (by omega)) λws hw=>⟨by omega,hw.2⟩)
  have:0<names.length:=List.length_pos_iff.mpr hne
  omega
 ·rw[hmap]
  simp only[Rs.okb]
  have hfst:(names.map λa=>(a,(ZV d a).getD 1)).map Prod.fst=names:=by rw[List.map_map];exact List.map_id' _
  refine⟨_,rfl,?_,?_,?_,?_,hws.1⟩
  ·show(names.map λa=>(a,(ZV d a).getD 1)).length<=most
   simp;omega
  ·show((names.map λa=>(a,(ZV d a).getD 1)).map Prod.fst).Pairwise _
   rw[hfst];exact h5
  ·intro e he
   obtain⟨x,hx,rfl⟩:=List.mem_map.mp he
   have:=h6 x hx
   refine⟨this.1,?_,(hsg x hx).2⟩
   show x<2^62
   omega
  ·show ws.flatten.Perm (((names.map λa=>(a,(ZV d a).getD 1)).map Prod.fst).flatMap λx=>[x,-x])
   rw[hfst];exact hws.2
theorem UD {r:List Int}{n:Nat}(hn:n<=1000)(hr:n<=r.length):Ok (ZC r (n:Int)) λsp=>∃ p q,KI n sp p q:=by
 unfold ZC
 simp only[Rs.okb]
 rw[XE (by omega)]
 simp only[Rs.okb]
 rw[YA (by omega)]
 simp only[Rs.okb]
 have e0:ZW 0 (n:Int)=(List.range n).map λ(i:Nat)=>(i:Int):=by
  unfold ZW
  rw[Int.sub_zero,Int.toNat_natCast]
  exact List.map_congr_left λi _=>by omega
 refine Ok.bind (Ok.forN (λi (g:List Int×List Int)=>g.1.length=i/\(g.1++g.2).Perm ((List.range n).map λ(i:Nat)=>(i:Int))) ⟨rfl,by rw[e0];exact List.Perm.refl _⟩ λi a g ha hg=>?_) λg hg=>?_
 ·obtain⟨rfl,hi⟩:=Yz ha
  obtain⟨h1,h2⟩:=hg
  have hl:=h2.length_eq
  simp only[List.length_append,List.length_map,List.length_range] at hl
  have hri:r[i]?=some r[i]:=by simp[show i<r.length by omega]
  have hpos:(0:Int)<(g.2.length:Int):=by omega
  have hm1:=Int.emod_nonneg r[i] (show(g.2.length:Int)≠0 by omega)
  have hm2:=Int.emod_lt_of_pos r[i] hpos
  rw[Ym hri,Rs.okb,Yl hpos,Rs.okb]
  generalize hk:r[i] % (g.2.length:Int)=k at hm1 hm2
  obtain⟨j,rfl⟩:∃j:Nat,k=j:=⟨k.toNat,by omega⟩
  have hj:j<g.2.length:=by omega
  rw[CS hj (by omega),Rs.okb,XE (DK (by omega))]
  refine⟨_,rfl,by simp[h1],?_⟩
  refine List.Perm.trans ?_ h2
  show((g.1++[g.2[j]])++g.2.eraseIdx j).Perm (g.1++g.2)
  rw[List.append_assoc]
  exact(JQ hj).append_left _
 ·obtain⟨h1,h2⟩:=hg
  rw[Yp] at h1
  have hl:=h2.length_eq
  simp only[List.length_append,List.length_map,List.length_range] at hl
  have:g.2=[]:=List.length_eq_zero_iff.mp (by omega)
  rw[this,List.append_nil] at h2
  exact⟨_,rfl,EQ h2⟩
theorem K9 {n:Nat}{f:Nat->Nat->Nat}{sp:List Int}{p q:Nat->Nat}(hn:n<=1000)(hf:∀a b,a<n->b<n->f a b<n)(hp:KI n sp p q):Z2 (XW n f) sp= .ok (XW n λx y=>p (f (q x) (q y))):=by
 have P:=hp.1
 unfold Z2
 simp only[Rs.okb]
 rw[Zh (h:=λa=>a) (sz (by rw[XB];omega)) λa _=>rfl,Rs.okb]
 simp only[List.map_id',XB]
 rw[YA (by omega),Rs.okb]
 apply Ok.eq
 refine Ok.bind (Ok.forN (λi g=>g=XW n λx y=>if q x<i then p (f (q x) (q y)) else f x y) (ZU λx y _ _=>by simp) λi a g ha hg=>?_) λg hg=>⟨g,rfl,?_⟩
 ·obtain⟨rfl,hi⟩:=Yz ha
  subst hg
  simp only[Rs.okb]
  refine Ok.bind (Ok.forN (λj g=>g=XW n λx y=>if q x<i∨(q x=i/\q y<j) then p (f (q x) (q y)) else f x y) (ZU λx y _ _=>by simp) λj b g hb hg=>?_) λg hg=>⟨g,rfl,?_⟩
  ·obtain⟨rfl,hj⟩:=Yz hb
   subst hg
   have hv:=hf i j hi hj
   rw[Qi hi,Rs.okb,Q2 hj,Rs.okb,hp.get hv,Rs.okb,hp.get hi,Rs.okb,Qi (P.lt i hi),Rs.okb,hp.get hj,Rs.okb,JN (by rw[XV];exact P.lt j hj),Rs.okb,JN (by rw[XB];exact P.lt i hi),Rs.okb]
   refine⟨_,rfl,?_⟩
   rw[IC (P.lt i hi)]
   refine ZU λx y hx hy=>?_
   by_cases e:x=p i/\y=p j
   ·rw[if_pos e,e.1,e.2,P.qp i hi,P.qp j hj,if_pos (by omega)]
   ·rw[if_neg e]
    have:¬(q x=i/\q y=j):=λ⟨e1,e2⟩=>e ⟨by rw[←e1,P.pq x hx],by rw[←e2,P.pq y hy]⟩
    by_cases c:q x<i∨(q x=i/\q y<j)
    ·rw[if_pos c,if_pos (by omega)]
    ·rw[if_neg c,if_neg (by omega)]
  ·subst hg
   rw[Yp]
   refine ZU λx y hx hy=>?_
   have:=P.qlt y hy
   by_cases c:q x<i+1
   ·rw[if_pos c,if_pos (by omega)]
   ·rw[if_neg c,if_neg (by omega)]
 ·subst hg
  rw[Yp]
  exact ZU λx y hx hy=>by rw[if_pos (P.qlt x hx)]
theorem Vx (a b:Bool):Uw (.ok a) (.ok b)= .ok (a&&b):=BR λ_=>rfl
theorem Dp {way k:Int}{n a b:Nat}(hn:0<n)(h1:n<=1000)(ha:a<n)(hb:b<n):ZS way (n:Int) k (a:Int) (b:Int)= .ok (DH way n k a b):=by
 unfold ZS DH
 simp only[Rs.okb,Vx,Bool.and_eq_true,decide_eq_true_eq,gt_iff_lt,ge_iff_le]
 rw[K4 (by decide) (by decide)]
 simp only[Rs.okb,Vx,Bool.and_eq_true,decide_eq_true_eq]
 rw[Zw (a:=2) (by decide) (by decide),Z9 (a:=k) (by omega) (by omega),Z9 (a:=1-k) (by omega) (by omega)]
 simp only[Rs.okb]
 by_cases c1:way=1
 ·rw[if_pos c1,if_pos c1];exact Yl (by omega)
 rw[if_neg c1,if_neg c1]
 by_cases c2:way=2
 ·rw[if_pos c2,if_pos c2];exact Yl (by omega)
 rw[if_neg c2,if_neg c2]
 by_cases c3:way=3/\2<(n:Int)/\(a:Int)<2/\(b:Int)=(n:Int)-1
 ·rw[if_pos c3,if_pos c3]
 rw[if_neg c3,if_neg c3]
 by_cases c4:way=6/\(a:Int)<(n:Int)-1/\(b:Int)=(n:Int)-1
 ·rw[if_pos c4,if_pos c4];exact Yl (by omega)
 rw[if_neg c4,if_neg c4]
 by_cases c5:way=4/\(a:Int)<(n:Int)/2/\(b:Int)<(n:Int)/2
 ·rw[if_pos c5,if_pos c5];exact Yl (by omega)
 rw[if_neg c5,if_neg c5]
 by_cases c6:way=4/\(n:Int)/2<=(a:Int)/\(n:Int)/2<=(b:Int)
 ·rw[if_pos c6,if_pos c6,Yl (by omega),Rs.okb]
 rw[if_neg c6,if_neg c6]
theorem Ku (x y:Int):QN x y= .ok (Int.gcd x y:Int):=by
 unfold QN
 simp only[Rs.okb]
 apply Ok.eq
 refine Ok.bind (JC (λg:Int×Int=>∃ u v:Nat,g=((u:Int),(v:Int))/\Nat.gcd u v=Int.gcd x y) (λg=>g.2.toNat) (λg hg=>?_) _ ((x.natAbs:Int),(y.natAbs:Int)) ⟨x.natAbs,y.natAbs,rfl,rfl⟩ ?_) λg hg=>?_
 ·obtain⟨u,v,rfl,h⟩:=hg
  refine⟨_,rfl,λc=>?_⟩
  have c':(0:Int)<(v:Int):=of_decide_eq_true c
  show Ok ((Qg (u:Int) (v:Int)).bind _) _
  rw[Yl c',Rs.okb]
  refine⟨_,rfl,⟨v,u % v,by rw[Int.natCast_emod],?_⟩,?_⟩
  ·rw[←h,Nat.gcd_comm u v,Nat.gcd_rec v u,Nat.gcd_comm]
  ·show((u:Int) % (v:Int)).toNat<((v:Int)).toNat
   have:=Int.emod_lt_of_pos (u:Int) c'
   have:=Int.emod_nonneg (u:Int) (show(v:Int)≠0 by omega)
   omega
 ·show((y.natAbs:Int)).toNat<_
  omega
 ·obtain⟨⟨u,v,rfl,h⟩,hc⟩:=hg
  have hc':¬(0:Int)<(v:Int):=by
   have:=Rs.ok.inj hc
   simpa using this
  have:v=0:=by omega
  subst this
  rw[Nat.gcd_zero_right] at h
  exact⟨_,rfl,by show(u:Int)=_;rw[h]⟩
theorem Ir {n:Nat}{t z:Int}(h:t=1+(n:Int)*z):Int.gcd t n=1:=by
 have h1:((Int.gcd t n:Nat):Int)∣t:=Int.gcd_dvd_left ..
 have h2:((Int.gcd t n:Nat):Int)∣(n:Int):=Int.gcd_dvd_right ..
 have h3:((Int.gcd t n:Nat):Int)∣1:=by
  have:(1:Int)=t-(n:Int)*z:=by omega
  rw[this]
  exact Int.dvd_sub h1 (Int.dvd_trans h2 (Int.dvd_mul_right ..))
 have h4:=Int.eq_one_of_dvd_one (by omega) h3
 omega
theorem Iq {way k:Int}{n:Nat}(hn:0<n)(h1:n<=1000):Ok (UP way (n:Int) k) λt=>∃ f,GoodF n f/\t=XW n f:=by
 unfold UP
 simp only[Rs.okb,Vx,Bool.and_eq_true,decide_eq_true_eq]
 by_cases c5:way=5/\(n:Int)=4
 ·rw[if_pos c5]
  have hn:n=4:=by omega
  subst hn
  exact⟨[[0,3,1,2],[2,1,3,0],[3,0,2,1],[1,2,0,3]],rfl,Vg,Cz,Ha.symm⟩
 rw[if_neg c5]
 have ht:=Int.emod_add_mul_ediv (1-k) (n:Int)
 have ht0:=Int.emod_nonneg (1-k) (show(n:Int)≠0 by omega)
 have ht1:=Int.emod_lt_of_pos (1-k) (show(0:Int)<(n:Int) by omega)
 generalize hq:(1-k) % (n:Int)=m at ht ht0 ht1
 have hcop:Int.gcd (k+m) n=1:=Ir (z:=-((1-k)/(n:Int))) (by rw[Int.mul_neg];omega)
 refine Ok.bind (JC (λg:Int=>k<=g/\g<=k+m) (λg=>(k+m-g).toNat) (λg hg=>?_) _ k ⟨Int.le_refl _,by omega⟩ ?_) λg hg=>?_
 ·rw[Ku,XJ,Rs.okb]
  refine⟨_,rfl,λc=>?_⟩
  have hne:g≠k+m:=λe=>by
   rw[e,hcop] at c
   exact absurd c (by decide)
  refine⟨_,rfl,⟨by omega,by omega⟩,?_⟩
  show(k+m-(g+1)).toNat<(k+m-g).toNat
  omega
 ·show(k+m-k).toNat<_
  omega
 ·obtain⟨_,hc⟩:=hg
  rw[Ku,XJ,Rs.okb] at hc
  have hg1:Int.gcd g n=1:=by
   have:=Rs.ok.inj hc
   simp at this
   omega
  obtain⟨gd,hce⟩:=DX (way:=way) (k:=g) (n:=n) hn hg1
  refine⟨XW n (Gd way g n),?_,_,gd,rfl⟩
  rw[YA (by omega),Rs.okb]
  have hrow:∀a:Nat,a<n->Vl ((List.range n).map λ(i:Nat)=>(i:Int)) (λb=>noE (ZS way (n:Int) g (a:Int) b))= .ok (ZF n (Gd way g n) a):=λa ha=>by
   rw[Zh (h:=λx=>((Gd way g n a x.toNat:Nat):Int)) (sz (by simp;omega)) λx hx=>?_]
   ·rw[List.map_map];rfl
   ·obtain⟨b,hb,rfl⟩:=X7 hx
    rw[Dp hn h1 ha hb,XJ,Int.toNat_natCast,hce a b ha hb]
  rw[ZP (h:=λx=>ZF n (Gd way g n) x.toNat) (sz (by simp;omega)) λl hl x hx=>?_]
  ·rw[Rs.okb,List.nil_append,List.map_map];rfl
  ·obtain⟨a,ha,rfl⟩:=X7 hx
   rw[Rs.okb,hrow a ha,Rs.okb,XE hl,Int.toNat_natCast]
theorem Jl (ns:List Int){p:Int}(hp:0<=p){most:Nat}(h0:0<most)(hm:most<=24):Ok (Y1 ns p (most:Int)) λt=>∃ n f,0<n/\n<=most/\GoodF n f/\t=XW n f:=by
 unfold Y1
 simp only[Rs.okb]
 rw[XE (sz (by simp))]
 simp only[Rs.okb]
 rw[XE (sz (by simp))]
 simp only[Rs.okb]
 rw[show U8 [(24:Int)] 24= .ok (List.replicate 24 24) from rfl]
 simp only[Rs.okb]
 rw[show GE [(7:Int),24,6,2,6] (List.replicate 24 24)= .ok ([(7:Int),24,6,2,6]++List.replicate 24 24) from XE (sz (by simp))]
 simp only[Rs.okb]
 refine Ok.bind (Ok.noE (B0 ns hp _ (by simp) λx hx=>?_)) λr hr=>?_
 ·rw[List.mem_append] at hx
  rcases hx with h |h
  ·simp only[List.mem_cons,List.not_mem_nil,or_false] at h
   rcases h with rfl |rfl |rfl |rfl |rfl<;> decide
  ·rw[(List.mem_replicate.mp h).2];decide
 obtain⟨hl,hv⟩:=hr
 have hl':r.length=29:=by rw[hl];simp
 clear hl hv
 rw[Za (r:=r) (k:=0) (n:=0) rfl (by omega),Za (r:=r) (k:=1) (n:=1) rfl (by omega),Za (r:=r) (k:=2) (n:=2) rfl (by omega),Za (r:=r) (k:=3) (n:=3) rfl (by omega),Za (r:=r) (k:=4) (n:=4) rfl (by omega)]
 simp only[Rs.okb,Vx]
 rw[Yl (by omega)]
 simp only[Rs.okb]
 have a0:=Int.emod_nonneg r[1] (show(most:Int)≠0 by omega)
 have a1:=Int.emod_lt_of_pos r[1] (show(0:Int)<(most:Int) by omega)
 refine Ok.bind (R:=λs:Int=>0<s/\s<=(most:Int)) (Ok.ite (λc=>?_) λ_=>?_) λs hs=>?_
 ·have c1:2<(most:Int):=by
   rw[Bool.and_eq_true,decide_eq_true_eq] at c
   exact c.1
  rw[Yl (by omega),Rs.okb]
  have b0:=Int.emod_nonneg r[1] (show(most:Int)-2≠0 by omega)
  have b1:=Int.emod_lt_of_pos r[1] (show(0:Int)<(most:Int)-2 by omega)
  refine⟨_,rfl,?_⟩
  omega
 ·exact⟨_,rfl,by omega⟩
 obtain⟨n,rfl⟩:∃n:Nat,s=(n:Int):=⟨s.toNat,by omega⟩
 refine Ok.bind (Ok.noE (Iq (by omega) (by omega))) λt ht=>?_
 obtain⟨f,gd,rfl⟩:=ht
 refine Ok.ite (λ_=>⟨_,rfl,n,f,by omega,by omega,gd,rfl⟩) λ_=>?_
 rw[show KU r (some 5) none=r.drop 5 from FM r (k:=5) (by omega)]
 refine Ok.bind (Ok.noE (UD (by omega) (by rw[List.length_drop];omega))) λsp hsp=>?_
 obtain⟨q,q',hq⟩:=hsp
 rw[K9 (by omega) gd.lt hq,XJ]
 exact⟨_,rfl,n,_,by omega,by omega,hq.1.good gd,rfl⟩
end My
namespace My
noncomputable def Zc (w:List Int):Nat:=(w.filter λx=>decide (x<0)).length
noncomputable def JJ (w:List Int):Nat:=max (Zc w) 1
noncomputable def QA (w:List Int)(first:Int):List Int:=(List.range (max w.length 1)).map λk=>first+(Zc (w.take k):Int) % (JJ w:Int)
noncomputable def Y2:List (List Int)->Int->List (List Int)
 | [],_=>[]
 |w::ws,f=>QA w f::Y2 ws (f+JJ w)
noncomputable def X8 (ws:List (List Int)):Int:=(ws.map λw=>(JJ w:Int)).sum
noncomputable def Vf (ws:List (List Int)):Nat:=(ws.filter λw=>decide (Zc w=0)).length
theorem Jm (a b:List Int):Zc (a++b)=Zc a+Zc b:=by unfold Zc;rw[List.filter_append,List.length_append]
theorem Vs {x:Int}(h:x<0):Zc [x]=1:=by simp[Zc,h]
theorem Vk {x:Int}(h:¬x<0):Zc [x]=0:=by simp[Zc,h]
theorem Zz {w:List Int}{i:Nat}{x:Int}(h:w[i]?=some x):Zc (w.take (i+1))=Zc (w.take i)+Zc [x]:=by
 rw[List.take_add_one,h,Jm];rfl
theorem Vd (w:List Int)(i j:Nat)(h:i<=j):Zc (w.take i)<=Zc (w.take j):=by
 have e:w.take j=w.take i++(w.take j).drop i:=by
  conv=>lhs;rw[←List.take_append_drop i (w.take j)]
  rw[List.take_take,Nat.min_eq_left h]
 rw[e,Jm];omega
theorem HB (w:List Int)(i:Nat):Zc (w.take i)<=Zc w:=by
 by_cases h:i<=w.length
 ·have:=Vd w i w.length h
  rw[List.take_length] at this;exact this
 ·rw[List.take_of_length_le (by omega)];exact Nat.le_refl _
theorem F3 (w:List Int):0<JJ w:=by unfold JJ;omega
theorem JA (w:List Int)(f:Int):(QA w f).length=max w.length 1:=by simp[QA]
theorem Dj (w:List Int)(f:Int){k:Nat}(h:k<max w.length 1):(QA w f)[k]?=some (f+(Zc (w.take k):Int) % (JJ w:Int)):=by
 unfold QA
 rw[List.getElem?_map,List.getElem?_range h];rfl
theorem Y5:∀(ws:List (List Int)) (f:Int),(Y2 ws f).length=ws.length
 | [],_=>rfl
 |_::ws,f=>by show(Y2 ws _).length+1=_;rw[Y5 ws];rfl
theorem Je (w:List Int)(ws:List (List Int)):X8 (w::ws)=JJ w+X8 ws:=by simp[X8]
theorem UH (a b:List (List Int)):X8 (a++b)=X8 a+X8 b:=by simp[X8,List.sum_append]
theorem Dl (w:List Int):X8 [w]=JJ w:=by simp[X8]
theorem JP:∀(a b:List (List Int)) (f:Int),Y2 (a++b) f=Y2 a f++Y2 b (f+X8 a)
 | [],b,f=>by simp[Y2,X8]
 |w::a,b,f=>by
  show QA w f::Y2 (a++b) (f+JJ w)=QA w f::(Y2 a (f+JJ w)++Y2 b (f+X8 (w::a)))
  rw[JP a b,Je,Int.add_assoc]
theorem Q8 {ws:List (List Int)}{i:Nat}{w:List Int}(h:ws[i]?=some w)(f:Int):Y2 (ws.take (i+1)) f=Y2 (ws.take i) f++[QA w (f+X8 (ws.take i))]:=by
 rw[List.take_add_one,h,JP];rfl
theorem Jf {ws:List (List Int)}{i:Nat}{w:List Int}(h:ws[i]?=some w):X8 (ws.take (i+1))=X8 (ws.take i)+JJ w:=by
 rw[List.take_add_one,h,UH]
 show _+X8 [w]=_
 rw[Dl]
theorem UC {ws:List (List Int)}{i:Nat}{w:List Int}(h:ws[i]?=some w)(f:Int):(Y2 ws f)[i]?=some (QA w (f+X8 (ws.take i))):=by
 have hl:i<ws.length:=(List.getElem?_eq_some_iff.mp h).1
 have e:ws=ws.take (i+1)++ws.drop (i+1):=(List.take_append_drop _ _).symm
 rw[e,JP,Q8 h,List.getElem?_append_left (by rw[List.length_append,Y5,List.length_take];simp;omega),
  List.getElem?_append_right (by rw[Y5,List.length_take];omega),Y5,List.length_take,Nat.min_eq_left (by omega),Nat.sub_self,List.take_append_of_le_length (by rw[List.length_take];omega),List.take_take,Nat.min_eq_left (by omega)]
 rfl
theorem J8:∀ws:List (List Int),X8 ws=(Zc ws.flatten:Int)+(Vf ws:Int)
 | []=>rfl
 |w::ws=>by
  rw[Je,J8 ws,List.flatten_cons,Jm]
  unfold Vf
  rw[List.filter_cons]
  by_cases h:Zc w=0
  ·simp[h,JJ];omega
  ·simp[h,JJ];omega
theorem Db {ws:List (List Int)}{i:Nat}{w:List Int}(h:ws[i]?=some w):Vf (ws.take (i+1))=Vf (ws.take i)+(if Zc w=0 then 1 else 0):=by
 unfold Vf
 rw[List.take_add_one,h,List.filter_append,List.length_append]
 by_cases e:Zc w=0<;> simp[e]
theorem Cu {a b:List Int}(h:a.Perm b):Zc a=Zc b:=(h.filter _).length_eq
theorem BI:∀{xs:List Int},(∀x∈xs,1<=x)->Zc (xs.flatMap λx=>[x,-x])=xs.length
 | [],_=>rfl
 |x::xs,h=>by
  have hx:=h x List.mem_cons_self
  rw[List.flatMap_cons,Jm,BI λy hy=>h y (List.mem_cons_of_mem _ hy)]
  have e:Zc [x,-x]=1:=by
   show Zc ([x]++[-x])=1
   rw[Jm,Vk (by omega),Vs (by omega)]
  rw[e,List.length_cons];omega
structure LastIs (w:List Int)(i:Nat)(last:Int):Prop where
 lo: -1<=last
 hi:last<(i:Int)
 none:∀j:Nat,last<(j:Int)->j<i->∀x,w[j]?=some x->¬x<0
 at':0<=last->∃x,w[last.toNat]?=some x/\x<0
theorem LastIs.zero (w:List Int):LastIs w 0 (-1):=⟨by omega,by omega,λj _ h=>by omega,λh=>by omega⟩
theorem LastIs.neg {w:List Int}{i:Nat}{x:Int}(e:w[i]?=some x)(hx:x<0):LastIs w (i+1) (i:Int):=
 ⟨by omega,by omega,λj h1 h2=>by omega,λ_=>⟨x,by simpa using e,hx⟩⟩
theorem LastIs.pos {w:List Int}{i:Nat}{x last:Int}(h:LastIs w i last)(e:w[i]?=some x)(hx:¬x<0):LastIs w (i+1) last:=by
 have:=h.hi
 refine⟨h.lo,by omega,λj h1 h2 y hy=>?_,h.at'⟩
 by_cases hj:j=i
 ·subst hj;rw[e] at hy;cases hy;exact hx
 ·exact h.none j h1 (by omega) y hy
theorem Q6 {w:List Int}{last:Int}(h:LastIs w w.length last):∀j:Nat,last<(j:Int)->Zc (w.take j)=Zc w:=by
 intro j hj
 have key:∀d:Nat,Zc (w.take (j+d))=Zc (w.take j):=λd=>by
  induction d with
  |zero=>rfl
  |succ d ih=>
   cases e:w[j+d]? with
   |none=>
    have:=List.getElem?_eq_none_iff.mp e
    rw[←ih,List.take_of_length_le (by omega),List.take_of_length_le (by omega)]
   |some x=>
    have hl:=(List.getElem?_eq_some_iff.mp e).1
    show Zc (w.take ((j+d)+1))=_
    rw[Zz e,ih,Vk (h.none (j+d) (by omega) hl x e)];rfl
 by_cases hl:j<=w.length
 ·rw[←key (w.length-j),show j+(w.length-j)=w.length by omega,List.take_length]
 ·rw[List.take_of_length_le (by omega)]
theorem K3 {w:List Int}{last:Int}(h:LastIs w w.length last)(h0:0<=last):Zc (w.take last.toNat)+1=Zc w:=by
 obtain⟨x,e,hx⟩:=h.at' h0
 have:=Zz e
 rw[Vs hx] at this
 rw[←this,Q6 h (last.toNat+1) (by omega)]
theorem Bc {w:List Int}{last:Int}(h:LastIs w w.length last)(h0:¬0<=last):Zc w=0:=by
 have:=h.lo
 rw[←Q6 h 0 (by omega)];simp[Zc]
theorem CM {w:List Int}{last f:Int}(h:LastIs w w.length last){j:Nat}(hj:(j:Int)<=last):f+(Zc (w.take j):Int) % (JJ w:Int)=f+(Zc (w.take j):Int):=by
 have h0:0<=last:=by omega
 have h1:=K3 h h0
 have h2:=Vd w j last.toNat (by omega)
 rw[Int.emod_eq_of_lt (by omega) (by unfold JJ;omega)]
theorem EF {w:List Int}{last f:Int}(h:LastIs w w.length last){j:Nat}(hj:last<(j:Int)):f+(Zc (w.take j):Int) % (JJ w:Int)=f:=by
 rw[Q6 h j hj]
 by_cases e:Zc w=0
 ·rw[e];simp
 ·have:(JJ w:Int)=(Zc w:Int):=by unfold JJ;omega
  rw[this,Int.emod_self];omega
theorem DR {w:List Int}{last:Int}(h:LastIs w w.length last):(Zc (w.take last.toNat):Int)+1=(JJ w:Int):=by
 by_cases h0:0<=last
 ·have:=K3 h h0
  unfold JJ;omega
 ·have e:=Bc h h0
  have:=HB w last.toNat
  unfold JJ;omega
end My
namespace My
structure Spot (ws:List (List Int))(x:Int)(i j:Nat)(w:List Int):Prop where
 wi:ws[i]?=some w
 xj:w[j]?=some x
 first:∀m:Nat,m<j->w[m]?≠some x
 none:∀(i':Nat) (w':List Int),i'<i->ws[i']?=some w'->x∉w'
theorem Spot.uniq {ws:List (List Int)}{x:Int}{i j i' j':Nat}{w w':List Int}(h:Spot ws x i j w)(h':Spot ws x i' j' w'):i=i'/\j=j'/\w=w':=by
 have hi:i=i':=by
  rcases Nat.lt_trichotomy i i' with c |c |c
  ·exact absurd (List.mem_of_getElem? h.xj) (h'.none i w c h.wi)
  ·exact c
  ·exact absurd (List.mem_of_getElem? h'.xj) (h.none i' w' c h'.wi)
 subst hi
 have hw:w=w':=Option.some.inj (h.wi.symm.trans h'.wi)
 subst hw
 refine⟨rfl,?_,rfl⟩
 rcases Nat.lt_trichotomy j j' with c |c |c
 ·exact absurd h.xj (h'.first j c)
 ·exact c
 ·exact absurd h'.xj (h.first j' c)
theorem Spot.row {ws:List (List Int)}{x:Int}{i j:Nat}{w:List Int}(h:Spot ws x i j w):∃r,(Y2 ws 0)[i]?=some r/\r.length=w.length/\j<w.length:=by
 have hj:=(List.getElem?_eq_some_iff.mp h.xj).1
 exact⟨_,UC h.wi 0,by rw[JA];omega,hj⟩
noncomputable def DW (ws:List (List Int))(e:Int×Int)(v:List Int):Prop:=∃ (i j k l:Nat) (w w' r r':List Int) (o a b:Int),Spot ws e.1 i j w/\Spot ws (-e.1) k l w'/\(Y2 ws 0)[i]?=some r/\r[j]?=some o/\(Y2 ws 0)[k]?=some r'/\r'[l]?=some a/\r'[(l+1) % w'.length]?=some b/\v=[e.1,e.2,o,a,b]
theorem DW.uniq {ws:List (List Int)}{e:Int×Int}{v v':List Int}(h:DW ws e v)(h':DW ws e v'):v=v':=by
 obtain⟨i,j,k,l,w,w',r,r',o,a,b,s1,s2,h1,h2,h3,h4,h5,rfl⟩:=h
 obtain⟨i2,j2,k2,l2,x,x',q,q',o2,a2,b2,t1,t2,g1,g2,g3,g4,g5,rfl⟩:=h'
 obtain⟨rfl,rfl,rfl⟩:=s1.uniq t1
 obtain⟨rfl,rfl,rfl⟩:=s2.uniq t2
 rw[h1] at g1;cases g1
 rw[h3] at g3;cases g3
 rw[h2] at g2;cases g2
 rw[h4] at g4;cases g4
 rw[h5] at g5;cases g5
 rfl
theorem FU:∀{w:List Int}{x:Int},x∈w->∃j:Nat,w[j]?=some x/\∀m:Nat,m<j->w[m]?≠some x
 | [],x,h=>by simp at h
 |y::t,x,h=>by
  by_cases e:y=x
  ·subst e
   exact⟨0,rfl,λm hm=>by omega⟩
  ·rcases List.mem_cons.mp h with z |z
   ·exact absurd z.symm e
   ·obtain⟨j,h1,h2⟩:=FU z
    refine⟨j+1,by simpa using h1,λm hm=>?_⟩
    cases m with
    |zero=>simpa using e
    |succ m=>simpa using h2 m (by omega)
end My
namespace My
open PySem L2
section
variable {α β γ ρ:Type}
theorem Ui {f:γ->α->Rs (Ctl ρ γ)}{g:γ}{v:ρ}:∀{as:List α}{i:Nat}{a:α},as[i]?=some a->(∀(k:Nat) b,k<i->as[k]?=some b->f g b= .ok (.nx g))->f g a= .ok (.ret v)->forC as g f= .ok (.ret v)
 | [],i,a,h,_,_=>by simp at h
 |b::as,0,a,h,_,hf=>by
  have:b=a:=by simpa using h
  subst this
  show(f g b).bind _=_
  rw[hf,Rs.okb]
 |b::as,i+1,a,h,hb,hf=>by
  show(f g b).bind _=_
  rw[hb 0 b (by omega) rfl,Rs.okb]
  exact Ui (i:=i) (by simpa using h) (λk c hk hc=>hb (k+1) c (by omega) (by simpa using hc)) hf
theorem ET {as:List α}{i:Nat}{a:α}(h:as[i]?=some a):(KK as)[i]?=some ((i:Int),a):=by
 have hi:=(List.getElem?_eq_some_iff.mp h).1
 unfold KK
 rw[List.getElem?_zip_eq_some]
 exact⟨by rw[List.getElem?_map,List.getElem?_range hi];rfl,h⟩
theorem KM {w:List Int}{x:Int}{j:Nat}(h:w[j]?=some x)(hf:∀m:Nat,m<j->w[m]?≠some x):Eo w x= .ok (j:Int):=by
 obtain⟨hj,e⟩:=List.getElem?_eq_some_iff.mp h
 have:w.findIdx? (λb=>decide (b=x))=some j:=by
  rw[List.findIdx?_eq_some_iff_getElem]
  refine⟨hj,by simp[e],λm hm=>?_⟩
  have hml:m<w.length:=by omega
  have:=hf m hm
  rw[List.getElem?_eq_getElem hml] at this
  simpa using this
 unfold Eo
 rw[this]
theorem B7 {N k:Nat}{F G:Nat->α}{v:α}(hk:k<N)(hv:G k=v)(h:∀j,j<N->j≠k->F j=G j):((List.range N).map F).set k v=(List.range N).map G:=by
 refine List.ext_getElem (by simp) λj h1 h2=>?_
 have hj:j<N:=by simpa using h1
 rw[List.getElem_set]
 by_cases e:k=j
 ·subst e;rw[if_pos rfl];simp[hv]
 ·rw[if_neg e];simp[h j hj (λz=>e z.symm)]
theorem EW (w:List α):KU w none (some (-1))=w.take (w.length-1):=by
 unfold KU
 rw[HT.sIx_none]
 have:HT.sIx w.length w.length (some (-1))=w.length-1:=by
  unfold HT.sIx
  simp
  omega
 rw[this];simp
end
theorem ZT {w:List Int}(hl:w.length<=1000):XX w= .ok (JJ w:Int):=by
 unfold XX
 simp only[Rs.okb]
 rw[Gw (p:=λx=>decide (x<0)) (h:=λx=>x) (sz (by omega)) (λ_ _=>rfl) λ_ _ _=>rfl,Rs.okb,List.map_id']
 congr 1
 show max ((Zc w:Nat):Int) 1=((max (Zc w) 1:Nat):Int)
 omega
theorem VY {w:List Int}{f:Int}(hl:w.length<=1000):YR w f= .ok (QA w f):=by
 unfold YR
 simp only[Rs.okb]
 rw[ZT hl,XJ]
 simp only[Rs.okb]
 rw[XE (sz (by simp)),EW]
 simp only[Rs.okb]
 apply Ok.eq
 refine Ok.bind (Ok.forN (λi (g:Int×List Int)=>g=((Zc (w.take i):Int),(List.range (i+1)).map λk=>f+(Zc (w.take k):Int) % (JJ w:Int))) ?_ λi a g ha hg=>?_) λg hg=>?_
 ·simp[Zc]
 ·have hi:=(List.getElem?_eq_some_iff.mp ha).1
  rw[List.length_take] at hi
  have ha':w[i]?=some a:=by
   rw[List.getElem?_take_of_lt (by omega)] at ha
   exact ha
  subst hg
  have hn:=Zz ha'
  have hp:=F3 w
  have hlen:((List.range (i+1)).map λk=>f+(Zc (w.take k):Int) % (JJ w:Int)).length<sizeLine:=DK (by simp;omega)
  refine Ok.bind (R:=λu=>u=(Zc (w.take (i+1)):Int)) (Ok.ite (λc=>⟨_,rfl,?_⟩) λc=>⟨_,rfl,?_⟩) λu hu=>?_
  ·rw[hn,Vs (of_decide_eq_true c)]
   show(Zc (w.take i):Int)+1=_
   omega
  ·rw[hn,Vk (of_decide_eq_false c)]
   show(Zc (w.take i):Int)=_
   omega
  ·subst hu
   rw[Yl (by omega),Rs.okb,Rs.okb,XE hlen]
   refine⟨_,rfl,?_⟩
   rw[List.range_succ (n:=i+1),List.map_append];rfl
 ·subst hg
  refine⟨_,rfl,?_⟩
  rw[List.length_take,show min (w.length-1) w.length+1=max w.length 1 by omega]
  rfl
theorem HX {D:List (List Int)×List (Int×Int)}(hd:D.1.length<=1000)(hw:∀w∈D.1,w.length<=1000):UK D= .ok (Y2 D.1 0):=by
 unfold UK
 simp only[Rs.okb]
 apply Ok.eq
 refine Ok.bind (Ok.forN (λi (g:Int×List (List Int))=>g=(X8 (D.1.take i),Y2 (D.1.take i) 0)) rfl λi a g ha hg=>?_) λg hg=>?_
 ·have hi:=(List.getElem?_eq_some_iff.mp ha).1
  subst hg
  have hal:=hw a (List.mem_of_getElem? ha)
  rw[VY hal,XJ,Rs.okb,ZT hal,XJ]
  rw[XE (DK (by rw[Y5,List.length_take];omega))]
  simp only[Rs.okb]
  refine⟨_,rfl,?_⟩
  rw[Q8 ha,Jf ha,Int.zero_add]
 ·subst hg
  rw[List.take_length]
  exact⟨_,rfl,rfl⟩
theorem KF {D:List (List Int)×List (Int×Int)}(hd:D.1.length<=1000)(hw:∀w∈D.1,w.length<=1000):Zs D= .ok (X8 D.1):=by
 unfold Zs
 simp only[Rs.okb]
 rw[Zh (h:=λw=>(JJ w:Int)) (sz (by omega)) λw h=>by rw[ZT (hw w h),XJ],Rs.okb]
 rfl
theorem DQ {D:List (List Int)×List (Int×Int)}{x:Int}{i j:Nat}{w:List Int}(h:Spot D.1 x i j w):VI D x= .ok ((i:Int),(j:Int)):=by
 unfold VI
 simp only[Rs.okb]
 rw[Ui (v:=((i:Int),(j:Int))) (ET h.wi) (λk b hk hb=>?_) ?_]
 ·rw[Rs.okb,Qf]
 ·rw[if_pos (decide_eq_true (List.mem_of_getElem? h.xj)),KM h.xj h.first]
  simp only[Rs.okb]
 ·obtain⟨_,h2⟩:=KJ hb
  rw[if_neg]
  rw[decide_eq_true_eq]
  exact h.none k b.2 hk h2
theorem K1 {ws:List (List Int)}{x:Int}{i j:Nat}{w:List Int}(hl:ws.length<=1000)(h:Spot ws x i j w):Qt ws x= .ok ((i:Int),(j:Int)):=by
 have hi:=(List.getElem?_eq_some_iff.mp h.wi).1
 unfold Qt
 simp only[Rs.okb]
 rw[YA (by omega),Rs.okb]
 rw[Ui (v:=((i:Int),(j:Int))) (i:=i) (a:=(i:Int)) (by rw[List.getElem?_map,List.getElem?_range hi];rfl) (λk b hk hb=>?_) ?_]
 ·rw[Rs.okb,Qf]
 ·rw[Ym h.wi]
  simp only[Rs.okb]
  rw[if_pos (decide_eq_true (List.mem_of_getElem? h.xj)),KM h.xj h.first]
  simp only[Rs.okb]
 ·obtain⟨rfl,hkl⟩:=Yz hb
  have hks:ws[k]?=some ws[k]:=by simp[hkl]
  rw[Ym hks]
  simp only[Rs.okb]
  rw[if_neg]
  rw[decide_eq_true_eq]
  exact h.none k _ hk hks
theorem Fc {D:List (List Int)×List (Int×Int)}(hw:∀w∈D.1,w.length<=1000):Qw D= .ok ((D.2.length:Int)+(Vf D.1:Int)):=by
 unfold Qw
 simp only[Rs.okb]
 apply Ok.eq
 refine Ok.bind (Ok.forN (λi (g:Int)=>g=(D.2.length:Int)+(Vf (D.1.take i):Int)) (by simp[Vf]) λi a g ha hg=>?_) λg hg=>?_
 ·have hal:=hw a (List.mem_of_getElem? ha)
  rw[Gw (p:=λx=>decide (x<0)) (h:=λx=>x) (sz (by omega)) (λ_ _=>rfl) λ_ _ _=>rfl,List.map_id']
  simp only[Rs.okb]
  have hz:=Db ha
  have hnn:((a.filter λx=>decide (x<0)).length:Int)=(Zc a:Int):=rfl
  rw[hnn]
  by_cases c:Zc a=0
  ·rw[if_pos c] at hz
   rw[if_pos (decide_eq_true (by omega))]
   simp only[Rs.okb]
   exact⟨_,rfl,by omega⟩
  ·rw[if_neg c] at hz
   rw[if_neg (by rw[decide_eq_true_eq];omega)]
   simp only[Rs.okb]
   exact⟨_,rfl,by omega⟩
 ·subst hg
  rw[List.take_length]
  exact⟨_,rfl,rfl⟩
theorem NC (f:Int)(n:Nat):(List.replicate n [f]).flatten=(List.range n).map λ_=>f:=by
 induction n with
 |zero=>rfl
 |succ n ih=>rw[List.replicate_succ,List.flatten_cons,ih,List.range_succ_eq_map,List.map_cons,List.map_map];rfl
theorem BQ {ws:List (List Int)}(hd:ws.length<=1000)(hw:∀w∈ws,w.length<=1000):QS ws= .ok (Y2 ws 0):=by
 unfold QS
 simp only[Rs.okb]
 apply Ok.eq
 refine Ok.bind (Ok.forN (λi (g:Int×List (List Int))=>g=(X8 (ws.take i),Y2 (ws.take i) 0)) rfl λi w g ha hg=>?_) λg hg=>?_
 ·have hi:=(List.getElem?_eq_some_iff.mp ha).1
  subst hg
  have hal:=hw w (List.mem_of_getElem? ha)
  generalize hf:X8 (ws.take i)=f
  rw[YA (by omega),Rs.okb]
  refine Ok.bind (Ok.forN (λk (l:Int)=>LastIs w k l) (LastIs.zero w) λk b l hb hl=>?_) λlast hlast=>?_
  ·obtain⟨rfl,hk⟩:=Yz hb
   have hks:w[k]?=some w[k]:=by simp[hk]
   rw[Ym hks]
   simp only[Rs.okb]
   by_cases c:w[k]<0
   ·rw[if_pos (decide_eq_true c),Rs.okb]
    exact⟨_,rfl,LastIs.neg hks c⟩
   ·rw[if_neg (by rw[decide_eq_true_eq];exact c),Rs.okb]
    exact⟨_,rfl,hl.pos hks c⟩
  rw[Yp] at hlast
  rw[XE (sz (by simp))]
  simp only[Rs.okb]
  rw[show max (w.length:Int) 1=((max w.length 1:Nat):Int) by omega]
  rw[show U8 [f] ((max w.length 1:Nat):Int)= .ok ((List.range (max w.length 1)).map λ_=>f) from by
   unfold U8
   rw[XE ⟨by omega,by omega,sz (by simp;omega)⟩,Int.toNat_natCast,NC]]
  simp only[Rs.okb]
  have hlb: -1<=last/\last<(w.length:Int):=⟨hlast.lo,hlast.hi⟩
  rw[show last+1=(((last+1).toNat:Nat):Int) by omega,YA (by omega),Rs.okb]
  refine Ok.bind (Ok.forN (λk (h:List Int×Int×Int)=>h.1=((List.range (max w.length 1)).map λj=>if j<k then f+(Zc (w.take j):Int) else f)/\h.2.1=f+(Zc (w.take (min k last.toNat)):Int)/\h.2.2=f+(Zc (w.take (min k last.toNat)):Int)) ⟨by simp,by simp[Zc],by simp[Zc]⟩ λk b h hb hh=>?_) λh hh=>?_
  ·obtain⟨rfl,hk⟩:=Yz hb
   obtain⟨h1,h2,h3⟩:=hh
   have hkl:k<w.length:=by omega
   have hks:w[k]?=some w[k]:=by simp[hkl]
   rw[Nat.min_eq_left (by omega)] at h2 h3
   rw[h1,JN (by simp;omega),Rs.okb,Ym hks]
   simp only[Rs.okb,Vx]
   have hset:(((List.range (max w.length 1)).map λj=>if j<k then f+(Zc (w.take j):Int) else f).set k h.2.2)=(List.range (max w.length 1)).map λj=>if j<k+1 then f+(Zc (w.take j):Int) else f:=B7 (by omega) (by rw[if_pos (by omega),h3]) λj hj hne=>by
    by_cases c:j<k
    ·rw[if_pos c,if_pos (by omega)]
    ·rw[if_neg c,if_neg (by omega)]
   rw[hset]
   have hn:=Zz hks
   by_cases c:w[k]<0/\(k:Int)<last
   ·rw[if_pos (by rw[Bool.and_eq_true,decide_eq_true_eq,decide_eq_true_eq];exact c),Rs.okb]
    rw[Vs c.1] at hn
    refine⟨_,rfl,rfl,?_,?_⟩
    ·show h.2.1+1=_
     rw[Nat.min_eq_left (by omega),hn,h2];omega
    ·show h.2.1+1=_
     rw[Nat.min_eq_left (by omega),hn,h2];omega
   ·rw[if_neg (by rw[Bool.and_eq_true,decide_eq_true_eq,decide_eq_true_eq];exact c),Rs.okb]
    have hst:Zc (w.take (min (k+1) last.toNat))=Zc (w.take k):=by
     by_cases c2:(k:Int)<last
     ·have c3:¬w[k]<0:=λz=>c ⟨z,c2⟩
      rw[Vk c3] at hn
      rw[Nat.min_eq_left (by omega),hn,Nat.add_zero]
     ·rw[Nat.min_eq_right (by omega),show last.toNat=k by omega]
    refine⟨_,rfl,rfl,?_,?_⟩
    ·show h.2.1=_
     rw[hst,h2]
    ·show h.2.2=_
     rw[hst,h3]
  ·rw[Yp] at hh
   obtain⟨h1,h2,_⟩:=hh
   rw[XE (DK (by rw[Y5,List.length_take];omega))]
   have hce:=DR hlast
   rw[Nat.min_eq_right (by omega)] at h2
   refine⟨_,rfl,?_⟩
   rw[Q8 ha,Jf ha,Int.zero_add,hf,h1,h2]
   have e1:f+(Zc (w.take last.toNat):Int)+1=f+(JJ w:Int):=by omega
   have e2:((List.range (max w.length 1)).map λj=>if j<(last+1).toNat then f+(Zc (w.take j):Int) else f)=QA w f:=by
    unfold QA
    refine List.map_congr_left λj _=>?_
    by_cases c:j<(last+1).toNat
    ·rw[if_pos c,CM hlast (by omega)]
    ·rw[if_neg c,EF hlast (by omega)]
   rw[e1,e2]
 ·subst hg
  rw[List.take_length]
  exact⟨_,rfl,rfl⟩
theorem Gr:∀{ws:List (List Int)}{x:Int},x∈ws.flatten->∃i j w,Spot ws x i j w
 | [],x,h=>by simp at h
 |w::ws,x,h=>by
  by_cases c:x∈w
  ·obtain⟨j,h1,h2⟩:=FU c
   exact⟨0,j,w,rfl,h1,h2,λi' w' hi _=>by omega⟩
  ·have hx:x∈ws.flatten:=by
    rw[List.flatten_cons,List.mem_append] at h
    exact h.resolve_left c
   obtain⟨i,j,v,s⟩:=Gr hx
   refine⟨i+1,j,v,by simpa using s.wi,s.xj,s.first,λi' w' hi hw=>?_⟩
   cases i' with
   |zero=>
    have:w=w':=by simpa using hw
    exact this▸c
   |succ i'=>exact s.none i' w' (by omega) (by simpa using hw)
theorem V2 (ws:List (List Int)):0<=X8 ws:=by
 induction ws with
 |nil=>exact Int.le_refl _
 |cons w ws ih=>rw[Je];omega
theorem CK {ws:List (List Int)}{i j:Nat}{w r:List Int}{o:Int}(hw:ws[i]?=some w)(hr:(Y2 ws 0)[i]?=some r)(ho:r[j]?=some o):0<=o/\o<X8 ws:=by
 rw[UC hw] at hr
 cases hr
 have hj:=(List.getElem?_eq_some_iff.mp ho).1
 rw[JA] at hj
 rw[Dj w _ hj] at ho
 have ho':=Option.some.inj ho
 have hp:=F3 w
 have m0:=Int.emod_nonneg (Zc (w.take j):Int) (show(JJ w:Int)≠0 by omega)
 have m1:=Int.emod_lt_of_pos (Zc (w.take j):Int) (show(0:Int)<(JJ w:Int) by omega)
 have t0:=V2 (ws.take i)
 have t1:X8 ws=X8 (ws.take (i+1))+X8 (ws.drop (i+1)):=by rw[←UH,List.take_append_drop]
 have t2:=V2 (ws.drop (i+1))
 rw[Jf hw] at t1
 omega
structure DG (D:List (List Int)×List (Int×Int)):Prop where
 few:D.1.length<=1000
 short:∀w∈D.1,w.length<=1000
 le:D.2.length<=1000
 mem:∀e∈D.2,e.1∈D.1.flatten/\ -e.1∈D.1.flatten
 sg:∀e∈D.2,e.2=1∨e.2= -1
 count:X8 D.1=(D.2.length:Int)+(Vf D.1:Int)
noncomputable def MG (N:Int)(m:Int×Int×Int×Int×Int):Prop:=(m.2.1=1∨m.2.1= -1)/\(0<=m.2.2.1/\m.2.2.1<N)/\(0<=m.2.2.2.1/\m.2.2.2.1<N)/\(0<=m.2.2.2.2/\m.2.2.2.2<N)
theorem Dv {D:List (List Int)×List (Int×Int)}(h:DG D):∃ms,QH D= .ok ms/\Qb D= .ok ms/\ms.length=D.2.length/\∀m∈ms,MG (X8 D.1) m:=by
 have key:∀e:Int×Int,∃v:Int×Int×Int×Int×Int,e∈D.2->∃(i j k l:Nat) (w w' r r':List Int),Spot D.1 e.1 i j w/\Spot D.1 (-e.1) k l w'/\(Y2 D.1 0)[i]?=some r/\r[j]?=some v.2.2.1/\(Y2 D.1 0)[k]?=some r'/\r'.length=w'.length/\0<w'.length/\r'[l]?=some v.2.2.2.1/\r'[(l+1) % w'.length]?=some v.2.2.2.2/\v.1=e.1/\v.2.1=e.2:=λe=>by
  by_cases he:e∈D.2
  ·obtain⟨i,j,w,s1⟩:=Gr (h.mem e he).1
   obtain⟨k,l,w',s2⟩:=Gr (h.mem e he).2
   obtain⟨r,hr,hrl,hj⟩:=s1.row
   obtain⟨r',hr',hrl',hl⟩:=s2.row
   have hm:(l+1) % w'.length<r'.length:=by rw[hrl'];exact Nat.mod_lt _ (by omega)
   exact⟨(e.1,e.2,r[j],r'[l],r'[(l+1) % w'.length]),λ_=>⟨i,j,k,l,w,w',r,r',s1,s2,hr,by simp,hr',hrl',by omega,by simp,by simp,rfl,rfl⟩⟩
  ·exact⟨(0,0,0,0,0),λz=>absurd z he⟩
 obtain⟨v,hv⟩:=Classical.axiomOfChoice key
 refine⟨D.2.map v,?_,?_,by simp,λm hm=>?_⟩
 ·unfold QH
  simp only[Rs.okb]
  rw[HX h.few h.short,XJ]
  simp only[Rs.okb]
  rw[ZP (h:=v) (sz (by have:=h.le;simp;omega)) λg hg e he=>?_]
  ·rw[Rs.okb,List.nil_append]
  ·obtain⟨i,j,k,l,w,w',r,r',s1,s2,h1,h2,h3,h4,h5,h6,h7,h8,h9⟩:=hv e he
   have hm:((l:Int)+1) % (r'.length:Int)=(((l+1) % w'.length:Nat):Int):=by rw[h4,Int.natCast_emod];rfl
   rw[DQ s1,DQ s2,XJ,XJ]
   simp only[Rs.okb]
   rw[Ym h1,Ym h3]
   simp only[Rs.okb]
   rw[Ym h2,Ym h6]
   simp only[Rs.okb]
   rw[Yl (by omega),hm]
   simp only[Rs.okb]
   rw[Ym h7]
   simp only[Rs.okb]
   rw[XE hg]
   congr 2
   rw[←h8, ←h9]
 ·unfold Qb
  simp only[Rs.okb]
  rw[BQ h.few h.short,XJ]
  simp only[Rs.okb]
  rw[ZP (h:=v) (sz (by have:=h.le;simp;omega)) λg hg e he=>?_]
  ·rw[Rs.okb,List.nil_append]
  ·obtain⟨i,j,k,l,w,w',r,r',s1,s2,h1,h2,h3,h4,h5,h6,h7,h8,h9⟩:=hv e he
   have hm:((l:Int)+1) % (w'.length:Int)=(((l+1) % w'.length:Nat):Int):=by rw[Int.natCast_emod];rfl
   rw[K1 h.few s1,K1 h.few s2,XJ,XJ]
   simp only[Rs.okb]
   rw[Ym s2.wi]
   simp only[Rs.okb]
   rw[Yl (by omega),hm]
   simp only[Rs.okb]
   rw[Ym h1,Ym h3]
   simp only[Rs.okb]
   rw[Ym h2,Ym h6]
   simp only[Rs.okb]
   rw[Ym h7]
   simp only[Rs.okb]
   rw[XE hg]
   congr 2
   rw[←h8, ←h9]
 ·obtain⟨e,he,rfl⟩:=List.mem_map.mp hm
  obtain⟨i,j,k,l,w,w',r,r',s1,s2,h1,h2,h3,h4,h5,h6,h7,h8,h9⟩:=hv e he
  exact⟨by rw[h9];exact h.sg e he,CK s1.wi h1 h2,CK s2.wi h3 h6,CK s2.wi h3 h7⟩
theorem V5 {α γ ρ:Type}{F:γ->α->Rs (Ctl ρ γ)}{p:α->Bool}{v:ρ}{g:γ}:∀{as:List α},(∀a∈as,F g a= .ok (if p a=true then .ret v else .nx g))->forC as g F= .ok (if as.any p=true then .ret v else .nx g)
 | [],_=>rfl
 |a::as,h=>by
  show(F g a).bind _=_
  rw[h a (by simp),Rs.okb,List.any_cons]
  cases hp:p a with
  |true=>rw[if_pos rfl];rfl
  |false=>
   rw[if_neg Bool.false_ne_true,Bool.false_or]
   exact V5 λb hb=>h b (by simp[hb])
noncomputable def held (f:Nat->Nat->Nat)(cn:Int->Nat)(m:Int×Int×Int×Int×Int):Bool:=if m.2.1=1 then decide ((f (cn m.2.2.2.1) (cn m.2.2.1):Int)=cn m.2.2.2.2) else decide ((f (cn m.2.2.2.2) (cn m.2.2.1):Int)=cn m.2.2.2.1)
section
variable {n:Nat}{f:Nat->Nat->Nat}{c:List Int}{cn:Int->Nat}{N:Int}
theorem Ex {ms:List (Int×Int×Int×Int×Int)}(hc:∀k,0<=k->k<N->atR c k= .ok (cn k:Int)/\cn k<n)(hm:∀m∈ms,MG N m):JW ms (XW n f) c= .ok (ms.all (held f cn)):=by
 unfold JW
 simp only[Rs.okb]
 rw[V5 (p:=λm=>!held f cn m) (v:=false) λm h=>?_]
 ·rw[Rs.okb]
  have e:ms.any (λm=>!held f cn m)=!ms.all (held f cn):=by
   rw[List.not_all_eq_any_not]
  rw[e]
  cases ms.all (held f cn) with
  |true=>rw[show(!true)=false from rfl,if_neg Bool.false_ne_true,Qo]
  |false=>rw[show(!false)=true from rfl,if_pos rfl,Qf]
 ·obtain⟨s,⟨o0,o1⟩,⟨a0,a1⟩,b0,b1⟩:=hm m h
  rw[(hc _ a0 a1).1,(hc _ b0 b1).1]
  simp only[Rs.okb]
  unfold held
  rcases s with s |s
  ·rw[if_neg (show ¬decide (m.2.1<0)=true by rw[decide_eq_true_eq];omega),if_pos s]
   simp only[Rs.okb]
   rw[Qi (hc _ a0 a1).2]
   simp only[Rs.okb]
   rw[(hc _ o0 o1).1]
   simp only[Rs.okb]
   rw[Q2 (hc _ o0 o1).2]
   simp only[Rs.okb]
   cases(!decide ((f (cn m.2.2.2.1) (cn m.2.2.1):Int)=cn m.2.2.2.2))<;> rfl
  ·rw[if_pos (decide_eq_true (show m.2.1<0 by omega)),if_neg (show ¬m.2.1=1 by omega)]
   simp only[Rs.okb]
   rw[Qi (hc _ b0 b1).2]
   simp only[Rs.okb]
   rw[(hc _ o0 o1).1]
   simp only[Rs.okb]
   rw[Q2 (hc _ o0 o1).2]
   simp only[Rs.okb]
   cases(!decide ((f (cn m.2.2.2.2) (cn m.2.2.1):Int)=cn m.2.2.2.1))<;> rfl
noncomputable def Jp (m:Int×Int×Int×Int×Int):Int×Int×Int:=if m.2.1=1 then(m.2.2.2.1,m.2.2.1,m.2.2.2.2) else(m.2.2.2.2,m.2.2.1,m.2.2.2.1)
theorem Ix {D:List (List Int)×List (Int×Int)}{ms:List (Int×Int×Int×Int×Int)}(h:QH D= .ok ms)(hl:ms.length<=1000):Uy D= .ok (ms.map Jp):=by
 unfold Uy
 simp only[Rs.okb]
 rw[h,XJ]
 simp only[Rs.okb]
 rw[ZP (h:=Jp) (sz (by simp;omega)) λg hg e he=>?_]
 ·rw[Rs.okb,List.nil_append]
 ·unfold Jp
  by_cases s:e.2.1=1
  ·rw[if_pos (decide_eq_true s),if_pos s]
   simp only[Rs.okb]
   exact XE hg
  ·rw[if_neg (by rw[decide_eq_true_eq];exact s),if_neg s]
   simp only[Rs.okb]
   exact XE hg
theorem GT {ms:List (Int×Int×Int×Int×Int)}(hl:ms.length<=1000)(hc:∀k,0<=k->k<N->atR c k= .ok (cn k:Int)/\cn k<n)(hm:∀m∈ms,MG N m):ZK (XW n f) c (ms.map Jp)= .ok (ms.all (held f cn)):=by
 unfold ZK
 simp only[Rs.okb]
 rw[Zh (h:=λt:Int×Int×Int=>decide ((f (cn t.1) (cn t.2.1):Int)=cn t.2.2)) (sz (by simp;omega)) λt ht=>?_]
 ·rw[Rs.okb,List.map_map]
  congr 1
  rw[List.all_map]
  refine congrArg (λF=>ms.all F) (funext λm=>?_)
  show decide _=held f cn m
  unfold held Jp
  by_cases s:m.2.1=1
  ·simp only[if_pos s]
  ·simp only[if_neg s]
 ·obtain⟨m,h,rfl⟩:=List.mem_map.mp ht
  obtain⟨s,⟨o0,o1⟩,⟨a0,a1⟩,b0,b1⟩:=hm m h
  have key:∀x y z:Int,0<=x->x<N->0<=y->y<N->0<=z->z<N->((((atR c x).bind λx9=>atR (XW n f) x9).bind λx12=>(atR c y).bind λx13=>atR x12 x13).bind λx16=>(atR c z).bind λx17=>(Rs.ok (decide (x16=x17)):Rs Bool))= .ok (decide ((f (cn x) (cn y):Int)=cn z)):=λx y z x0 x1 y0 y1 z0 z1=>by
   rw[(hc x x0 x1).1,(hc y y0 y1).1,(hc z z0 z1).1]
   simp only[Rs.okb]
   rw[Qi (hc x x0 x1).2]
   simp only[Rs.okb]
   rw[Q2 (hc y y0 y1).2]
   simp only[Rs.okb]
  unfold Jp
  by_cases s:m.2.1=1
  ·rw[if_pos s];exact key _ _ _ a0 a1 o0 o1 b0 b1
  ·rw[if_neg s];exact key _ _ _ b0 b1 o0 o1 a0 a1
end
theorem Lg {c:List Int}{n:Nat}{N:Int}(hN:(c.length:Int)=N)(hc:∀x∈c,0<=x/\x<(n:Int)):∀k,0<=k->k<N->atR c k= .ok (((c.getD k.toNat 0).toNat:Nat):Int)/\(c.getD k.toNat 0).toNat<n:=λk k0 k1=>by
 have hk:k.toNat<c.length:=by omega
 have hx:=hc c[k.toNat] (List.getElem_mem hk)
 have e:c.getD k.toNat 0=c[k.toNat]:=by simp[hk]
 rw[e]
 refine⟨?_,by omega⟩
 rw[Za (n:=k.toNat) (by omega) hk]
 congr 1
 omega
theorem Ei {n K:Nat}(h24:n<=100)(hK:K<=3000):J1 (n:Int) (K:Int)= .ok ((n^K:Nat):Int):=by
 unfold J1
 simp only[Rs.okb]
 rw[YA (by omega)]
 simp only[Rs.okb]
 apply Ok.eq
 refine Ok.bind (Ok.forN (λi (g:Int)=>g=((n^i:Nat):Int)) rfl λi a g ha hg=>?_) λg hg=>?_
 ·subst hg
  rw[Z9 (by omega) (by omega),Rs.okb]
  refine⟨_,rfl,?_⟩
  rw[Nat.pow_succ]
  exact(Int.natCast_mul _ _).symm
 ·rw[Yp] at hg
  exact⟨_,rfl,hg⟩
theorem DG.of {most:Nat}{D:List (List Int)×List (Int×Int)}(h:Drawn most D)(hm:most<=100):DG D where
 few:=by have:=h.few;omega
 short:=λw hw=>by
  have h1:=h.perm.length_eq
  rw[QE,List.length_map] at h1
  have h2:=(List.sublist_flatten_of_mem hw).length_le
  have:=h.le
  omega
 le:=by have:=h.le;omega
 mem:=λe he=>by
  have hm:e.1∈D.2.map Prod.fst:=List.mem_map.mpr ⟨e,he,rfl⟩
  exact⟨h.perm.mem_iff.mpr (List.mem_flatMap.mpr ⟨_,hm,by simp⟩),h.perm.mem_iff.mpr (List.mem_flatMap.mpr ⟨_,hm,by simp⟩)⟩
 sg:=λe he=>(h.pos e he).2.2
 count:=by
  rw[J8,Cu h.perm,BI λx hx=>?_,List.length_map]
  obtain⟨e,he,rfl⟩:=List.mem_map.mp hx
  exact(h.pos e he).1
theorem DG.other {D:List (List Int)×List (Int×Int)}(h:DG D):DG (D.1,D.2.map λe=>(e.1,-e.2)) where
 few:=h.few
 short:=h.short
 le:=by rw[List.length_map];exact h.le
 mem:=λe he=>by
  obtain⟨x,hx,rfl⟩:=List.mem_map.mp he
  exact h.mem x hx
 sg:=λe he=>by
  obtain⟨x,hx,rfl⟩:=List.mem_map.mp he
  have:=h.sg x hx
  show-x.2=1∨ -x.2= -1
  omega
 count:=by rw[List.length_map];exact h.count
theorem Ia (o a b:Int):K2 [o,a,b]=max (max o a) b:=rfl
theorem HQ {n i j:Nat}(hn:0<n)(h:i<=j):n^i<=n^j:=Nat.pow_le_pow_right hn h
theorem Uk {c:List Int}{n k:Nat}(hl:c.length=k)(hc:∀x∈c,0<=x/\x<(n:Int)):∀j,0<=j->j<(k:Int)->atR c j= .ok (((c.getD j.toNat 0).toNat:Nat):Int)/\(c.getD j.toNat 0).toNat<n:=Lg (by omega) hc
theorem VG {α β:Type}{F:List β->α->Rs (List β)}{p:α->Bool}{h:α->β}:∀{as:List α}{g:List β},g.length+as.length<=100000->(∀(g:List β) a,a∈as->g.length<100000->F g a= .ok (if p a=true then g++[h a] else g))->forN as g F= .ok (g++(as.filter p).map h)
 | [],g,_,_=>by rw[List.filter_nil,List.map_nil,List.append_nil];rfl
 |a::as,g,hl,hf=>by
  show(F g a).bind _=_
  rw[List.length_cons] at hl
  rw[hf g a List.mem_cons_self (by omega),Rs.okb]
  cases hp:p a with
  |true=>
   rw[if_pos rfl,List.filter_cons_of_pos hp,List.map_cons]
   refine(VG (by simp;omega) λg b hb=>hf g b (List.mem_cons_of_mem _ hb)).trans ?_
   rw[List.append_assoc];rfl
  |false=>
   rw[if_neg Bool.false_ne_true,List.filter_cons_of_neg (by rw[hp];exact Bool.false_ne_true)]
   exact VG (by omega) λg b hb=>hf g b (List.mem_cons_of_mem _ hb)
noncomputable abbrev M5:=Int×Int×Int×Int×Int
noncomputable def UJ (c:List Int)(i:Int):Nat:=(c.getD i.toNat 0).toNat
noncomputable def Km (n:Nat)(f:Nat->Nat->Nat)(ms:List M5)(c:List Int):List (List Int):=((((List.range n).map λ(i:Nat)=>(i:Int))).filter λj=>ms.all (held f (UJ (c++[j])))).map λj=>c++[j]
noncomputable def GH (n:Nat)(f:Nat->Nat->Nat)(ms:List M5)(T:List (List Int)):List (List Int):=T.flatMap (Km n f ms)
noncomputable def Dy (k:Nat)(m:M5):Bool:=decide (K2 [m.2.2.1,m.2.2.2.1,m.2.2.2.2]=(k:Int))
noncomputable def TT (n:Nat)(f:Nat->Nat->Nat)(ms:List M5):Nat->List (List Int)
 |0=>[[]]
 |k+1=>GH n f (ms.filter (Dy k)) (TT n f ms k)
noncomputable def ME (n k:Nat)(T:List (List Int)):Prop:=T.length<=n^k/\∀c∈T,c.length=k/\∀x∈c,0<=x/\x<(n:Int)
section
variable {n:Nat}{f:Nat->Nat->Nat}{ms:List M5}
theorem Fx (c:List Int):(Km n f ms c).length<=n:=by
 unfold Km
 rw[List.length_map]
 exact Nat.le_trans (List.length_filter_le ..) (by simp)
theorem FD:∀T:List (List Int),(GH n f ms T).length<=T.length*n
 | []=>by simp[GH]
 |c::T=>by
  have h:=FD T
  have h2:=Fx (n:=n) (f:=f) (ms:=ms) c
  unfold GH at h⊢
  rw[List.flatMap_cons,List.length_append,List.length_cons,Nat.succ_mul]
  omega
theorem BA {k:Nat}{T:List (List Int)}(h:ME n k T):ME n (k+1) (GH n f ms T):=by
 refine⟨Nat.le_trans (FD T) (by rw[Nat.pow_succ];exact Nat.mul_le_mul_right n h.1),λd hd=>?_⟩
 obtain⟨c,hc,hd⟩:=List.mem_flatMap.mp hd
 unfold Km at hd
 obtain⟨j,hj,rfl⟩:=List.mem_map.mp hd
 obtain⟨i,hi,rfl⟩:=X7 (List.mem_filter.mp hj).1
 obtain⟨h1,h2⟩:=h.2 c hc
 refine⟨by simp[h1],λx hx=>?_⟩
 rcases List.mem_append.mp hx with z |z
 ·exact h2 x z
 ·rw[List.mem_singleton] at z;omega
theorem UU:∀k,ME n k (TT n f ms k)
 |0=>⟨by simp[TT],λc hc=>by
  have:c=[]:=by simpa[TT] using hc
  subst this
  exact⟨rfl,λx hx=>by cases hx⟩⟩
 |k+1=>BA (UU k)
theorem outer {F:List (List Int)->List Int->Rs (List (List Int))}{T:List (List Int)}(hT:T.length*n<=90000)(hF:∀(g:List (List Int)) c,c∈T->g.length+n<=90000->F g c= .ok (g++Km n f ms c)):forN T [] F= .ok (GH n f ms T):=by
 obtain⟨r,e,h⟩:=UT (f:=F) (λi (g:List (List Int))=>g=(T.take i).flatMap (Km n f ms)/\g.length<=i*n) (as:=T) (g:=[]) ⟨by simp,by simp⟩ λi c g hc hg=>by
  have hi:=(List.getElem?_eq_some_iff.mp hc).1
  obtain⟨h1,h2⟩:=hg
  have h3:(i+1)*n<=T.length*n:=Nat.mul_le_mul_right n (by omega)
  rw[Nat.succ_mul] at h3
  refine⟨_,hF g c (List.mem_of_getElem? hc) (by omega),?_,?_⟩
  ·rw[List.take_add_one,hc,List.flatMap_append, ←h1]
   simp
  ·rw[List.length_append,Nat.succ_mul]
   have:=Fx (n:=n) (f:=f) (ms:=ms) c
   omega
 rw[e,h.1,List.take_length]
 rfl
theorem L8 {N:Int}(hm:∀m∈ms,MG N m)(k:Nat):∀m∈ms.filter (Dy k),MG ((k+1:Nat):Int) m:=λm h=>by
 obtain⟨h1,h2⟩:=List.mem_filter.mp h
 unfold Dy at h2
 rw[decide_eq_true_eq,Ia] at h2
 obtain⟨s,o,a,b⟩:=hm m h1
 exact⟨s,⟨o.1,by omega⟩,⟨a.1,by omega⟩,b.1,by omega⟩
theorem M6 {c:List Int}{k:Nat}(h1:c.length=k)(h2:∀x∈c,0<=x/\x<(n:Int)){j:Nat}(hj:j<n):∀i,0<=i->i<((k+1:Nat):Int)->atR (c++[(j:Int)]) i= .ok (UJ (c++[(j:Int)]) i:Int)/\UJ (c++[(j:Int)]) i<n:=
 Uk (k:=k+1) (by simp[h1]) λx hx=>by
  rcases List.mem_append.mp hx with z |z
  ·exact h2 x z
  ·rw[List.mem_singleton] at z;omega
theorem Nz {c:List Int}{j:Int}(h:c.length<=1000):((chk ([j].length<=sizeLine) (Rs.ok [j])).bind λx=>GE c x)= .ok (c++[j]):=by
 rw[XE (sz (by simp)),Rs.okb]
 exact XE (sz (by simp;omega))
theorem B3 {N:Int}{k:Nat}{T:List (List Int)}(hk:k<=900)(hl:ms.length<=1000)(hm:∀m∈ms,MG N m)(hT:ME n k T)(hb:T.length*n<=90000)(hn:n<=1000):YD T (XW n f) ((ms.filter (Dy k)).map Jp)= .ok (GH n f (ms.filter (Dy k)) T):=by
 unfold YD
 simp only[Rs.okb,XB]
 rw[outer (n:=n) (f:=f) (ms:=ms.filter (Dy k)) hb,Rs.okb]
 intro g c hc hg
 obtain⟨h1,h2⟩:=hT.2 c hc
 rw[YA (by omega),Rs.okb,VG (p:=λj=>(ms.filter (Dy k)).all (held f (UJ (c++[j])))) (h:=λj=>c++[j]) (by simp;omega),Rs.okb]
 ·rfl
 intro g' a ha hg'
 obtain⟨j,hj,rfl⟩:=X7 ha
 rw[Nz (by omega),Rs.okb,GT (cn:=UJ (c++[(j:Int)])) (Nat.le_trans (List.length_filter_le ..) hl) (M6 h1 h2 hj) (L8 hm k),XJ,Rs.okb]
 cases(ms.filter (Dy k)).all (held f (UJ (c++[(j:Int)]))) with
 |true=>rw[if_pos rfl,XE (DK (by omega))];rfl
 |false=>rw[if_neg Bool.false_ne_true];rfl
theorem IU (k:Nat):(ms.map Jp).filter (λt=>decide (K2 [t.1,t.2.1,t.2.2]=(k:Int)))=(ms.filter (Dy k)).map Jp:=by
 induction ms with
 |nil=>rfl
 |cons m t ih=>
  have e:decide (K2 [(Jp m).1,(Jp m).2.1,(Jp m).2.2]=(k:Int))=Dy k m:=by
   unfold Jp Dy
   rw[Ia]
   by_cases s:m.2.1=1
   ·rw[if_pos s,Ia]
    congr 1
    rw[Int.max_comm m.2.2.2.1 m.2.2.1]
   ·rw[if_neg s,Ia]
    congr 1
    rw[Int.max_comm m.2.2.2.2 m.2.2.1,Int.max_assoc,Int.max_comm m.2.2.2.2, ←Int.max_assoc]
  rw[List.map_cons,List.filter_cons,List.filter_cons,e,ih]
  cases Dy k m<;> rfl
end
section
variable {D:List (List Int)×List (Int×Int)}{n K:Nat}{f:Nat->Nat->Nat}
theorem Hv (h:DG D)(hn:0<n)(h24:n<=100)(hK:X8 D.1=(K:Int))(hp:n^K<=65000)(hK2:K<=900){ms:List M5}(e1:QH D= .ok ms)(hl:ms.length<=1000)(hm:∀m∈ms,MG (X8 D.1) m):YZ D (XW n f)= .ok (TT n f ms K):=by
 unfold YZ
 simp only[Rs.okb,XB]
 rw[KF h.few h.short,XJ,Rs.okb,hK]
 have er:Yg (n:Int) (K:Int)= .ok ():=by
  unfold Yg
  simp only[Rs.okb]
  rw[YA (by omega),Rs.okb]
  apply Ok.eq
  refine Ok.bind (Ok.forN (λi (g:Int)=>g=((n^i:Nat):Int)) rfl λi a g ha hg=>?_) λg hg=>?_
  ·subst hg
   rw[Z9 (by omega) (by omega),Rs.okb]
   refine⟨_,rfl,?_⟩
   rw[Nat.pow_succ]
   exact(Int.natCast_mul _ _).symm
  ·rw[Yp] at hg
   subst hg
   rw[if_neg (by simp only[decide_eq_true_eq];omega)]
   exact⟨_,rfl,rfl⟩
 rw[er,XJ,Rs.okb,Ix e1 hl,XJ,Rs.okb,XE (sz (by simp)),Rs.okb,YA (by omega),Rs.okb]
 apply Ok.eq
 refine Ok.bind (Ok.forN (λk (T:List (List Int))=>T=TT n f ms k) rfl λk a T ha hT=>?_) λT hT=>?_
 ·obtain⟨rfl,hk⟩:=Yz ha
  subst hT
  have hc:=UU (n:=n) (f:=f) (ms:=ms) k
  have hpk:n^(k+1)<=65000:=Nat.le_trans (HQ hn (by omega)) hp
  have hb:(TT n f ms k).length*n<=90000:=by
   have:=Nat.mul_le_mul_right n hc.1
   have e:n^(k+1)=n^k*n:=Nat.pow_succ ..
   omega
  rw[Gw (as:=ms.map Jp) (f:=λt=>Rs.ok t) (p:=λt:Int×Int×Int=>decide (K2 [t.1,t.2.1,t.2.2]=(k:Int))) (h:=λt=>t) (sz (by rw[List.length_map];omega)) (λt _=>(by rw[show MY [t.1,t.2.1,t.2.2]= .ok (K2 [t.1,t.2.1,t.2.2]) from rfl];rfl)) λ_ _ _=>rfl,List.map_id',Rs.okb,IU,B3 (by omega) hl hm hc hb (by omega),XJ]
  exact⟨_,rfl,rfl⟩
 ·rw[Yp] at hT
  exact⟨_,rfl,hT⟩
theorem Bx (l:List Int):Y4 l= .ok true:=by
 unfold Y4
 simp only[Rs.okb]
 rw[if_neg (by decide),ZJ]
 ·rfl
 intro a _
 rfl
theorem HC (h:D.1.length<=1000):VD D= .ok D:=by
 unfold VD
 simp only[Rs.okb]
 rw[Zh (h:=λa=>a) (sz (by omega)) λ_ _=>rfl,List.map_id',Rs.okb]
end
theorem Eh (ws:List (List Int)):Vf ws<=ws.length:=by
 unfold Vf
 exact List.length_filter_le ..
section
variable {n:Nat}{f:Nat->Nat->Nat}{ms:List M5}
noncomputable def mx (m:M5):Int:=K2 [m.2.2.1,m.2.2.2.1,m.2.2.2.2]
theorem Dr {cn cn':Int->Nat}{m:M5}(h1:cn m.2.2.1=cn' m.2.2.1)(h2:cn m.2.2.2.1=cn' m.2.2.2.1)(h3:cn m.2.2.2.2=cn' m.2.2.2.2):held f cn m=held f cn' m:=by
 unfold held
 rw[h1,h2,h3]
theorem CJ {c:List Int}{j:Int}{i:Int}(h0:0<=i)(h:i<(c.length:Int)):UJ (c++[j]) i=UJ c i:=by
 unfold UJ
 rw[List.getD_eq_getElem?_getD,List.getD_eq_getElem?_getD,List.getElem?_append_left (by omega)]
theorem FY {c:List Int}{j:Int}{N:Int}{m:M5}(hm:MG N m)(hk:mx m<(c.length:Int)):held f (UJ (c++[j])) m=held f (UJ c) m:=by
 have e:mx m=max (max m.2.2.1 m.2.2.2.1) m.2.2.2.2:=Ia ..
 obtain⟨_,h1,h2,h3⟩:=hm
 exact Dr (CJ h1.1 (by omega)) (CJ h2.1 (by omega)) (CJ h3.1 (by omega))
noncomputable def HD (f:Nat->Nat->Nat)(ms:List M5)(k:Nat)(c:List Int):Prop:=∀ m∈ms,mx m<(k:Int)->held f (UJ c) m=true
theorem Ft {c d:List Int}:d∈Km n f ms c↔∃j:Nat,j<n/\(∀m∈ms,held f (UJ (c++[(j:Int)])) m=true)/\d=c++[(j:Int)]:=by
 unfold Km
 rw[List.mem_map]
 constructor
 ·rintro⟨j,hj,rfl⟩
  obtain⟨h1,h2⟩:=List.mem_filter.mp hj
  obtain⟨i,hi,rfl⟩:=X7 h1
  exact⟨i,hi,List.all_eq_true.mp h2,rfl⟩
 ·rintro⟨j,hj,h,rfl⟩
  exact⟨(j:Int),List.mem_filter.mpr ⟨List.mem_map.mpr ⟨j,List.mem_range.mpr hj,rfl⟩,List.all_eq_true.mpr h⟩,rfl⟩
theorem F1 {N:Int}(hm:∀m∈ms,MG N m):∀(k:Nat) (c:List Int),c∈TT n f ms k↔c.length=k/\(∀x∈c,0<=x/\x<(n:Int))/\HD f ms k c:=by
 intro k
 induction k with
 |zero=>
  intro c
  constructor
  ·intro h
   have:c=[]:=by simpa[TT] using h
   subst this
   refine⟨rfl,(λx hx=>nomatch hx),λm hmm hk=>?_⟩
   have e:mx m=max (max m.2.2.1 m.2.2.2.1) m.2.2.2.2:=Ia ..
   obtain⟨_,h1,_⟩:=hm m hmm
   omega
  ·rintro⟨h,_⟩
   rw[List.length_eq_zero_iff.mp h]
   simp[TT]
 |succ k ih=>
  intro d
  show d∈(TT n f ms k).flatMap (Km n f (ms.filter (Dy k)))↔_
  rw[List.mem_flatMap]
  constructor
  ·rintro⟨c,hc,hd⟩
   obtain⟨hl,hx,hh⟩:=(ih c).mp hc
   obtain⟨j,hj,hj2,rfl⟩:=Ft.mp hd
   refine⟨by simp[hl],λx h=>?_,λm hmm hk=>?_⟩
   ·rcases List.mem_append.mp h with h |h
    ·exact hx x h
    ·rw[List.mem_singleton.mp h];omega
   ·by_cases e:mx m=(k:Int)
    ·exact hj2 m (List.mem_filter.mpr ⟨hmm,decide_eq_true e⟩)
    ·rw[FY (hm m hmm) (by omega)]
     exact hh m hmm (by omega)
  ·rintro⟨hl,hx,hh⟩
   have hne:d≠ []:=λz=>by rw[z] at hl;cases hl
   have hd:=List.dropLast_concat_getLast hne
   have hlast:=hx _ (List.getLast_mem hne)
   obtain⟨j,hj⟩:∃j:Nat,d.getLast hne=(j:Int):=⟨(d.getLast hne).toNat,by omega⟩
   rw[hj] at hd hlast
   have hcl:d.dropLast.length=k:=by rw[List.length_dropLast];omega
   refine⟨d.dropLast,(ih _).mpr ⟨hcl,λx h=>hx x ((List.dropLast_sublist d).mem h),λm hmm hk=>?_⟩,Ft.mpr ⟨j,by omega,λm hmm=>?_,hd.symm⟩⟩
   ·have:=hh m hmm (by omega)
    rw[←hd,FY (hm m hmm) (by omega)] at this
    exact this
   ·obtain⟨h1,h2⟩:=List.mem_filter.mp hmm
    have h2:mx m=(k:Int):=of_decide_eq_true h2
    rw[hd]
    exact hh m h1 (by omega)
end
theorem JE {α ρ:Type}{g:Unit->α->Rs (Ctl ρ Unit)}{P:α->Prop}{R:ρ->Prop}{as:List α}:(∀a∈as,(g () a= .ok (.nx ())/\P a)∨∃r,g () a= .ok (.ret r)/\R r)->(forC as () g= .ok (.nx ())/\∀a∈as,P a)∨∃r,forC as () g= .ok (.ret r)/\R r:=by
 induction as with
 |nil=>intro _;exact .inl ⟨rfl,λa h=>nomatch h⟩
 |cons a as ih=>
  intro h
  rcases h a List.mem_cons_self with⟨e,p⟩ | ⟨r,e,hr⟩
  ·rcases ih (λb hb=>h b (List.mem_cons_of_mem _ hb)) with⟨e2,p2⟩ | ⟨r,e2,hr⟩
   ·exact .inl ⟨by show(g () a).bind _=_;rw[e,Rs.okb];exact e2,λb hb=>(List.mem_cons.mp hb).elim (λz=>z▸p) (p2 b)⟩
   ·exact .inr ⟨r,by show(g () a).bind _=_;rw[e,Rs.okb];exact e2,hr⟩
  ·exact .inr ⟨r,by show(g () a).bind _=_;rw[e,Rs.okb],hr⟩
section
variable {n K:Nat}{f:Nat->Nat->Nat}{ms:List M5}{D:List (List Int)×List (Int×Int)}
theorem Be {α:Type}(d:List (List Int×α))(x:List Int):(VJ d x).isSome=true↔x∈d.map λkx=>kx.1:=by
 unfold VJ
 rw[Option.isSome_map,List.find?_isSome,List.mem_map]
 simp
theorem Ed {α:Type}{d:List (List Int×α)}{k x:List Int}{v:α}(h:x∈(d.map λkx=>kx.1)∨x=k):x∈(Uq d k v).map λkx=>kx.1:=by
 unfold Uq
 by_cases c:(d.any λkv=>decide (kv.1=k))=true
 ·rw[if_pos c,List.map_map]
  have hk:k∈d.map λkx=>kx.1:=by
   obtain⟨y,hy,e⟩:=List.any_eq_true.mp c
   exact List.mem_map.mpr ⟨y,hy,of_decide_eq_true e⟩
  have hx:x∈d.map λkx=>kx.1:=h.elim (λh=>h) λe=>e▸hk
  obtain⟨y,hy,rfl⟩:=List.mem_map.mp hx
  refine List.mem_map.mpr ⟨y,hy,?_⟩
  show(if y.1=k then(y.1,v) else y).1=y.1
  split<;> rfl
 ·rw[if_neg c,List.map_append]
  exact h.elim (λh=>List.mem_append_left _ h) λe=>List.mem_append_right _ (by simp[e])
theorem EG {α:Type}(d:List (List Int×α))(k:List Int)(v:α):(Uq d k v).length<=d.length+1:=by
 unfold Uq
 split<;> simp
theorem Ln (F:∀a,a<n->f a a=a)(hm:∀m∈ms,MG (K:Int) m){a:Nat}(ha:a<n):List.replicate K (a:Int)∈TT n f ms K:=by
 refine(F1 hm K _).mpr ⟨by simp,λx h=>?_,λm hmm hk=>?_⟩
 ·rw[List.eq_of_mem_replicate h];omega
 ·obtain⟨hs,h1,h2,h3⟩:=hm m hmm
  have hcn:∀i:Int,0<=i->i<(K:Int)->UJ (List.replicate K (a:Int)) i=a:=λi h0 hK=>by
   unfold UJ
   rw[List.getD_eq_getElem?_getD,List.getElem?_replicate,if_pos (by omega)]
   rfl
  unfold held
  rw[hcn _ h1.1 h1.2,hcn _ h2.1 h2.2,hcn _ h3.1 h3.2,F a ha]
  split<;> exact decide_eq_true rfl
theorem HJ (h:DG D)(hK:X8 D.1=(K:Int))(hK2:K<=900):Ok (JZ D 81) λs=>∃ q:Nat,s=(q:Int)/\1<=q/\q<=6/\q^K<=81:=by
 unfold JZ
 simp only[Rs.okb]
 rw[Fc h.short,XJ, ←h.count,hK,Rs.okb]
 refine Ok.bind (Ok.imp (JC (λg:Int=>∃ q:Nat,g=(q:Int)/\1<=q/\q<=6/\q^K<=81) (λg=>6-g.toNat) (λg hg=>?_) 8 1 ⟨1,rfl,by decide,by decide,by rw[Nat.one_pow];decide⟩ (by decide)) λg hg=>hg.1) λs hs=>⟨_,rfl,hs⟩
 obtain⟨q,rfl,q1,q6,qp⟩:=hg
 have e:(q:Int)+1=((q+1:Nat):Int):=by omega
 refine⟨decide ((q:Int)<6)&&decide ((((q+1)^K:Nat):Int)<=81),?_,λc=>?_⟩
 ·rw[e,Ei (by omega) (by omega),XJ,Rs.okb]
  exact BR λ_=>rfl
 ·rw[Bool.and_eq_true,decide_eq_true_eq,decide_eq_true_eq] at c
  refine⟨_,rfl,⟨q+1,e,by omega,by omega,by omega⟩,?_⟩
  show 6-((q:Int)+1).toNat<6-((q:Int)).toNat
  omega
end
section
variable {n:Nat}
theorem Fg {α β:Type}{f:α->β}:∀{l:List α},(∀a b,a∈l->b∈l->f a=f b->a=b)->l.Nodup->(l.map f).Nodup
 | [],_,_=>List.nodup_nil
 |x::l,h,hn=>by
  have h2:=List.nodup_cons.mp hn
  refine List.nodup_cons.mpr ⟨λhm=>?_,Fg (λa b ha hb=>h a b (.tail _ ha) (.tail _ hb)) h2.2⟩
  obtain⟨y,hy,e⟩:=List.mem_map.mp hm
  exact h2.1 ((h y x (.tail _ hy) (.head _) e)▸hy)
theorem BE {α:Type}[DecidableEq α]:∀{l m:List α},l.Nodup->(∀x∈l,x∈m)->l.length<=m.length
 | [],m,_,_=>Nat.zero_le _
 |x::l,m,h,hs=>by
  have hx:=hs x (.head _)
  have h2:=List.nodup_cons.mp h
  have:=BE (l:=l) (m:=m.erase x) h2.2 λy hy=>(List.mem_erase_of_ne λe=>h2.1 (by rw[←e];exact hy)).mpr (hs y (.tail _ hy))
  rw[List.length_erase_of_mem hx] at this
  have:=List.length_pos_of_mem hx
  rw[List.length_cons]
  omega
end
section
variable {n m:Nat}{f g:Nat->Nat->Nat}{im:List Int}
theorem G0 {β:Type}{k:Nat}{m:Rs β}(h:k<=100):chk (k<=sizeLine) m=m:=XE (sz (by omega))
theorem Ka (y:Int){m:Nat}(h:0<m):∃k:Nat,Qg y (m:Int)= .ok (k:Int)/\k<m:=by
 have hp:(0:Int)<(m:Int):=by omega
 have h1:=Int.emod_nonneg y (show(m:Int)≠0 by omega)
 have h2:=Int.emod_lt_of_pos y hp
 exact⟨(y % (m:Int)).toNat,by rw[Yl hp,Int.toNat_of_nonneg h1],by omega⟩
structure Hom (n m:Nat)(f g:Nat->Nat->Nat)(im:List Int):Prop where
 len:im.length=n
 lt:∀x∈im,0<=x/\x<(m:Int)
 eq:∀a b,a<n->b<n->im.getD (f a b) 0=(g (im.getD a 0).toNat (im.getD b 0).toNat:Int)
theorem GO (hl:im.length=n)(hx:∀x∈im,0<=x/\x<(m:Int)){a:Nat}(ha:a<n):atR im (a:Int)= .ok (im.getD a 0)/\(((im.getD a 0).toNat:Nat):Int)=im.getD a 0/\(im.getD a 0).toNat<m:=by
 have hg:im[a]?=some (im.getD a 0):=by rw[List.getD_eq_getElem?_getD,List.getElem?_eq_getElem (by omega)];rfl
 have:=hx _ (List.mem_of_getElem? hg)
 exact⟨Ym hg,by omega,by omega⟩
theorem Gz (hl:im.length=n)(hx:∀x∈im,0<=x/\x<(m:Int)){a b:Nat}(ha:a<n)(hb:b<n):((atR im (a:Int)).bind λx=>atR (XW m g) x)= .ok (ZF m g (im.getD a 0).toNat)/\((atR im (b:Int)).bind λy=>atR (ZF m g (im.getD a 0).toNat) y)= .ok (g (im.getD a 0).toNat (im.getD b 0).toNat:Int):=by
 obtain⟨h1,h2,h3⟩:=GO hl hx ha
 obtain⟨k1,k2,k3⟩:=GO hl hx hb
 constructor
 ·rw[h1,Rs.okb, ←h2,Qi h3,h2]
 ·rw[k1,Rs.okb, ←k2,Q2 k3,k2]
theorem LA (hf:∀a b,a<n->b<n->f a b<n)(hn:n<=1000)(h:Hom n m f g im):KG (XW n f) (XW m g) im= .ok true:=by
 unfold KG
 simp only[Rs.okb,XB]
 rw[h.len,decide_eq_true rfl,if_neg (by decide),ZJ (g:=()) λx hx=>?_,Rs.okb,Qo,YA (by omega),Rs.okb,ZJ (g:=()) λa ha=>?_,Rs.okb,Qo]
 ·obtain⟨i,hi,rfl⟩:=X7 ha
  rw[Rs.okb,ZJ (g:=()) λb hb=>?_,Rs.okb,Ju]
  obtain⟨j,hj,rfl⟩:=X7 hb
  obtain⟨e1,e2⟩:=Gz (g:=g) h.len h.lt hi hj
  obtain⟨k1,_,_⟩:=GO h.len h.lt (hf i j hi hj)
  rw[Qi hi,Rs.okb,Q2 hj,Rs.okb,k1,Rs.okb,e1,Rs.okb,e2,Rs.okb,h.eq i j hi hj,decide_eq_true rfl]
  rfl
 ·have:=h.lt x hx
  rw[decide_eq_false (show ¬x<0 by omega),decide_eq_false (show ¬(m:Int)<=x by omega)]
  rfl
theorem MA (hf:∀a b,a<n->b<n->f a b<n)(hn:n<=1000)(h:¬Hom n m f g im):KG (XW n f) (XW m g) im= .ok false:=by
 unfold KG
 simp only[Rs.okb,XB]
 by_cases hl:im.length=n
 ·rw[hl,decide_eq_true rfl,if_neg (by decide)]
  by_cases hx:∀x∈im,0<=x/\x<(m:Int)
  ·rw[ZJ (g:=()) λx h'=>?_,Rs.okb,Qo,YA (by omega),Rs.okb]
   ·have hs:=JE (as:=(List.range n).map λ(i:Nat)=>(i:Int)) (P:=λa=>∀ b,b<n->im.getD (f a.toNat b) 0=(g (im.getD a.toNat 0).toNat (im.getD b 0).toNat:Int)) (R:=λr=>r=false)
     (g:=λ_ a28=>(Rs.ok ((List.range n).map λ(i:Nat)=>(i:Int))).bind λx60=>(forC x60 () λ_ a36=>((((atR (XW n f) a28).bind λx40=>atR x40 a36).bind λx43=>atR im x43).bind λx52=>(((atR im a28).bind λx47=>atR (XW m g) x47).bind λx50=>(atR im a36).bind λx51=>atR x50 x51).bind λx53=>Rs.ok !decide (x52=x53)).bind λx54=>if x54=true then Rs.ok (Ctl.ret false) else Rs.ok (Ctl.nx ())).bind (QI λ_=>Rs.ok (Ctl.nx ())))
     λa ha=>?_
    ·rcases hs with⟨_,hp⟩ | ⟨r,e,rfl⟩
     ·refine absurd ⟨hl,hx,λa b ha hb=>?_⟩ h
      have:=hp (a:Int) (List.mem_map.mpr ⟨a,List.mem_range.mpr ha,rfl⟩) b hb
      rwa [Int.toNat_natCast] at this
     ·rw[e,Rs.okb,Qf]
    ·obtain⟨i,hi,rfl⟩:=X7 ha
     have hs:=JE (as:=(List.range n).map λ(i:Nat)=>(i:Int)) (P:=λb=>im.getD (f i b.toNat) 0=(g (im.getD i 0).toNat (im.getD b.toNat 0).toNat:Int)) (R:=λr=>r=false)
      (g:=λ_ a36=>((((atR (XW n f) (i:Int)).bind λx40=>atR x40 a36).bind λx43=>atR im x43).bind λx52=>(((atR im (i:Int)).bind λx47=>atR (XW m g) x47).bind λx50=>(atR im a36).bind λx51=>atR x50 x51).bind λx53=>Rs.ok !decide (x52=x53)).bind λx54=>if x54=true then Rs.ok (Ctl.ret false) else Rs.ok (Ctl.nx ()))
      λb hb=>?_
     ·rw[Rs.okb]
      rcases hs with⟨e,hp⟩ | ⟨r,e,rfl⟩
      ·rw[e,Rs.okb,Ju]
       refine .inl ⟨rfl,λb hb=>?_⟩
       have:=hp (b:Int) (List.mem_map.mpr ⟨b,List.mem_range.mpr hb,rfl⟩)
       rwa [Int.toNat_natCast] at this
      ·rw[e,Rs.okb,UR];exact .inr ⟨_,rfl,rfl⟩
     ·obtain⟨j,hj,rfl⟩:=X7 hb
      obtain⟨e1,e2⟩:=Gz (g:=g) hl hx hi hj
      obtain⟨k1,_,_⟩:=GO hl hx (hf i j hi hj)
      rw[Qi hi,Rs.okb,Q2 hj,Rs.okb,k1,Rs.okb,e1,Rs.okb,e2,Rs.okb,Int.toNat_natCast]
      by_cases c:im.getD (f i j) 0=(g (im.getD i 0).toNat (im.getD j 0).toNat:Int)
      ·rw[decide_eq_true c];exact .inl ⟨rfl,c⟩
      ·rw[decide_eq_false c];exact .inr ⟨_,rfl,rfl⟩
   ·have:=hx x h'
    rw[decide_eq_false (show ¬x<0 by omega),decide_eq_false (show ¬(m:Int)<=x by omega)]
    rfl
  ·rw[V5 (p:=λx=>decide (x<0) || decide ((m:Int)<=x)) (v:=false) λx _=>?_]
   ·have ha:(im.any λx=>decide (x<0) || decide ((m:Int)<=x))=true:=by
     rw[List.any_eq_true]
     refine Classical.byContradiction λz=>hx λx h'=>?_
     by_cases c:0<=x/\x<(m:Int)
     ·exact c
     ·refine absurd ⟨x,h',?_⟩ z
      rw[Bool.or_eq_true,decide_eq_true_eq,decide_eq_true_eq];omega
    rw[if_pos ha,Rs.okb,Qf]
   ·rw[MP (λ_=>rfl),Rs.okb]
    cases(decide (x<0) || decide ((m:Int)<=x))<;> rfl
 ·rw[decide_eq_false (show ¬(im.length:Int)=(n:Int) by omega),if_pos (show(!false)=true from rfl)]
theorem Cn (hl:im.length<=1000):Y7 im (m:Int)= .ok (im.all λx=>decide (0<=x)&&decide (x<(m:Int))):=by
 unfold Y7
 simp only[Rs.okb]
 rw[Zh (h:=λx=>decide (0<=x)&&decide (x<(m:Int))) (sz (by omega)) λx _=>?_,Rs.okb,List.all_map]
 ·rfl
 ·by_cases c:0<=x
  ·rw[decide_eq_true c,if_pos rfl];rfl
  ·rw[decide_eq_false c,if_neg (by decide)];rfl
theorem Gj (hf:∀a b,a<n->b<n->f a b<n)(hl:im.length=n)(hx:∀x∈im,0<=x/\x<(m:Int)){i j:Nat}(hi:i<n)(hj:j<n):X1 (XW n f) (XW m g) im (i:Int) (j:Int)= .ok (!decide ((g (im.getD i 0).toNat (im.getD j 0).toNat:Int)=im.getD (f i j) 0)):=by
 have hlt:=hf i j hi hj
 obtain⟨e1,e2⟩:=Gz (g:=g) hl hx hi hj
 obtain⟨k1,_,_⟩:=GO hl hx hlt
 unfold X1
 simp only[Rs.okb]
 rw[Qi hi,Rs.okb,Q2 hj,Rs.okb,hl,decide_eq_true (show((f i j:Nat):Int)<(n:Int) by omega),e1,Rs.okb,e2,Rs.okb,k1,Rs.okb]
 rfl
theorem Do (hf:∀a b,a<n->b<n->f a b<n)(hn:n<=1000)(h:Hom n m f g im):ZB (XW n f) (XW m g) im= .ok true:=by
 have hl:=h.len
 unfold ZB
 simp only[Rs.okb,XB]
 have ha:(im.all λx=>decide (0<=x)&&decide (x<(m:Int)))=true:=List.all_eq_true.mpr λx hx=>by
  have:=h.lt x hx
  rw[decide_eq_true this.1,decide_eq_true this.2];rfl
 rw[Cn (by omega),XJ,Rs.okb,ha,hl,decide_eq_true rfl,show orR (Rs.ok !true) (Rs.ok !true)= .ok false from rfl,Rs.okb,if_neg (by decide)]
 have:Yf (XW n f) (XW m g) im= .ok none:=by
  unfold Yf
  simp only[Rs.okb]
  rw[hl,YA (by omega),Rs.okb,ZJ (g:=()) λa ha=>?_,Rs.okb,Qo]
  obtain⟨i,hi,rfl⟩:=X7 ha
  rw[Rs.okb,ZJ (g:=()) λb hb=>?_,Rs.okb,Ju]
  obtain⟨j,hj,rfl⟩:=X7 hb
  rw[Gj hf hl h.lt hi hj,XJ,Rs.okb,h.eq i j hi hj,decide_eq_true rfl]
  rfl
 rw[this];rfl
theorem DE (hf:∀a b,a<n->b<n->f a b<n)(hn:n<=1000)(hi2:im.length<=1000)(h:¬Hom n m f g im):ZB (XW n f) (XW m g) im= .ok false:=by
 unfold ZB
 simp only[Rs.okb,XB]
 by_cases hl:im.length=n
 ·rw[Cn hi2,XJ,Rs.okb]
  by_cases hx:∀x∈im,0<=x/\x<(m:Int)
  ·have ha:(im.all λx=>decide (0<=x)&&decide (x<(m:Int)))=true:=List.all_eq_true.mpr λx h'=>by
    have:=hx x h'
    rw[decide_eq_true this.1,decide_eq_true this.2];rfl
   rw[ha,hl,decide_eq_true rfl,show orR (Rs.ok !true) (Rs.ok !true)= .ok false from rfl,Rs.okb,if_neg (by decide)]
   have:∃r,Yf (XW n f) (XW m g) im= .ok r/\r.isNone=false:=by
    unfold Yf
    simp only[Rs.okb]
    rw[hl,YA (by omega),Rs.okb]
    have hs:=JE (as:=(List.range n).map λ(i:Nat)=>(i:Int)) (P:=λa=>∀ b,b<n->im.getD (f a.toNat b) 0=(g (im.getD a.toNat 0).toNat (im.getD b 0).toNat:Int)) (R:=λr:Option (Int×Int)=>r.isNone=false)
     (g:=λ_ a7=>(Rs.ok ((List.range n).map λ(i:Nat)=>(i:Int))).bind λx32=>(forC x32 () λ_ a15=>(noE (X1 (XW n f) (XW m g) im a7 a15)).bind λx23=>if x23=true then Rs.ok (Ctl.ret (some (a7,a15))) else Rs.ok (Ctl.nx ())).bind (QI λ_=>Rs.ok (Ctl.nx ())))
     λa ha=>?_
    ·rcases hs with⟨_,hp⟩ | ⟨r,e,hr⟩
     ·refine absurd ⟨hl,hx,λa b ha hb=>?_⟩ h
      have:=hp (a:Int) (List.mem_map.mpr ⟨a,List.mem_range.mpr ha,rfl⟩) b hb
      rwa [Int.toNat_natCast] at this
     ·rw[e,Rs.okb,Qf];exact⟨r,rfl,hr⟩
    ·obtain⟨i,hi,rfl⟩:=X7 ha
     have hs:=JE (as:=(List.range n).map λ(i:Nat)=>(i:Int)) (P:=λb=>im.getD (f i b.toNat) 0=(g (im.getD i 0).toNat (im.getD b.toNat 0).toNat:Int)) (R:=λr:Option (Int×Int)=>r.isNone=false)
      (g:=λ_ a15=>(noE (X1 (XW n f) (XW m g) im (i:Int) a15)).bind λx23=>if x23=true then Rs.ok (Ctl.ret (some ((i:Int),a15))) else Rs.ok (Ctl.nx ()))
      λb hb=>?_
     ·rw[Rs.okb]
      rcases hs with⟨e,hp⟩ | ⟨r,e,hr⟩
      ·rw[e,Rs.okb,Ju]
       refine .inl ⟨rfl,λb hb=>?_⟩
       have:=hp (b:Int) (List.mem_map.mpr ⟨b,List.mem_range.mpr hb,rfl⟩)
       rwa [Int.toNat_natCast] at this
      ·rw[e,Rs.okb,UR];exact .inr ⟨_,rfl,hr⟩
     ·obtain⟨j,hj,rfl⟩:=X7 hb
      rw[Gj hf hl hx hi hj,XJ,Rs.okb,Int.toNat_natCast]
      by_cases c:im.getD (f i j) 0=(g (im.getD i 0).toNat (im.getD j 0).toNat:Int)
      ·rw[decide_eq_true c.symm];exact .inl ⟨rfl,c⟩
      ·rw[decide_eq_false λz=>c z.symm];exact .inr ⟨_,rfl,rfl⟩
   obtain⟨r,e,hr⟩:=this
   rw[e,XJ,Rs.okb,hr]
  ·have ha:(im.all λx=>decide (0<=x)&&decide (x<(m:Int)))=false:=by
    rw[Bool.eq_false_iff]
    intro z
    refine hx λx h'=>?_
    have:=List.all_eq_true.mp z x h'
    rwa [Bool.and_eq_true,decide_eq_true_eq,decide_eq_true_eq] at this
   rw[ha,hl,decide_eq_true rfl]
   rfl
 ·rw[decide_eq_false (show ¬(im.length:Int)=(n:Int) by omega)]
  rfl
end
noncomputable def prF (m:Nat)(f g:Nat->Nat->Nat)(x y:Nat):Nat:=f (x/m) (y/m)*m+g (x % m) (y % m)
section
variable {n m:Nat}{f g:Nat->Nat->Nat}
theorem VB {N:Nat}{G:Nat->List Int}{F:List (List Int)->Int->Rs (List (List Int))}{l0:List (List Int)}(hN:N<=1000)(h0:l0.length<=1000)(hF:∀(i:Nat) (l:List (List Int)),i<N->l.length<sizeLine->F l (i:Int)= .ok (l++[G i])):forN ((List.range N).map λ(i:Nat)=>(i:Int)) l0 F= .ok (l0++(List.range N).map G):=by
 rw[ZP (h:=λa:Int=>G a.toNat) (sz (by simp;omega)) λl hl a ha=>?_]
 ·rw[List.map_map];rfl
 ·obtain⟨i,hi,rfl⟩:=X7 ha
  rw[hF i l hi hl,Int.toNat_natCast]
theorem F9 (hm:0<m)(hn:n<=24)(hm2:m<=24):YK (XW n f) (XW m g)= .ok (XW (n*m) (prF m f g)):=by
 have hN:n*m<=1000:=Nat.le_trans (Nat.mul_le_mul hn hm2) (by decide)
 have hmp:(0:Int)<(m:Int):=by omega
 have small:((m:Nat):Int)<2^250:=Int.lt_of_le_of_lt (show((m:Nat):Int)<=1000 by omega) (by decide)
 have dm:∀i:Nat,i<n*m->i/m<n/\i % m<m:=λi hi=>⟨Nat.div_lt_of_lt_mul (by rw[Nat.mul_comm];exact hi),Nat.mod_lt _ hm⟩
 unfold YK
 simp only[Rs.okb,XB]
 rw[Zw (by omega) (by omega),Rs.okb,show(n:Int)*(m:Int)=((n*m:Nat):Int) by rw[Int.natCast_mul],YA (by omega),Rs.okb]
 rw[VB (G:=ZF (n*m) (prF m f g)) hN (by simp) λi l hi hl=>?_,Rs.okb,List.nil_append]
 ·rfl
 ·obtain⟨i1,i2⟩:=dm i hi
  rw[Rs.okb,ZP (h:=λb:Int=>((prF m f g i b.toNat:Nat):Int)) (sz (by simp;omega)) λr hr b hb=>?_,Rs.okb,List.nil_append,XE hl,List.map_map]
  ·rfl
  ·obtain⟨j,hj,rfl⟩:=X7 hb
   obtain⟨j1,j2⟩:=dm j hj
   have d1:∀k:Nat,B8 (k:Int) (m:Int)= .ok ((k/m:Nat):Int):=λk=>by rw[K4 hmp small];rfl
   have d2:∀k:Nat,Qg (k:Int) (m:Int)= .ok ((k % m:Nat):Int):=λk=>by rw[Yl hmp];rfl
   rw[d1,d1,d2,d2]
   simp only[Rs.okb]
   rw[Qi i1,Rs.okb,Q2 j1,Rs.okb,Qi i2,Z9 (by omega) (by omega)]
   simp only[Rs.okb]
   rw[Q2 j2,Rs.okb,Rs.okb,XE hr,Int.toNat_natCast]
   unfold prF
   rw[Int.natCast_add,Int.natCast_mul]
theorem LZ (hm:0<m)(hf:∀a b,a<n->b<n->f a b<n)(hg:∀a b,a<m->b<m->g a b<m){a b:Nat}(ha:a<n*m)(hb:b<n*m):prF m f g a b<n*m:=by
 have h1:=hf _ _ (Nat.div_lt_of_lt_mul (by rw[Nat.mul_comm];exact ha)) (Nat.div_lt_of_lt_mul (by rw[Nat.mul_comm];exact hb))
 have h2:=hg _ _ (Nat.mod_lt a hm) (Nat.mod_lt b hm)
 unfold prF
 calc f (a/m) (b/m)*m+g (a % m) (b % m)<f (a/m) (b/m)*m+m:=by omega
  _=(f (a/m) (b/m)+1)*m:=by rw[Nat.add_mul,Nat.one_mul]
  _<=n*m:=Nat.mul_le_mul_right _ h1
theorem LB (hm:0<m)(hf:∀a,a<n->f a a=a)(hg:∀a,a<m->g a a=a){a:Nat}(ha:a<n*m):prF m f g a a=a:=by
 unfold prF
 rw[hf _ (Nat.div_lt_of_lt_mul (by rw[Nat.mul_comm];exact ha)),hg _ (Nat.mod_lt a hm)]
 exact Nat.div_add_mod' a m
theorem ER {a:Int}{k:Nat}(h:k<=1000):U8 [a] (k:Int)= .ok (List.replicate k a):=by
 unfold U8
 rw[XE ⟨by omega,by omega,sz (by simp;omega)⟩,Int.toNat_natCast]
 congr 1
 induction k with
 |zero=>rfl
 |succ k ih=>rw[List.replicate_succ,List.flatten_cons,ih (by omega),List.replicate_succ];rfl
theorem HE (hn:n<=24)(hm:m<=24):∃h,Zi (XW n f) (XW m g)= .ok (XW (n+m) h):=by
 refine⟨λa b=>if a<n then(if b<n then f a b else a) else if b<n then a else g (a-n) (b-n)+n,?_⟩
 unfold Zi
 simp only[Rs.okb,XB]
 rw[YA (by omega),Rs.okb,VB (G:=λa=>ZF n f a++List.replicate m (a:Int)) (by omega) (by simp) λi l hi hl=>?_,Rs.okb,YA (by omega),Rs.okb,List.nil_append,
  VB (G:=λa=>List.replicate n ((a+n:Nat):Int)++(ZF m g a).map λx=>x+(n:Int)) (by omega) (by simp;omega) λi l hi hl=>?_,Rs.okb]
 ·congr 1
  apply List.ext_getElem?
  intro a
  by_cases ha:a<n+m
  ·rw[JH ha]
   by_cases c:a<n
   ·rw[List.getElem?_append_left (by simp;exact c),List.getElem?_map,List.getElem?_range c]
    show some (ZF n f a++List.replicate m (a:Int))=some _
    congr 1
    apply List.ext_getElem?
    intro b
    by_cases hb:b<n+m
    ·rw[ZL hb,if_pos c]
     by_cases c2:b<n
     ·rw[List.getElem?_append_left (by rw[XV];exact c2),ZL c2,if_pos c2]
     ·rw[List.getElem?_append_right (by rw[XV];omega),XV,List.getElem?_replicate,if_pos (by omega),if_neg c2]
    ·rw[List.getElem?_eq_none (by simp[XV];omega),List.getElem?_eq_none (by rw[XV];omega)]
   ·rw[List.getElem?_append_right (by simp;omega)]
    simp only[List.length_map,List.length_range]
    rw[List.getElem?_map,List.getElem?_range (by omega)]
    show some (List.replicate n ((a-n+n:Nat):Int)++(ZF m g (a-n)).map λx=>x+(n:Int))=some _
    congr 1
    apply List.ext_getElem?
    intro b
    by_cases hb:b<n+m
    ·rw[ZL hb,if_neg c]
     by_cases c2:b<n
     ·rw[List.getElem?_append_left (by simp;exact c2),List.getElem?_replicate,if_pos c2,if_pos c2,show a-n+n=a by omega]
     ·rw[List.getElem?_append_right (by simp;omega),List.length_replicate,List.getElem?_map,ZL (by omega),if_neg c2]
      show some ((g (a-n) (b-n):Int)+(n:Int))=some _
      congr 1
    ·rw[List.getElem?_eq_none (by simp[XV];omega),List.getElem?_eq_none (by rw[XV];omega)]
  ·rw[List.getElem?_eq_none (by simp;omega),List.getElem?_eq_none (by rw[XB];omega)]
 ·rw[G0 (by simp),Rs.okb,show((i:Int)+(n:Int))=((i+n:Nat):Int) by omega,ER (by omega),Rs.okb,Qi hi,Rs.okb,Zh (h:=λx=>x+(n:Int)) (sz (by rw[XV];omega)) λ_ _=>rfl,Rs.okb]
  rw[show GE (List.replicate n ((i+n:Nat):Int)) ((ZF m g i).map λx=>x+(n:Int))= .ok _ from XE (sz (by simp[XV];omega)),Rs.okb,XE hl]
 ·rw[Qi hi,Rs.okb,Rs.okb,G0 (by simp),Rs.okb,ER (by omega),Rs.okb]
  rw[show GE (ZF n f i) (List.replicate m (i:Int))= .ok _ from XE (sz (by simp[XV];omega)),Rs.okb,XE hl]
structure TB (K:Nat)(t:List (List Int)×List (List Int)×List Int)(n1 n2:Nat)(f1 f2:Nat->Nat->Nat):Prop where
 e1:t.1=XW n1 f1
 e2:t.2.1=XW n2 f2
 p1:0<n1
 p2:0<n2
 b1:n1<=100
 b2:n2<=100
 lt:∀a b,a<n1->b<n1->f1 a b<n1
 r1:∀a,a<n1->f1 a a=a
 w1:n1^K<=65000
 w2:n2^K<=65000
 len:t.2.2.length=n1
theorem Ij {K q n m:Nat}(hK:K<=12)(hn:0<n)(hq:n<=q)(hm:m<=q)(h:q^K<=81):(n+m)^K<=65000:=by
 have h1:(n+m)^K<=(2*q)^K:=Nat.pow_le_pow_left (by omega) K
 rw[Nat.mul_pow] at h1
 by_cases c:q=1
 ·subst c
  rw[Nat.one_pow,Nat.mul_one] at h1
  have:2^K<=2^12:=Nat.pow_le_pow_right (by decide) hK
  exact Nat.le_trans h1 (Nat.le_trans this (by decide))
 ·have h2:2^K<=q^K:=Nat.pow_le_pow_left (by omega) K
  exact Nat.le_trans h1 (Nat.le_trans (Nat.mul_le_mul (Nat.le_trans h2 h) h) (by decide))
theorem B1 {K q:Nat}(hK:K<=12)(hp:q^K<=81)(hq:q<=4)(F:GoodF n f)(G:GoodF m g)(hn:0<n)(hm:0<m)(hnq:n<=q)(hmq:m<=q){r:List Int}(hr:r.length=21):Ok (QP (XW n f) (XW m g) r) λt=>∃ n1 n2 f1 f2,TB K t n1 n2 f1 f2:=by
 have pn:n^K<=81:=Nat.le_trans (Nat.pow_le_pow_left hnq K) hp
 have pm:m^K<=81:=Nat.le_trans (Nat.pow_le_pow_left hmq K) hp
 have pp:(n*m)^K<=65000:=by
  rw[Nat.mul_pow]
  exact Nat.le_trans (Nat.mul_le_mul pn pm) (by decide)
 have nm:n*m<=16:=Nat.le_trans (Nat.mul_le_mul (show n<=4 by omega) (show m<=4 by omega)) (by decide)
 have nm0:0<n*m:=Nat.mul_pos hn hm
 have hmp:(0:Int)<(m:Int):=by omega
 have a0:atR r 0= .ok r[0]:=Ym (i:=0) (List.getElem?_eq_getElem (by omega))
 have a1:atR r 1= .ok r[1]:=Ym (i:=1) (List.getElem?_eq_getElem (by omega))
 unfold QP
 simp only[Rs.okb,XB]
 rw[a0]
 simp only[Rs.okb]
 refine Ok.ite (λ_=>?_) λ_=>Ok.ite (λ_=>?_) λ_=>Ok.ite (λ_=>?_) λ_=>Ok.ite (λ_=>?_) λ_=>Ok.ite (λ_=>?_) λ_=>?_
 ·rw[show((5:Int))=((5:Nat):Int) from rfl,FM r (by omega)]
  refine Ok.bind (Ok.noE (UD (by omega) (by rw[List.length_drop];omega))) λsp hsp=>?_
  obtain⟨p,q',hpq⟩:=hsp
  rw[K9 (by omega) F.lt hpq,XJ,Rs.okb]
  refine⟨_,rfl,n,n,f,_,rfl,rfl,hn,hn,by omega,by omega,F.lt,F.r1,by omega,by omega,?_⟩
  show sp.length=n
  rw[hpq.2];simp
 ·rw[F9 hm (by omega) (by omega),XJ,Rs.okb,XB,YA (by omega),Rs.okb]
  have small:((m:Nat):Int)<2^250:=Int.lt_of_le_of_lt (show((m:Nat):Int)<=1000 by omega) (by decide)
  rw[Zh (h:=λa=>a/(m:Int)) (sz (by simp;omega)) λ_ _=>K4 hmp small,Rs.okb]
  exact⟨_,rfl,n*m,n,prF m f g,f,rfl,rfl,nm0,hn,by omega,by omega,λa b ha hb=>LZ hm F.lt G.lt ha hb,λa ha=>LB hm F.r1 G.r1 ha,pp,by omega,by simp⟩
 ·rw[F9 hm (by omega) (by omega),XJ,Rs.okb,XB,YA (by omega),Rs.okb]
  rw[Zh (h:=λa=>a % (m:Int)) (sz (by simp;omega)) λ_ _=>Yl hmp,Rs.okb]
  exact⟨_,rfl,n*m,m,prF m f g,g,rfl,rfl,nm0,hm,by omega,by omega,λa b ha hb=>LZ hm F.lt G.lt ha hb,λa ha=>LB hm F.r1 G.r1 ha,pp,by omega,by simp⟩
 ·obtain⟨h,eh⟩:=HE (f:=f) (g:=g) (n:=n) (m:=m) (by omega) (by omega)
  rw[eh,XJ,Rs.okb,XE ⟨by omega,by omega⟩,Rs.okb]
  refine⟨_,rfl,n,n+m,f,h,rfl,rfl,hn,by omega,by omega,by omega,F.lt,F.r1,by omega,Ij hK hn hnq hmq hp,?_⟩
  show(ZW 0 (n:Int)).length=n
  unfold ZW;simp
 ·obtain⟨k,hk,_⟩:=Ka r[1] hm
  rw[a1,Rs.okb,hk,Rs.okb,Rs.okb,G0 (by simp),Rs.okb,ER (by omega),Rs.okb]
  exact⟨_,rfl,n,m,f,g,rfl,rfl,hn,hm,by omega,by omega,F.lt,F.r1,by omega,by omega,by simp⟩
 ·rw[YA (by omega),Rs.okb,Zh (h:=λa=>r.getD (5+a.toNat) 0 % (m:Int)) (sz (by simp;omega)) λa ha=>?_,Rs.okb]
  ·exact⟨_,rfl,n,m,f,g,rfl,rfl,hn,hm,by omega,by omega,F.lt,F.r1,by omega,by omega,by simp⟩
  ·obtain⟨i,hi,rfl⟩:=X7 ha
   rw[show((5:Int)+(i:Int))=((5+i:Nat):Int) by omega,Ym (List.getElem?_eq_getElem (by omega)),Rs.okb,Yl hmp,Int.toNat_natCast,List.getD_eq_getElem?_getD,List.getElem?_eq_getElem (by omega)]
   rfl
end
section
variable {n m K:Nat}{f g:Nat->Nat->Nat}{im:List Int}{ms:List M5}{D:List (List Int)×List (Int×Int)}
theorem HV (h:Hom n m f g im){c:List Int}(hl:c.length=K)(hx:∀x∈c,0<=x/\x<(n:Int)){i:Int}(h0:0<=i)(h1:i<(K:Int)):UJ (c.map λx=>im.getD x.toNat 0) i=(im.getD (UJ c i) 0).toNat:=by
 unfold UJ
 rw[List.getD_eq_getElem?_getD,List.getElem?_map,List.getElem?_eq_getElem (by omega),List.getD_eq_getElem?_getD (l:=c),List.getElem?_eq_getElem (by omega)]
 rfl
theorem LT (h:Hom n m f g im)(hm:∀e∈ms,MG (K:Int) e){c:List Int}(hc:c∈TT n f ms K):(c.map λx=>im.getD x.toNat 0)∈TT m g ms K:=by
 obtain⟨hl,hx,hh⟩:=(F1 hm K c).mp hc
 refine(F1 hm K _).mpr ⟨by simp[hl],λx h'=>?_,λe he hk=>?_⟩
 ·obtain⟨y,hy,rfl⟩:=List.mem_map.mp h'
  have:=hx y hy
  obtain⟨_,k2,k3⟩:=GO h.len h.lt (show y.toNat<n by omega)
  omega
 ·have hq:=hh e he hk
  obtain⟨hs,h1,h2,h3⟩:=hm e he
  have c1:=(Uk hl hx _ h1.1 h1.2).2
  have c2:=(Uk hl hx _ h2.1 h2.2).2
  have c3:=(Uk hl hx _ h3.1 h3.2).2
  have q:∀a b:Nat,((a:Int)=(b:Int))↔a=b:=λa b=>by omega
  unfold held at hq⊢
  rw[HV h hl hx h1.1 h1.2,HV h hl hx h2.1 h2.2,HV h hl hx h3.1 h3.2]
  have go:∀a b r:Nat,a<n->b<n->f a b=r->g (im.getD a 0).toNat (im.getD b 0).toNat=(im.getD r 0).toNat:=λa b r ha hb e=>by
   have:=h.eq a b ha hb
   rw[e] at this
   omega
  rcases hs with z |z<;> rw[z] at hq⊢
  ·rw[if_pos rfl,decide_eq_true_eq,q] at hq⊢
   exact go _ _ _ c2 c1 hq
  ·rw[if_neg (by decide),decide_eq_true_eq,q] at hq⊢
   exact go _ _ _ c3 c1 hq
theorem Ie (F:∀a,a<n->f a a=a)(hm:∀e∈ms,MG (K:Int) e)(hK:0<K):n<=(TT n f ms K).length:=by
 have:=BE (l:=(List.range n).map λa=>List.replicate K ((a:Nat):Int)) (m:=TT n f ms K) (Fg (λx y _ _ e=>?_) List.nodup_range) λx hx=>?_
 ·simpa using this
 ·obtain⟨k,rfl⟩:∃k,K=k+1:=⟨K-1,by omega⟩
  rw[List.replicate_succ,List.replicate_succ] at e
  have:=(List.cons.inj e).1
  omega
 ·obtain⟨a,ha,rfl⟩:=List.mem_map.mp hx
  exact Ln F hm (List.mem_range.mp ha)
theorem Dm {t:List (List Int)×List (List Int)×List Int}(d:DG D)(hK:X8 D.1=(K:Int))(hK2:K<=100)(T:TB K t n m f g)(h:Hom n m f g im):Y6 D (XW n f) (XW m g) im= .ok true:=by
 obtain⟨es,e1,e2,e3,e4⟩:=Dv d
 have hl:es.length<=1000:=by rw[e3];exact d.le
 have c1:=Hv (f:=f) d T.p1 T.b1 hK T.w1 (by omega) e1 hl e4
 have c2:=Hv (f:=g) d T.p2 T.b2 hK T.w2 (by omega) e1 hl e4
 have hcnt:Qw D= .ok (K:Int):=by rw[Fc d.short, ←d.count,hK]
 rw[hK] at e4
 have cp:∀(k:Nat) (u:Nat->Nat->Nat),k<=100->Vl (XW k u) (λa=>Rs.ok a)= .ok (XW k u):=λk u hk=>by
  rw[Zh (h:=λa=>a) (by rw[XB];exact sz (by omega)) λ_ _=>rfl,List.map_id']
 unfold Y6
 simp only[Rs.okb]
 rw[e2,XJ,Rs.okb,HC d.few,XJ,Rs.okb,cp m g T.b2,Rs.okb,c2,XJ,Rs.okb]
 have t2:=UU (n:=m) (f:=g) (ms:=es) K
 have t1:=UU (n:=n) (f:=f) (ms:=es) K
 have step:∀(i:Nat) (a:List Int) (dg:List (List Int×Bool)),(TT m g es K)[i]?=some a->(dg.length<=i/\∀c∈(TT m g es K).take i,c∈dg.map λkx=>kx.1)->∃g',(((noE (Y4 a)).bind λx26=>Rs.ok !x26).bind λx27=>if x27=true then(Rs.ok (Ctl.ret false):Rs (Ctl Bool (List (List Int×Bool)))) else chk (dg.length<sizeLine) (Rs.ok (Ctl.nx (Uq dg a true))))= .ok (.nx g')/\(g'.length<=i+1/\∀c∈(TT m g es K).take (i+1),c∈g'.map λkx=>kx.1):=λi a dg ha hg=>by
  have hi:=(List.getElem?_eq_some_iff.mp ha).1
  have hb:(TT m g es K).length<=65000:=Nat.le_trans t2.1 T.w2
  rw[Bx,XJ,Rs.okb,Rs.okb,if_neg (by decide),XE (DK (by omega))]
  refine⟨_,rfl,Nat.le_trans (EG _ _ _) (by omega),λc hc=>?_⟩
  rw[List.take_add_one,ha,Option.toList_some,List.mem_append,List.mem_singleton] at hc
  exact Ed (hc.imp (hg.2 c) id)
 obtain⟨dd,ed,hd⟩:=Fy (f:=λg20 a22=>((noE (Y4 a22)).bind λx26=>Rs.ok !x26).bind λx27=>if x27=true then Rs.ok (Ctl.ret false) else chk (g20.length<sizeLine) (Rs.ok (Ctl.nx (Uq g20 a22 true)))) (λi dg=>dg.length<=i/\∀c∈(TT m g es K).take i,c∈dg.map λkx=>kx.1) (as:=TT m g es K) (g:=([]:List (List Int×Bool))) ⟨Nat.le_refl _,λc hc=>by simp at hc⟩ step
 rw[ed,Rs.okb,Qo]
 simp only[Rs.okb]
 rw[cp n f T.b1,Rs.okb,c1,XJ,Rs.okb,hcnt,XJ]
 simp only[Rs.okb,XB]
 have hne:orR (Rs.ok !true) (Uw (Rs.ok (decide (((TT n f es K).length:Int)<(n:Int)))) (Rs.ok (decide ((0:Int)<(K:Int)))))= .ok false:=by
  by_cases z:0<K
  ·have:=Ie T.r1 e4 z
   rw[decide_eq_false (show ¬((TT n f es K).length:Int)<(n:Int) by omega)];rfl
  ·rw[decide_eq_false (show ¬(0:Int)<(K:Int) by omega),BR (λ_=>rfl)]
   simp[orR,Rs.okb]
 rw[hne,Rs.okb,if_neg (by decide),ZJ (g:=()) λc hc=>?_,Rs.okb,Qo]
 obtain⟨hcl,hcx⟩:=t1.2 c hc
 have hnew:=LT h e4 hc
 obtain⟨nl,nx,nh⟩:=(F1 e4 K _).mp hnew
 rw[Zh (h:=λx=>im.getD x.toNat 0) (sz (by omega)) λx hx=>?_,Rs.okb]
 ·rw[Ex (n:=m) (f:=g) (N:=(K:Int)) (cn:=UJ (c.map λx=>im.getD x.toNat 0)) (λj h0 h1=>Uk nl nx j h0 h1) e4,XJ,Rs.okb]
  have hall:es.all (held g (UJ (c.map λx=>im.getD x.toNat 0)))=true:=List.all_eq_true.mpr λe he=>nh e he (by
   obtain⟨_,k1,k2,k3⟩:=e4 e he
   show K2 _<_
   rw[Ia];omega)
  rw[hall]
  have hin:(VJ dd (c.map λx=>im.getD x.toNat 0)).isSome=true:=(Be _ _).mpr (hd.2 _ (by rw[List.take_length];exact hnew))
  rw[hin]
  rfl
 ·have:=hcx x hx
  obtain⟨k1,_,_⟩:=GO h.len h.lt (show x.toNat<n by omega)
  rw[←k1,Int.toNat_of_nonneg this.1]
end
theorem Ez (ns:List Int)(_:ns.length<=63):GJ ns= .ok true:=by
 refine Ok.eq ?_
 unfold GJ
 simp only[Rs.okb]
 obtain⟨D,eD,hD⟩:=E1 ns (p:=0) (by decide) (most:=5) (by decide)
 have eD:Q9 ns 0 5= .ok D:=eD
 have d:=DG.of hD (by decide)
 rw[eD,XJ,Rs.okb]
 obtain⟨K,hK⟩:∃K:Nat,X8 D.1=(K:Int):=⟨(X8 D.1).toNat,by have:=V2 D.1;omega⟩
 have hK2:K<=12:=by
  have h1:=d.count
  have h2:=hD.le
  have h3:=hD.few
  have h4:Vf D.1<=D.1.length:=Eh D.1
  omega
 obtain⟨s,es,q,rfl,q1,q6,qp⟩:=HJ d hK (by omega)
 rw[es,XJ,Rs.okb,Rs.okb,show min (4:Int) (q:Int)=((min 4 q:Nat):Int) by omega]
 have qp':(min 4 q)^K<=81:=Nat.le_trans (Nat.pow_le_pow_left (Nat.min_le_right 4 q) K) qp
 rw[G0 (by simp),Rs.okb,G0 (by simp),Rs.okb]
 have e16:U8 [(24:Int)] 16= .ok (List.replicate 16 24):=ER (k:=16) (by decide)
 rw[e16,Rs.okb,show GE [(6:Int),4,4,8,16] (List.replicate 16 24)= .ok [6,4,4,8,16,24,24,24,24,24,24,24,24,24,24,24,24,24,24,24,24] from XE (sz (by simp)),Rs.okb]
 refine Ok.bind (Ok.noE (B0 ns (p:=3) (by decide) _ (by simp) (by decide))) λr hr=>?_
 obtain⟨hl,hv⟩:=hr
 have hl':r.length=21:=hl
 have v1:=hv 1 r[1] 4 (List.getElem?_eq_getElem (by omega)) rfl
 have aR:∀i:Nat,(hi:i<21)->atR r (i:Int)= .ok (r.getD i 0):=λi hi=>Ym (by rw[List.getElem?_eq_getElem (by omega),List.getD_eq_getElem?_getD,List.getElem?_eq_getElem (by omega)];rfl)
 have a1:atR r 1= .ok (r.getD 1 0):=aR 1 (by decide)
 have a2:atR r 2= .ok (r.getD 2 0):=aR 2 (by decide)
 have a3:atR r 3= .ok (r.getD 3 0):=aR 3 (by decide)
 have a4:atR r 4= .ok (r.getD 4 0):=aR 4 (by decide)
 have w1:0<=r.getD 1 0/\r.getD 1 0<4:=by rw[List.getD_eq_getElem?_getD,List.getElem?_eq_getElem (by omega)];exact v1
 refine Ok.bind (Ok.noE (Jl ns (p:=1) (by decide) (most:=min 4 q) (by omega) (by omega))) λt1 ht1=>?_
 obtain⟨n1,f1,p1,b1,F,rfl⟩:=ht1
 refine Ok.bind (Ok.noE (Jl ns (p:=2) (by decide) (most:=min 4 q) (by omega) (by omega))) λt2 ht2=>?_
 obtain⟨n2,f2,p2,b2,G,rfl⟩:=ht2
 refine Ok.bind (Ok.noE (B1 hK2 qp' (by omega) F G p1 p2 b1 b2 hl')) λt ht=>?_
 obtain⟨n,m,f,g,T⟩:=ht
 have te1:=T.e1
 have te2:=T.e2
 have tb1:=T.b1
 have tb2:=T.b2
 have tp1:=T.p1
 have tlen:=T.len
 rw[te1,te2,XB,a1,a2,a3,a4]
 simp only[Rs.okb]
 refine Ok.bind (R:=λim:List Int=>im.length<=200) (Ok.ite (λ_=>?_) λ_=>⟨_,rfl,by show t.2.2.length<=200;omega⟩) λim1 h1=>?_
 ·obtain⟨k,hk,hk2⟩:=Ka (r.getD 4 0) (m:=t.2.2.length) (by omega)
  obtain⟨k',hk',_⟩:=Ka (r.getD 1 0) (m:=m) T.p2
  obtain⟨y,hy⟩:∃y,t.2.2[k]?=some y:=⟨_,List.getElem?_eq_getElem hk2⟩
  rw[hk,Rs.okb,hk',Rs.okb,Ym hy]
  simp only[Rs.okb]
  rw[G0 (by simp),Rs.okb]
  have:∃z,atR [(k':Int),-1,(m:Int),y+1] (r.getD 1 0)= .ok z:=by
   have h5:r.getD 1 0=0∨r.getD 1 0=1∨r.getD 1 0=2∨r.getD 1 0=3:=by omega
   rcases h5 with z |z |z |z<;> rw[z]
   ·exact⟨_,rfl⟩
   ·exact⟨_,rfl⟩
   ·exact⟨_,rfl⟩
   ·exact⟨_,rfl⟩
  obtain⟨z,hz⟩:=this
  rw[hz,Rs.okb,JN hk2,Rs.okb]
  exact⟨_,rfl,by show(t.2.2.set k z).length<=200;rw[List.length_set];omega⟩
 refine Ok.bind (R:=λim:List Int=>im.length<=300) (Ok.ite (λ_=>?_) λ_=>⟨_,rfl,by show im1.length<=300;omega⟩) λim2 h2=>?_
 ·rw[G0 (by simp),Rs.okb,show GE im1 [0]= .ok (im1++[0]) from XE (sz (by simp;omega)),Rs.okb]
  exact⟨_,rfl,by show(im1++[0]).length<=300;rw[List.length_append];simp;omega⟩
 refine Ok.bind (R:=λim:List Int=>im.length<=300) (Ok.ite (λ_=>⟨_,rfl,?_⟩) λ_=>⟨_,rfl,by show im2.length<=300;omega⟩) λim h3=>?_
 ·show(KU im2 (some 1) none).length<=300
  unfold KU
  rw[List.length_take,List.length_drop];omega
 have cp:∀(k:Nat) (u:Nat->Nat->Nat),k<=100->Vl (XW k u) (λa=>Rs.ok a)= .ok (XW k u):=λk u hk=>by
  rw[Zh (h:=λa=>a) (by rw[XB];exact sz (by omega)) λ_ _=>rfl,List.map_id']
 rw[cp n f tb1,Rs.okb,cp m g tb2,Rs.okb]
 have so:∀b:Bool,orR (Rs.ok !true) (Rs.ok !decide (b=b))= .ok false:=λb=>by rw[decide_eq_true rfl];rfl
 have sh:orR (Rs.ok !decide (XW n f=XW n f)) (orR (Rs.ok !decide (XW m g=XW m g)) (Rs.ok !decide True))= .ok false:=by
  rw[decide_eq_true rfl,decide_eq_true rfl];rfl
 by_cases hh:Hom n m f g im
 ·rw[Do T.lt (by omega) hh,XJ,Rs.okb,LA T.lt (by omega) hh,XJ,Rs.okb,so,Rs.okb,if_neg (by decide),sh,Rs.okb,if_neg (by decide),Dm d hK (by omega) T hh,XJ]
  exact⟨_,rfl,rfl⟩
 ·rw[DE T.lt (by omega) (by omega) hh,XJ,Rs.okb,MA T.lt (by omega) hh,XJ,Rs.okb,so,Rs.okb,if_neg (by decide),sh,Rs.okb,if_neg (by decide)]
  exact⟨_,rfl,rfl⟩
noncomputable def top (i:Nat):Stmt:=PySem.Challenge.pw_plait_k58_whole_images_of_colours.main.body.getD i (.Pass ⟨0,0,0,0⟩)
noncomputable abbrev Bw:Stmt:=top 5
noncomputable abbrev BW:Stmt:=top 7
noncomputable abbrev Qn:Stmt:=top 8
noncomputable abbrev ZA:Stmt:=top 9
noncomputable abbrev Z5:Stmt:=top 10
noncomputable abbrev Gv:Stmt:=top 11
noncomputable abbrev ZI:Stmt:=top 13
noncomputable abbrev DT:Stmt:=top 16
noncomputable abbrev QW:Stmt:=top 17
noncomputable abbrev ZY:Stmt:=top 18
noncomputable abbrev Zv:Stmt:=top 19
noncomputable abbrev ZN:Stmt:=top 20
noncomputable abbrev Z8:Stmt:=top 22
noncomputable abbrev Zu:Stmt:=top 23
noncomputable abbrev VA:Stmt:=top 24
noncomputable abbrev Ci:Stmt:=top 26
noncomputable abbrev Im:Stmt:=top 27
noncomputable abbrev HR:Stmt:=top 28
noncomputable abbrev GC:Stmt:=top 29
noncomputable abbrev Es:Stmt:=top 30
noncomputable abbrev VO:Stmt:=top 31
noncomputable abbrev UW:Stmt:=top 32
noncomputable abbrev FK:Stmt:=top 33
noncomputable abbrev JS:Stmt:=top 34
noncomputable abbrev Jg:Stmt:=top 35
noncomputable abbrev Ua:Stmt:=top 36
noncomputable abbrev U1:Stmt:=top 37
noncomputable abbrev FQ:Stmt:=top 38
noncomputable abbrev V3:Stmt:=top 39
noncomputable abbrev Vn:Stmt:=top 40
noncomputable abbrev QK:Stmt:=top 41
noncomputable abbrev UY:Stmt:=top 42
noncomputable abbrev UZ:Stmt:=top 43
noncomputable abbrev V9:Stmt:=top 44
noncomputable abbrev Kj:Stmt:=top 45
noncomputable abbrev G3:Stmt:=top 46
noncomputable abbrev Go:Stmt:=top 47
noncomputable abbrev GF:Stmt:=top 48
noncomputable abbrev Qz:Stmt:=top 49
noncomputable abbrev Z3:Stmt:=top 50
noncomputable abbrev QX:Stmt:=top 51
noncomputable abbrev Hz:Stmt:=top 52
noncomputable abbrev Y8:Stmt:=top 53
noncomputable abbrev Uf:Stmt:=top 54
theorem KO {X:Cx}:PE X (.List [.List [.Constant (.int 0) 0 ⟨207,17,207,18⟩, .Constant (.int 3) 0 ⟨207,20,207,21⟩, .Constant (.int 1) 0 ⟨207,23,207,24⟩, .Constant (.int 2) 0 ⟨207,26,207,27⟩] ⟨207,16,207,28⟩, .List [.Constant (.int 2) 0 ⟨207,31,207,32⟩, .Constant (.int 1) 0 ⟨207,34,207,35⟩, .Constant (.int 3) 0 ⟨207,37,207,38⟩, .Constant (.int 0) 0 ⟨207,40,207,41⟩] ⟨207,30,207,42⟩, .List [.Constant (.int 3) 0 ⟨207,45,207,46⟩, .Constant (.int 0) 0 ⟨207,48,207,49⟩, .Constant (.int 2) 0 ⟨207,51,207,52⟩, .Constant (.int 1) 0 ⟨207,54,207,55⟩] ⟨207,44,207,56⟩, .List [.Constant (.int 1) 0 ⟨207,59,207,60⟩, .Constant (.int 2) 0 ⟨207,62,207,63⟩, .Constant (.int 0) 0 ⟨207,65,207,66⟩, .Constant (.int 3) 0 ⟨207,68,207,69⟩] ⟨207,58,207,70⟩] ⟨207,15,207,71⟩) (EX (XM (EX (XM (tC (.int 0)) (XM (tC (.int 3)) (XM (tC (.int 1)) (XM (tC (.int 2)) Qa))))) (XM (EX (XM (tC (.int 2)) (XM (tC (.int 1)) (XM (tC (.int 3)) (XM (tC (.int 0)) Qa))))) (XM (EX (XM (tC (.int 3)) (XM (tC (.int 0)) (XM (tC (.int 2)) (XM (tC (.int 1)) Qa))))) (XM (EX (XM (tC (.int 1)) (XM (tC (.int 2)) (XM (tC (.int 0)) (XM (tC (.int 3)) Qa))))) Qa))))):=by
 refine XZ ?_
 refine U6 ?_ ?_
 ·exact XZ (Xd Xh (Xd Xh (Xd Xh (Xd Xh Xf))))
 refine U6 ?_ ?_
 ·exact XZ (Xd Xh (Xd Xh (Xd Xh (Xd Xh Xf))))
 refine U6 ?_ ?_
 ·exact XZ (Xd Xh (Xd Xh (Xd Xh (Xd Xh Xf))))
 refine U6 ?_ ?_
 ·exact XZ (Xd Xh (Xd Xh (Xd Xh (Xd Xh Xf))))
 exact Xf
structure Blt (mg:Str->Option Value):Prop where
 b_abs:mg "abs" =none
 b_all:mg "all" =none
 b_bool:mg "bool" =none
 b_enumerate:mg "enumerate" =none
 b_int:mg "int" =none
 b_isinstance:mg "isinstance" =none
 b_len:mg "len" =none
 b_list:mg "list" =none
 b_max:mg "max" =none
 b_min:mg "min" =none
 b_range:mg "range" =none
 b_sum:mg "sum" =none
 b_tuple:mg "tuple" =none
 c_MOST_LISTS:∃u,mg "MOST_LISTS" =some u/\Yy (.int 65536) u
section
variable {P:Program}{w:World}{K:PySem.W.Frag}{mg:Str->Option Value}{base:Heap}
theorem GS:FnScope ["drawing","passage","at","walk"] ["drawing","passage"] (Xk Bw):=⟨rfl,rfl,rfl,by decide+kernel,rfl,by decide+kernel,by decide+kernel⟩
theorem Hy (D:Def K mg "spot" Bw ["drawing","passage"])(Z:Blt mg):Fn P w K mg base 1 "spot" ["drawing","passage"] (sp2 (rP2 (rV (rV Xa)) (rV (rP2 Xa Xa))) Xa (oF (rP2 Xa Xa)) VI K):=by
 refine Ys D GS (λvs H Q E h=>?_) (λf cdv A outer s H vs Q E hr h=>?_)
 ·obtain⟨v_0,v_1,a_0,a_1,b,rfl,_⟩:=h;rfl
 obtain⟨v_0,v_1,a_0,a_1,b,rfl,h_0,h_1,hm,q⟩:=h
 have hu:=hu8 hr
 have hu1:=Yo hr
 refine⟨_,(Xc (X2 PassesOwn.never rfl (Iy rfl Z.b_enumerate (Xy (Zy K rfl) (pv 0) Xh (λ_ _=>rfl))) (Q0 rfl (XR (Xo (i:=2) GS.nd rfl (Or.inl rfl)) (XR (Xo (i:=3) GS.nd rfl (Or.inl rfl)) Z6)))
   (Xc (Yj (Xu KA (pv 1) (pv 3) rfl)
    (Xc (Xz (ZD (Xd (pv 2) (Xd (Hi (K:=K) rfl PySem.F.plainAttrs_list PySem.F.slot_list_index PySem.F.type_list_index (KR K rfl) (pv 3) (Xd (pv 1) Xf)) Xf))))
    Xg)
    Xg)
   Xg))
  (Xc FV
  Xg)),?_⟩
 refine Yw (S:=(SC.add (SC.add SC.nil K (rP2 (rV (rV Xa)) (rV (rP2 Xa Xa))) v_0 a_0) K Xa v_1 a_1)) (σ:=[some v_0,some v_1,none,none]) 0 ?_ (SC.i (SC.i SC.t h_0) h_1) hm q rfl
 unfold VI
 exact(Qs (K:=K) (J:=({oo:=λx3=>[],ss:=λx3=>[some v_0,some v_1,x3.1,x3.2],sc:=λg4 x3=>(SC.add (SC.add SC.nil K (rP2 (rV (rV Xa)) (rV (rP2 Xa Xa))) v_0 a_0) K Xa v_1 a_1)}:Jn (Unit) (Option V×Option V))) (λ_=>tg2 2 3) ((none),(none)) () (BO (VF (Xl (r:=(rP2 (rV (rV Xa)) (rV (rP2 Xa Xa)))) 0 rfl (λ_ s=>s.l.r)))) rfl rfl (λ_ s=>(SC.i (SC.i SC.t s.l.r) s.r)) (λg5 x6 a7 v8=>(Qp (Xp (K:=K) (Hu (Xb (r:=Xa) 1 rfl (λ_ s=>s.l.l.r)) (Xb (r:=(rV Xa)) 3 rfl (λ_ s=>s.r)))) (XC (EvS.ev (Jv (Xl (r:=Xa) 2 rfl (λ_ s=>s.l.r)) (EvB.sh (Gf (Xb (r:=(rV Xa)) 3 rfl (λ_ s=>s.r)) (Xb (r:=Xa) 1 rfl (λ_ s=>s.l.l.r))))))) (QC (Xw (J:=_) ((some v8.1),(some v8.2)) () rfl rfl (λ_ s=>(SC.i (SC.i SC.t s.l.l.l.r) s.l.l.r)))))) λg18 x19=>Mz)
theorem QB:FnScope ["walk","unders"] ["walk"] (Xk ZA):=⟨rfl,rfl,rfl,by decide+kernel,rfl,by decide+kernel,by decide+kernel⟩
theorem Uc (D:Def K mg "arcs_of_walk" ZA ["walk"])(Z:Blt mg):Fn P w K mg base 1 "arcs_of_walk" ["walk"] (sp1 (rV Xa) (oF Xa) XX K):=by
 refine Ys D QB (λvs H Q E h=>?_) (λf cdv A outer s H vs Q E hr h=>?_)
 ·obtain⟨v_0,a_0,b,rfl,_⟩:=h;rfl
 obtain⟨v_0,a_0,b,rfl,h_0,hm,q⟩:=h
 have hu:=hu8 hr
 have hu1:=Yo hr
 refine⟨_,(Xc (JT 1 (Xk ZA) ["walk","unders"] ["passage"] [] rfl QB.nd rfl rfl (XO (K:=K) rfl (pv 0)) (YI (by decide)) (λcl C s H ex E=>⟨Xo (i:=0) (show List.Nodup (["passage"]:List Str) by decide+kernel) rfl (Or.inl rfl),(G5 (Xu Ql (pv 0) Xh (XD _))),(pv 0)⟩))
  (Xc (Xz (Xn (VT rfl) rfl Z.b_max PyProof.Rows.boot_max (Xd (Xn (Xi K rfl) rfl Z.b_len PySem.boot_len (Xd (pv 1) Xf)) (Xd Xh Xf))))
  Xg)),?_⟩
 refine Yw (S:=(SC.add SC.nil K (rV Xa) v_0 a_0)) (σ:=[some v_0,none]) 0 ?_ (SC.i SC.t h_0) hm q rfl
 unfold XX
 exact(Xx (K:=K) (r:=(rV Xa)) 1 (Ev.sh (Ke (λ_=>tg1 0) (XI (Xl (r:=(rV Xa)) 0 rfl (λ_ s=>s.r))) (λC3 a4 v5=>(Xp (K:=K) (Zr (Xb (r:=Xa) 0 rfl (λ_ s=>s.r)) (Xe 0)))) (λC3 a4 v5=>(EvS.ev (Xl (r:=Xa) 0 rfl (λ_ s=>s.r)))))) λa1 v2=>(XC (EvS.ev (EvB.sh (G4 (XA (Xb (r:=(rV Xa)) 1 rfl (λ_ s=>s.r))) (Xe 1))))))
theorem YB:FnScope ["walk","first","number","unders","ways","passage"] ["walk","first"] (Xk Z5):=⟨rfl,rfl,rfl,by decide+kernel,rfl,by decide+kernel,by decide+kernel⟩
theorem VL (D:Def K mg "arcs_of_ways" Z5 ["walk","first"])(g_arcs_of_walk:Fn P w K mg base 1 "arcs_of_walk" ["walk"] (sp1 (rV Xa) (oF Xa) XX K))(Z:Blt mg):Fn P w K mg base 2 "arcs_of_ways" ["walk","first"] (sp2 (rV Xa) Xa (oL (oF Xa)) YR K):=by
 refine Ys D YB (λvs H Q E h=>?_) (λf cdv A outer s H vs Q E hr h=>?_)
 ·obtain⟨v_0,v_1,a_0,a_1,b,rfl,_⟩:=h;rfl
 obtain⟨v_0,v_1,a_0,a_1,b,rfl,h_0,h_1,hm,q⟩:=h
 have hu:=hu8 hr
 have hu1:=Yo hr
 refine⟨_,(Xc (Xq (i:=2) YB.nd rfl (Or.inl rfl) (X5 g_arcs_of_walk hr (by decide) (Xd (pv 0) Xf)))
  (Xc (Xq (i:=3) YB.nd rfl (Or.inl rfl) Xh)
  (Xc (Xq (i:=4) YB.nd rfl (Or.inl rfl) (XZ (Xd (pv 1) Xf)))
  (Xc (X2 PassesOwn.never rfl (XO (K:=K) rfl (JG (Js K rfl) (pv 0) VS (VP (U7 Jx Xh)))) (Xo (i:=5) YB.nd rfl (Or.inl rfl))
   (Xc (Yj (Xu Ql (pv 5) Xh (XD _))
    (Xc (DS (i:=3) YB.nd rfl (Or.inl rfl) Xh Hf)
    Xg)
    Xg)
   (Xc (Ye (Zt PySem.F.plainAttrs_list PySem.F.slot_list_append PySem.F.type_list_append XT (pv 4) (Xd (Xs X0 (pv 1) (Xs Yb (pv 3) (pv 2))) Xf)))
   Xg)))
  (Xc (Xz (pv 4))
  Xg))))),?_⟩
 refine Yw (S:=(SC.add (SC.add SC.nil K (rV Xa) v_0 a_0) K Xa v_1 a_1)) (σ:=[some v_0,some v_1,none,none,none,none]) 1 ?_ (SC.i (SC.i SC.t h_0) h_1) hm q rfl
 unfold YR
 exact(Xx (K:=K) (r:=Xa) 2 (EvB.sh (Ev.toB (YH (Xb (r:=(rV Xa)) 0 rfl (λ_ s=>s.l.r))))) λa1 v2=>(Xx (K:=K) (r:=Xa) 3 (EvB.sh (Xe 0)) λa5 v6=>(XS (K:=K) (o:=(oL (oF Xa))) 4 0 (Ze (Xt (Xl (r:=Xa) 1 rfl (λ_ s=>s.l.l.r)) Yt)) (Nat.le_of_ble_eq_true rfl) λa7 v8 C9=>(Yk (K:=K) (J:=({oo:=λx18=>[x18.2.2.2],ss:=λx18=>[some v_0,some v_1,some v2,some x18.2.1,some x18.2.2.1,x18.1],sc:=λg19 x18=>(SC.addO (SC.add (SC.add (SC.add (SC.add SC.nil K (rV Xa) v_0 a_0) K Xa v_1 a_1) K Xa v2 a1) K Xa x18.2.1 g19.1) K (oL (oF Xa)) x18.2.2.1 g19.2 x18.2.2.2)}:Jn (Int×(List Int)) (Option V×V×V×List XF))) (λ_=>tg1 5) ((none),v6,v8,C9) (a5,a7) (XI (Ev.sh (Vv (EvS.ls (Xl (r:=(rV Xa)) 0 rfl (λ_ s=>s.l.l.l.l.r))) Jw (JD (K:=K) (Qq (Xe 1)))))) rfl rfl (λ_ s=>(SC.i (SC.i (SC.i (SC.i (SC.i SC.t s.l.l.l.l.r) s.l.l.l.r) s.l.l.r) s.l.r) s.r)) (λg20 x21 a22 v23=>(Zd (J:=({oo:=λx27=>[x21.2.2.2],ss:=λx27=>[some v_0,some v_1,some v2,some x27,some x21.2.2.1,some v23],sc:=λg28 x27=>(SC.add (SC.add (SC.addO (SC.add (SC.add (SC.add SC.nil K (rV Xa) v_0 a_0) K Xa v_1 a_1) K Xa v2 a1) K (oL (oF Xa)) x21.2.2.1 g20.2 x21.2.2.2) K Xa v23 a22) K Xa x27 g28)}:Jn (Int) (V))) (ZH (Fd:=FNd ({oo:=λx27=>[x21.2.2.2],ss:=λx27=>[some v_0,some v_1,some v2,some x27,some x21.2.2.1,some v23],sc:=λg28 x27=>(SC.add (SC.add (SC.addO (SC.add (SC.add (SC.add SC.nil K (rV Xa) v_0 a_0) K Xa v_1 a_1) K Xa v2 a1) K (oL (oF Xa)) x21.2.2.1 g20.2 x21.2.2.2) K Xa v23 a22) K Xa x27 g28)}:Jn (Int) (V))) (Xp (K:=K) (Zr (Xb (r:=Xa) 5 rfl (λ_ s=>s.r)) (Xe 0))) (He (K:=K) (f:=λa31=>(Rs.ok (a31))) 3 rfl (λ_ s=>s.l.l.r) (Xe 1) λa31 v30=>(Xw (J:=_) (v30) (a31) rfl rfl (λ_ s=>(SC.i (SC.i (SC.i (SC.i (SC.i (SC.i SC.t s.l.l.l.l.l.l.r) s.l.l.l.l.l.r) s.l.l.l.l.r) s.l.l.r) s.l.r) s.r)))) (Xw (J:=_) (x21.2.1) (g20.1) rfl rfl (λ_ s=>(SC.i (SC.i (SC.i (SC.i (SC.i (SC.i SC.t s.l.l.l.l.l.r) s.l.l.l.l.r) s.l.l.l.r) s.l.r) s.r) s.l.l.r)))) λg33 x32=>(Zl (K:=K) (o:=(oF Xa)) (f:=λa40=>(Rs.ok (g33,a40))) 4 0 rfl rfl rfl (λ_ s=>s.l.l.r) (EvS.ev (EvB.sh (XL (Xb (r:=Xa) 1 rfl (λ_ s=>s.l.l.l.l.r)) (XU (Xb (r:=Xa) 3 rfl (λ_ s=>s.r)) (Xb (r:=Xa) 2 rfl (λ_ s=>s.l.l.l.r)))))) λa38 C39=>(Xw (J:=_) ((some v23),x32,x21.2.2.1,C39) (g33,(g20.2++[a38])) rfl rfl (λ_ s=>(SC.i (SC.i (SC.i (SC.i (SC.i SC.t s.l.l.l.l.l.l.r) s.l.l.l.l.l.r) s.l.l.l.l.r) s.l.r) s.r)))))) λg41 x42=>(XC (Yd (o:=(oL (oF Xa))) 4 0 rfl rfl (λ_ s=>s.r)))))))
theorem VU:FnScope ["drawing","told","first","walk"] ["drawing"] (Xk BW):=⟨rfl,rfl,rfl,by decide+kernel,rfl,by decide+kernel,by decide+kernel⟩
theorem Ig (D:Def K mg "arcs" BW ["drawing"])(g_arcs_of_walk:Fn P w K mg base 1 "arcs_of_walk" ["walk"] (sp1 (rV Xa) (oF Xa) XX K))(g_arcs_of_ways:Fn P w K mg base 2 "arcs_of_ways" ["walk","first"] (sp2 (rV Xa) Xa (oL (oF Xa)) YR K))(Z:Blt mg):Fn P w K mg base 3 "arcs" ["drawing"] (sp1 (rP2 (rV (rV Xa)) (rV (rP2 Xa Xa))) (oL (oL (oF Xa))) UK K):=by
 refine Ys D VU (λvs H Q E h=>?_) (λf cdv A outer s H vs Q E hr h=>?_)
 ·obtain⟨v_0,a_0,b,rfl,_⟩:=h;rfl
 obtain⟨v_0,a_0,b,rfl,h_0,hm,q⟩:=h
 have hu:=hu8 hr
 have hu1:=Yo hr
 refine⟨_,(Xc (Xq (i:=1) VU.nd rfl (Or.inl rfl) (XZ Xf))
  (Xc (Xq (i:=2) VU.nd rfl (Or.inl rfl) Xh)
  (Xc (X2 PassesOwn.never rfl (XO (K:=K) rfl (Xy (Zy K rfl) (pv 0) Xh (λ_ _=>rfl))) (Xo (i:=3) VU.nd rfl (Or.inl rfl))
   (Xc (Ye (Zt PySem.F.plainAttrs_list PySem.F.slot_list_append PySem.F.type_list_append XT (pv 1) (Xd (X5 g_arcs_of_ways hr (by decide) (Xd (pv 3) (Xd (pv 2) Xf))) Xf)))
   (Xc (DS (i:=2) VU.nd rfl (Or.inl rfl) (X5 g_arcs_of_walk hr (by decide) (Xd (pv 3) Xf)) Hf)
   Xg)))
  (Xc (Xz (pv 1))
  Xg)))),?_⟩
 refine Yw (S:=(SC.add SC.nil K (rP2 (rV (rV Xa)) (rV (rP2 Xa Xa))) v_0 a_0)) (σ:=[some v_0,none,none,none]) 1 ?_ (SC.i SC.t h_0) hm q rfl
 unfold UK
 exact(XS (K:=K) (o:=(oL (oL (oF Xa)))) 1 0 (Qm (o:=(oL (oF Xa)))) (Nat.le_of_ble_eq_true rfl) λa1 v2 C3=>(Xx (K:=K) (r:=Xa) 2 (EvB.sh (Xe 0)) λa4 v5=>(Yk (K:=K) (J:=({oo:=λx7=>[x7.2.2.2],ss:=λx7=>[some v_0,some x7.2.2.1,some x7.2.1,x7.1],sc:=λg8 x7=>(SC.addO (SC.add (SC.add SC.nil K (rP2 (rV (rV Xa)) (rV (rP2 Xa Xa))) v_0 a_0) K Xa x7.2.1 g8.1) K (oL (oL (oF Xa))) x7.2.2.1 g8.2 x7.2.2.2)}:Jn (Int×(List (List Int))) (Option V×V×V×List XF))) (λ_=>tg1 3) ((none),v5,v2,C3) (a4,a1) (XI (VF (Xl (r:=(rP2 (rV (rV Xa)) (rV (rP2 Xa Xa)))) 0 rfl (λ_ s=>s.l.l.r)))) rfl rfl (λ_ s=>(SC.i (SC.i (SC.i SC.t s.l.l.r) s.r) s.l.r)) (λg9 x10 a11 v12=>(Zl (K:=K) (o:=(oL (oF Xa))) (f:=λa18=>(Rs.bind (Rs.bind (Rs.ok a11) λx20=>(noE (XX x20))) λx21=>((λ(a23:Int)=>(Rs.ok (a23,a18))) (g9.1+x21)))) 1 0 rfl rfl rfl (λ_ s=>s.l.r) (X4 (Xb (r:=(rV Xa)) 3 rfl (λ_ s=>s.r)) (Xb (r:=Xa) 2 rfl (λ_ s=>s.l.l.r))) λa16 C17=>(He (K:=K) (f:=λa23=>(Rs.ok (a23,(g9.2++[a16])))) 2 rfl (λ_ s=>s.l.l.l.r) (Ev.toB (YH (Xb (r:=(rV Xa)) 3 rfl (λ_ s=>s.l.r)))) λa23 v22=>(Xw (J:=_) ((some v12),v22,x10.2.2.1,C17) (a23,(g9.2++[a16])) rfl rfl (λ_ s=>(SC.i (SC.i (SC.i SC.t s.l.l.l.l.l.r) s.r) s.l.r)))))) λg24 x25=>(XC (Yd (o:=(oL (oL (oF Xa)))) 1 0 rfl rfl (λ_ s=>s.r))))))
theorem K7:FnScope ["drawing"] ["drawing"] (Xk Qn):=⟨rfl,rfl,rfl,by decide+kernel,rfl,by decide+kernel,by decide+kernel⟩
theorem Kx (D:Def K mg "arc_count" Qn ["drawing"])(g_arcs_of_walk:Fn P w K mg base 1 "arcs_of_walk" ["walk"] (sp1 (rV Xa) (oF Xa) XX K))(Z:Blt mg):Fn P w K mg base 2 "arc_count" ["drawing"] (sp1 (rP2 (rV (rV Xa)) (rV (rP2 Xa Xa))) (oF Xa) Zs K):=by
 refine Ys D K7 (λvs H Q E h=>?_) (λf cdv A outer s H vs Q E hr h=>?_)
 ·obtain⟨v_0,a_0,b,rfl,_⟩:=h;rfl
 obtain⟨v_0,a_0,b,rfl,h_0,hm,q⟩:=h
 have hu:=hu8 hr
 have hu1:=Yo hr
 refine⟨_,(Xc (Xz (Xn (Bn rfl) rfl Z.b_sum PyProof.Rows.boot_sum (Xd (YX (sc:=(Xk Qn)) (N0:=["drawing"]) (tns:=["walk"]) (caps:=[]) rfl (XO (K:=K) rfl (Xy (Zy K rfl) (pv 0) Xh (λ_ _=>rfl))) (YI (by decide)) (λcl C s H ex E=>⟨Xo (i:=0) (show List.Nodup (["walk"]:List Str) by decide+kernel) rfl (Or.inl rfl),Y0,(X5 g_arcs_of_walk hr (by decide) (Xd (pv 0) Xf))⟩)) Xf)))
  Xg),?_⟩
 refine Yw (S:=(SC.add SC.nil K (rP2 (rV (rV Xa)) (rV (rP2 Xa Xa))) v_0 a_0)) (σ:=[some v_0]) 0 ?_ (SC.i SC.t h_0) hm q rfl
 unfold Zs
 exact(XC (EvS.ev (EvB.sh (Iw (Ev.toB (Y3 (λ_=>tg1 0) (XI (VF (Xl (r:=(rP2 (rV (rV Xa)) (rV (rP2 Xa Xa)))) 0 rfl (λ_ s=>s.r)))) (λC3 a4 v5=>(YH (Xb (r:=(rV Xa)) 0 rfl (λ_ s=>s.r))))))))))
theorem Zk:FnScope ["drawing","numbers","told","crossing","sign","above","below","over","ways","inward","outward"] ["drawing"] (Xk Gv):=⟨rfl,rfl,rfl,by decide+kernel,rfl,by decide+kernel,by decide+kernel⟩
theorem EE (D:Def K mg "meets" Gv ["drawing"])(g_arcs:Fn P w K mg base 3 "arcs" ["drawing"] (sp1 (rP2 (rV (rV Xa)) (rV (rP2 Xa Xa))) (oL (oL (oF Xa))) UK K))(g_spot:Fn P w K mg base 1 "spot" ["drawing","passage"] (sp2 (rP2 (rV (rV Xa)) (rV (rP2 Xa Xa))) Xa (oF (rP2 Xa Xa)) VI K))(Z:Blt mg):Fn P w K mg base 4 "meets" ["drawing"] (sp1 (rP2 (rV (rV Xa)) (rV (rP2 Xa Xa))) (oL (oF (rP5 Xa Xa Xa Xa Xa))) QH K):=by
 refine Ys D Zk (λvs H Q E h=>?_) (λf cdv A outer s H vs Q E hr h=>?_)
 ·obtain⟨v_0,a_0,b,rfl,_⟩:=h;rfl
 obtain⟨v_0,a_0,b,rfl,h_0,hm,q⟩:=h
 have hu:=hu8 hr
 have hu1:=Yo hr
 refine⟨_,(Xc (Xq (i:=1) Zk.nd rfl (Or.inl rfl) (X5 g_arcs hr (by decide) (Xd (pv 0) Xf)))
  (Xc (Xq (i:=2) Zk.nd rfl (Or.inl rfl) (XZ Xf))
  (Xc (X2 PassesOwn.never rfl (XO (K:=K) rfl (Xy (Zy K rfl) (pv 0) Xh (λ_ _=>rfl))) (Q0 rfl (XR (Xo (i:=3) Zk.nd rfl (Or.inl rfl)) (XR (Xo (i:=4) Zk.nd rfl (Or.inl rfl)) Z6)))
   (Xc (Xq (i:=5) Zk.nd rfl (Or.inl rfl) (X5 g_spot hr (by decide) (Xd (pv 0) (Xd (pv 3) Xf))))
   (Xc (Xq (i:=6) Zk.nd rfl (Or.inl rfl) (X5 g_spot hr (by decide) (Xd (pv 0) (Xd (U7 Jx (pv 3)) Xf))))
   (Xc (Xq (i:=7) Zk.nd rfl (Or.inl rfl) (Xy (Xj K rfl) (Xy (Xj K rfl) (pv 1) (Xy (Zy K rfl) (pv 5) Xh (λ_ _=>rfl)) (λ_ _=>rfl)) (Xy (Zy K rfl) (pv 5) Xh (λ_ _=>rfl)) (λ_ _=>rfl)))
   (Xc (Xq (i:=8) Zk.nd rfl (Or.inl rfl) (Xy (Xj K rfl) (pv 1) (Xy (Zy K rfl) (pv 6) Xh (λ_ _=>rfl)) (λ_ _=>rfl)))
   (Xc (Xq (i:=9) Zk.nd rfl (Or.inl rfl) (Xy (Xj K rfl) (pv 8) (Xy (Zy K rfl) (pv 6) Xh (λ_ _=>rfl)) (λ_ _=>rfl)))
   (Xc (Xq (i:=10) Zk.nd rfl (Or.inl rfl) (Xy (Xj K rfl) (pv 8) (Xs Yb (Xs X0 (Xy (Zy K rfl) (pv 6) Xh (λ_ _=>rfl)) Xh) (Xn (Xi K rfl) rfl Z.b_len PySem.boot_len (Xd (pv 8) Xf))) (λ_ _=>rfl)))
   (Xc (Ye (Zt PySem.F.plainAttrs_list PySem.F.slot_list_append PySem.F.type_list_append XT (pv 2) (Xd (ZD (Xd (pv 3) (Xd (pv 4) (Xd (pv 7) (Xd (pv 9) (Xd (pv 10) Xf)))))) Xf)))
   Xg))))))))
  (Xc (Xz (pv 2))
  Xg)))),?_⟩
 refine Yw (S:=(SC.add SC.nil K (rP2 (rV (rV Xa)) (rV (rP2 Xa Xa))) v_0 a_0)) (σ:=[some v_0,none,none,none,none,none,none,none,none,none,none]) 1 ?_ (SC.i SC.t h_0) hm q rfl
 unfold QH
 exact(Xx (K:=K) (r:=(rV (rV Xa))) 1 (Ev.sh (YH (Xb (r:=(rP2 (rV (rV Xa)) (rV (rP2 Xa Xa)))) 0 rfl (λ_ s=>s.r)))) λa1 v2=>(XS (K:=K) (o:=(oL (oF (rP5 Xa Xa Xa Xa Xa)))) 2 0 (Qm (o:=(oF (rP5 Xa Xa Xa Xa Xa)))) (Nat.le_of_ble_eq_true rfl) λa5 v6 C7=>(Yk (K:=K) (J:=({oo:=λx9=>[x9.2.2.2.2.2.2.2.2.2],ss:=λx9=>[some v_0,some v2,some x9.2.2.2.2.2.2.2.2.1,x9.1,x9.2.1,x9.2.2.1,x9.2.2.2.1,x9.2.2.2.2.1,x9.2.2.2.2.2.1,x9.2.2.2.2.2.2.1,x9.2.2.2.2.2.2.2.1],sc:=λg10 x9=>(SC.addO (SC.add (SC.add SC.nil K (rP2 (rV (rV Xa)) (rV (rP2 Xa Xa))) v_0 a_0) K (rV (rV Xa)) v2 a1) K (oL (oF (rP5 Xa Xa Xa Xa Xa))) x9.2.2.2.2.2.2.2.2.1 g10 x9.2.2.2.2.2.2.2.2.2)}:Jn ((List (Int×Int×Int×Int×Int))) (Option V×Option V×Option V×Option V×Option V×Option V×Option V×Option V×V×List XF))) (λ_=>tg2 3 4) ((none),(none),(none),(none),(none),(none),(none),(none),v6,C7) (a5) (XI (II (Xl (r:=(rP2 (rV (rV Xa)) (rV (rP2 Xa Xa)))) 0 rfl (λ_ s=>s.l.l.r)))) rfl rfl (λ_ s=>(SC.i (SC.i (SC.i SC.t s.l.l.r) s.l.r) s.r)) (λg11 x12 a13 v14=>(Xx (K:=K) (r:=(rP2 Xa Xa)) 5 (EvB.sh (Ev.toB (X4 (Xb (r:=(rP2 (rV (rV Xa)) (rV (rP2 Xa Xa)))) 0 rfl (λ_ s=>s.l.l.l.l.r)) (Xb (r:=Xa) 3 rfl (λ_ s=>s.l.r))))) λa15 v16=>(Xx (K:=K) (r:=(rP2 Xa Xa)) 6 (EvB.sh (Ev.toB (X4 (Xb (r:=(rP2 (rV (rV Xa)) (rV (rP2 Xa Xa)))) 0 rfl (λ_ s=>s.l.l.l.l.l.r)) (Qq (Xb (r:=Xa) 3 rfl (λ_ s=>s.l.l.r)))))) λa20 v21=>(Xx (K:=K) (r:=Xa) 7 (EvB.sh (Xr (Xr (Xb (r:=(rV (rV Xa))) 1 rfl (λ_ s=>s.l.l.l.l.l.r)) (Bi (Xb (r:=(rP2 Xa Xa)) 5 rfl (λ_ s=>s.l.r)))) (V6 (Xb (r:=(rP2 Xa Xa)) 5 rfl (λ_ s=>s.l.r))))) λa26 v27=>(Xx (K:=K) (r:=(rV Xa)) 8 (Hc (EvS.ls (Xl (r:=(rV (rV Xa))) 1 rfl (λ_ s=>s.l.l.l.l.l.l.r))) (Bi (Xb (r:=(rP2 Xa Xa)) 6 rfl (λ_ s=>s.l.r)))) λa34 v35=>(Xx (K:=K) (r:=Xa) 9 (EvB.sh (Xr (Xb (r:=(rV Xa)) 8 rfl (λ_ s=>s.r)) (V6 (Xb (r:=(rP2 Xa Xa)) 6 rfl (λ_ s=>s.l.l.r))))) λa39 v40=>(Xx (K:=K) (r:=Xa) 10 (EvB.sh (Xr (Xb (r:=(rV Xa)) 8 rfl (λ_ s=>s.l.r)) (XU (XL (V6 (Xb (r:=(rP2 Xa Xa)) 6 rfl (λ_ s=>s.l.l.l.r))) (Xe 1)) (XA (Xb (r:=(rV Xa)) 8 rfl (λ_ s=>s.l.r)))))) λa44 v45=>(Zl (K:=K) (o:=(oF (rP5 Xa Xa Xa Xa Xa))) (f:=λa61=>(Rs.ok (a61))) 2 0 rfl rfl rfl (λ_ s=>s.l.l.l.l.l.l.l.l.r) (EvS.ev (Fb (Xl (r:=Xa) 3 rfl (λ_ s=>s.l.l.l.l.l.l.l.r)) (Xl (r:=Xa) 4 rfl (λ_ s=>s.l.l.l.l.l.l.r)) (Xl (r:=Xa) 7 rfl (λ_ s=>s.l.l.l.r)) (Xl (r:=Xa) 9 rfl (λ_ s=>s.l.r)) (Xl (r:=Xa) 10 rfl (λ_ s=>s.r)))) λa59 C60=>(Xw (J:=_) ((some v14.1),(some v14.2),(some v16),(some v21),(some v27),(some v35),(some v40),(some v45),x12.2.2.2.2.2.2.2.2.1,C60) ((g11++[a59])) rfl rfl (λ_ s=>(SC.i (SC.i (SC.i SC.t s.l.l.l.l.l.l.l.l.l.l.l.r) s.l.l.l.l.l.l.l.l.l.l.r) s.r))))))))))) λg62 x63=>(XC (Yd (o:=(oL (oF (rP5 Xa Xa Xa Xa Xa)))) 2 0 rfl rfl (λ_ s=>s.r))))))
theorem Ut:FnScope ["numbers","size"] ["numbers","size"] (Xk ZI):=⟨rfl,rfl,rfl,by decide+kernel,rfl,by decide+kernel,by decide+kernel⟩
theorem Uo (D:Def K mg "all_colours" ZI ["numbers","size"])(Z:Blt mg):Fn P w K mg base 1 "all_colours" ["numbers","size"] (sp2 (rV Xa) Xa (oF XQ) Y7 K):=by
 refine Ys D Ut (λvs H Q E h=>?_) (λf cdv A outer s H vs Q E hr h=>?_)
 ·obtain⟨v_0,v_1,a_0,a_1,b,rfl,_⟩:=h;rfl
 obtain⟨v_0,v_1,a_0,a_1,b,rfl,h_0,h_1,hm,q⟩:=h
 have hu:=hu8 hr
 have hu1:=Yo hr
 refine⟨_,(Xc (Xz (Xn (KN rfl) rfl Z.b_all PyProof.Rows.boot_all (Xd (YX (sc:=(Xk ZI)) (N0:=["numbers","size"]) (tns:=["number"]) (caps:=[(1,"size")]) rfl (XO (K:=K) rfl (pv 0)) (YI (by decide)) (λcl C s H ex E=>⟨Xo (i:=0) (show List.Nodup (["number","size"]:List Str) by decide+kernel) rfl (Or.inl rfl),Y0,(Ey LO Ql Xh (pv 0) (pv 1))⟩)) Xf)))
  Xg),?_⟩
 refine Yw (S:=(SC.add (SC.add SC.nil K (rV Xa) v_0 a_0) K Xa v_1 a_1)) (σ:=[some v_0,some v_1]) 0 ?_ (SC.i (SC.i SC.t h_0) h_1) hm q rfl
 unfold Y7
 exact(XC (EvS.ev (EvB.sh (CZ (Ev.toB (Y3 (λ_=>tg1 0) (XI (Xl (r:=(rV Xa)) 0 rfl (λ_ s=>s.l.r))) (λC2 a3 v4=>(EvS.ev (EvB.sh (Bu (Xe 0) (Xb (r:=Xa) 0 rfl (λ_ s=>s.r)) (Xb (r:=Xa) 1 rfl (λ_ s=>s.l.r))))))))))))
theorem Jh:FnScope ["drawing","told","crossing","sign","over","inward","outward"] ["drawing"] (Xk DT):=⟨rfl,rfl,rfl,by decide+kernel,rfl,by decide+kernel,by decide+kernel⟩
theorem IW (D:Def K mg "ties" DT ["drawing"])(g_meets:Fn P w K mg base 4 "meets" ["drawing"] (sp1 (rP2 (rV (rV Xa)) (rV (rP2 Xa Xa))) (oL (oF (rP5 Xa Xa Xa Xa Xa))) QH K))(Z:Blt mg):Fn P w K mg base 5 "ties" ["drawing"] (sp1 (rP2 (rV (rV Xa)) (rV (rP2 Xa Xa))) (oL (oF (rP3 Xa Xa Xa))) Uy K):=by
 refine Ys D Jh (λvs H Q E h=>?_) (λf cdv A outer s H vs Q E hr h=>?_)
 ·obtain⟨v_0,a_0,b,rfl,_⟩:=h;rfl
 obtain⟨v_0,a_0,b,rfl,h_0,hm,q⟩:=h
 have hu:=hu8 hr
 have hu1:=Yo hr
 refine⟨_,(Xc (Xq (i:=1) Jh.nd rfl (Or.inl rfl) (XZ Xf))
  (Xc (X2 PassesOwn.never rfl (XO (K:=K) rfl (X5 g_meets hr (by decide) (Xd (pv 0) Xf))) (Q0 rfl (XR (Xo (i:=2) Jh.nd rfl (Or.inl rfl)) (XR (Xo (i:=3) Jh.nd rfl (Or.inl rfl)) (XR (Xo (i:=4) Jh.nd rfl (Or.inl rfl)) (XR (Xo (i:=5) Jh.nd rfl (Or.inl rfl)) (XR (Xo (i:=6) Jh.nd rfl (Or.inl rfl)) Z6))))))
   (Xc (Ye (Zt PySem.F.plainAttrs_list PySem.F.slot_list_append PySem.F.type_list_append XT (pv 1) (Xd (EZ (Xu ZG (pv 3) Xh (XD _)) (ZD (Xd (pv 5) (Xd (pv 4) (Xd (pv 6) Xf)))) (ZD (Xd (pv 6) (Xd (pv 4) (Xd (pv 5) Xf))))) Xf)))
   Xg))
  (Xc (Xz (pv 1))
  Xg))),?_⟩
 refine Yw (S:=(SC.add SC.nil K (rP2 (rV (rV Xa)) (rV (rP2 Xa Xa))) v_0 a_0)) (σ:=[some v_0,none,none,none,none,none,none]) 1 ?_ (SC.i SC.t h_0) hm q rfl
 unfold Uy
 exact(XS (K:=K) (o:=(oL (oF (rP3 Xa Xa Xa)))) 1 0 (Qm (o:=(oF (rP3 Xa Xa Xa)))) (Nat.le_of_ble_eq_true rfl) λa1 v2 C3=>(Yk (K:=K) (J:=({oo:=λx6=>[x6.2.2.2.2.2.2],ss:=λx6=>[some v_0,some x6.2.2.2.2.2.1,x6.1,x6.2.1,x6.2.2.1,x6.2.2.2.1,x6.2.2.2.2.1],sc:=λg7 x6=>(SC.addO (SC.add SC.nil K (rP2 (rV (rV Xa)) (rV (rP2 Xa Xa))) v_0 a_0) K (oL (oF (rP3 Xa Xa Xa))) x6.2.2.2.2.2.1 g7 x6.2.2.2.2.2.2)}:Jn ((List (Int×Int×Int))) (Option V×Option V×Option V×Option V×Option V×V×List XF))) (λ_=>tg5 2 3 4 5 6) ((none),(none),(none),(none),(none),v2,C3) (a1) (XI (Ev.sh (YH (Xb (r:=(rP2 (rV (rV Xa)) (rV (rP2 Xa Xa)))) 0 rfl (λ_ s=>s.l.r))))) rfl rfl (λ_ s=>(SC.i (SC.i SC.t s.l.r) s.r)) (λg8 x9 a10 v11=>(Zl (K:=K) (o:=(oF (rP3 Xa Xa Xa))) (f:=λa23=>(Rs.ok (a23))) 1 0 rfl rfl rfl (λ_ s=>s.l.l.l.l.l.r) (M4 (Xp (K:=K) (YL (Xb (r:=Xa) 3 rfl (λ_ s=>s.l.l.l.r)) (Xe 1))) (EvS.ev (Fe (Xl (r:=Xa) 5 rfl (λ_ s=>s.l.r)) (Xl (r:=Xa) 4 rfl (λ_ s=>s.l.l.r)) (Xl (r:=Xa) 6 rfl (λ_ s=>s.r)))) (EvS.ev (Fe (Xl (r:=Xa) 6 rfl (λ_ s=>s.r)) (Xl (r:=Xa) 4 rfl (λ_ s=>s.l.l.r)) (Xl (r:=Xa) 5 rfl (λ_ s=>s.l.r))))) λa21 C22=>(Xw (J:=_) ((some v11.1),(some v11.2.1),(some v11.2.2.1),(some v11.2.2.2.1),(some v11.2.2.2.2),x9.2.2.2.2.2.1,C22) ((g8++[a21])) rfl rfl (λ_ s=>(SC.i (SC.i SC.t s.l.l.l.l.l.l.l.r) s.r))))) λg24 x25=>(XC (Yd (o:=(oL (oF (rP3 Xa Xa Xa)))) 1 0 rfl rfl (λ_ s=>s.r)))))
theorem GP:FnScope ["table","colours","asked"] ["table","colours","asked"] (Xk QW):=⟨rfl,rfl,rfl,by decide+kernel,rfl,by decide+kernel,by decide+kernel⟩
theorem Gn (D:Def K mg "all_held" QW ["table","colours","asked"])(Z:Blt mg):Fn P w K mg base 1 "all_held" ["table","colours","asked"] (sp3 (rV (rV Xa)) (rV Xa) (rV (rP3 Xa Xa Xa)) (oF XQ) ZK K):=by
 refine Ys D GP (λvs H Q E h=>?_) (λf cdv A outer s H vs Q E hr h=>?_)
 ·obtain⟨v_0,v_1,v_2,a_0,a_1,a_2,b,rfl,_⟩:=h;rfl
 obtain⟨v_0,v_1,v_2,a_0,a_1,a_2,b,rfl,h_0,h_1,h_2,hm,q⟩:=h
 have hu:=hu8 hr
 have hu1:=Yo hr
 refine⟨_,(Xc (Xz (Xn (KN rfl) rfl Z.b_all PyProof.Rows.boot_all (Xd (YX (sc:=(Xk QW)) (N0:=["table","colours","asked"]) (tns:=["start","over","end"]) (caps:=[(0,"table"),(1,"colours")]) rfl (XO (K:=K) rfl (pv 2)) (IF (by decide) (by decide) (by decide)) (λcl C s H ex E=>⟨HM K rfl rfl (XR (Xo (i:=0) (show List.Nodup (["start","over","end","table","colours"]:List Str) by decide+kernel) rfl (Or.inl rfl)) (XR (Xo (i:=1) (show List.Nodup (["start","over","end","table","colours"]:List Str) by decide+kernel) rfl (Or.inl rfl)) (XR (Xo (i:=2) (show List.Nodup (["start","over","end","table","colours"]:List Str) by decide+kernel) rfl (Or.inl rfl)) Z6))),Y0,(Kk ZG (Xy (Xj K rfl) (Xy (Xj K rfl) (pv 3) (Xy (Xj K rfl) (pv 4) (pv 0) (λ_ _=>rfl)) (λ_ _=>rfl)) (Xy (Xj K rfl) (pv 4) (pv 1) (λ_ _=>rfl)) (λ_ _=>rfl)) (Xy (Xj K rfl) (pv 4) (pv 2) (λ_ _=>rfl)) (XD _))⟩)) Xf)))
  Xg),?_⟩
 refine Yw (S:=(SC.add (SC.add (SC.add SC.nil K (rV (rV Xa)) v_0 a_0) K (rV Xa) v_1 a_1) K (rV (rP3 Xa Xa Xa)) v_2 a_2)) (σ:=[some v_0,some v_1,some v_2]) 0 ?_ (SC.i (SC.i (SC.i SC.t h_0) h_1) h_2) hm q rfl
 unfold ZK
 exact(XC (EvS.ev (EvB.sh (CZ (Ev.toB (Y3 (λ_=>tg3 0 1 2) (XI (Xl (r:=(rV (rP3 Xa Xa Xa))) 2 rfl (λ_ s=>s.r))) (λC2 a3 v4=>(EvS.ev (EvB.sh (YL (Xr (Xr (Xb (r:=(rV (rV Xa))) 3 rfl (λ_ s=>s.l.l.l.l.l.r)) (Xr (Xb (r:=(rV Xa)) 4 rfl (λ_ s=>s.l.l.l.l.r)) (Xb (r:=Xa) 0 rfl (λ_ s=>s.l.l.r)))) (Xr (Xb (r:=(rV Xa)) 4 rfl (λ_ s=>s.l.l.l.l.r)) (Xb (r:=Xa) 1 rfl (λ_ s=>s.l.r)))) (Xr (Xb (r:=(rV Xa)) 4 rfl (λ_ s=>s.l.l.l.l.r)) (Xb (r:=Xa) 2 rfl (λ_ s=>s.r)))))))))))))
theorem YU:FnScope ["size","count","lists","arc"] ["size","count"] (Xk Zv):=⟨rfl,rfl,rfl,by decide+kernel,rfl,by decide+kernel,by decide+kernel⟩
theorem JI (D:Def K mg "refuse_too_much" Zv ["size","count"])(Z:Blt mg):Fn P w K mg base 1 "refuse_too_much" ["size","count"] (sp2 Xa Xa oU Yg K):=by
 refine Ys D YU (λvs H Q E h=>?_) (λf cdv A outer s H vs Q E hr h=>?_)
 ·obtain⟨v_0,v_1,a_0,a_1,b,rfl,_⟩:=h;rfl
 obtain⟨v_0,v_1,a_0,a_1,b,rfl,h_0,h_1,hm,q⟩:=h
 have hu:=hu8 hr
 have hu1:=Yo hr
 refine⟨_,(Xc (Xq (i:=2) YU.nd rfl (Or.inl rfl) Xh)
  (Xc (X2 PassesOwn.never rfl (XH rfl Z.b_range (Xd (pv 1) Xf)) (Xo (i:=3) YU.nd rfl (Or.inl rfl))
   (Xc (DS (i:=2) YU.nd rfl (Or.inl rfl) (pv 0) Mq)
   Xg))
  (Xc (Yj (Xu GR (pv 2) (LJ Z.c_MOST_LISTS rfl) (XD _))
   (Xc FV
   Xg)
   Xg)
  Xg))),?_⟩
 refine M1 (J:=({oo:=λx3=>[],ss:=λx3=>[some v_0,some v_1,x3.1,x3.2],sc:=λg4 x3=>(SC.add (SC.add SC.nil K Xa v_0 a_0) K Xa v_1 a_1)}:Jn (Unit) (Option V×Option V))) (K:=K) (S:=(SC.add (SC.add SC.nil K Xa v_0 a_0) K Xa v_1 a_1)) (σ:=[some v_0,some v_1,none,none]) 0 ?_ (SC.i (SC.i SC.t h_0) h_1) hm q (λ_ _=>rfl)
 unfold Yg
 exact(Xx (K:=K) (r:=Xa) 2 (EvB.sh (Xe 1)) λa5 v6=>(Yk (K:=K) (J:=({oo:=λx8=>[],ss:=λx8=>[some v_0,some v_1,some x8.2,x8.1],sc:=λg9 x8=>(SC.add (SC.add (SC.add SC.nil K Xa v_0 a_0) K Xa v_1 a_1) K Xa x8.2 g9)}:Jn (Int) (Option V×V))) (λ_=>tg1 3) ((none),v6) (a5) (Xv (Xb (r:=Xa) 1 rfl (λ_ s=>s.l.r))) rfl rfl (λ_ s=>(SC.i (SC.i (SC.i SC.t s.l.l.r) s.l.r) s.r)) (λg10 x11 a12 v13=>(Le (K:=K) 2 rfl (λ_ s=>s.l.r) (Xb (r:=Xa) 0 rfl (λ_ s=>s.l.l.l.r)) λa16 v15=>(Xw (J:=_) ((some v13),v15) (a16) rfl rfl (λ_ s=>(SC.i (SC.i (SC.i SC.t s.l.l.l.l.r) s.l.l.l.r) s.r))))) λg17 x18=>(LL (Xp (K:=K) (V8 (Xb (r:=Xa) 2 rfl (λ_ s=>s.r)) (Xe 65536))) (Xw (J:=_) ((some x18.2),(x18.1)) () rfl rfl (λ_ s=>(SC.i (SC.i SC.t s.l.l.r) s.l.r))))))
theorem YM:FnScope ["lists","table","asked","longer","ahead","colour","tried"] ["lists","table","asked"] (Xk ZN):=⟨rfl,rfl,rfl,by decide+kernel,rfl,by decide+kernel,by decide+kernel⟩
theorem Vh (D:Def K mg "longer_by_arc" ZN ["lists","table","asked"])(g_all_held:Fn P w K mg base 1 "all_held" ["table","colours","asked"] (sp3 (rV (rV Xa)) (rV Xa) (rV (rP3 Xa Xa Xa)) (oF XQ) ZK K))(Z:Blt mg):Fn P w K mg base 2 "longer_by_arc" ["lists","table","asked"] (sp3 (rV (rV Xa)) (rV (rV Xa)) (rV (rP3 Xa Xa Xa)) (oL (oL (oF Xa))) YD K):=by
 refine Ys D YM (λvs H Q E h=>?_) (λf cdv A outer s H vs Q E hr h=>?_)
 ·obtain⟨v_0,v_1,v_2,a_0,a_1,a_2,b,rfl,_⟩:=h;rfl
 obtain⟨v_0,v_1,v_2,a_0,a_1,a_2,b,rfl,h_0,h_1,h_2,hm,q⟩:=h
 have hu:=hu8 hr
 have hu1:=Yo hr
 refine⟨_,(Xc (Xq (i:=3) YM.nd rfl (Or.inl rfl) (XZ Xf))
  (Xc (X2 PassesOwn.never rfl (XO (K:=K) rfl (pv 0)) (Xo (i:=4) YM.nd rfl (Or.inl rfl))
   (Xc (X2 PassesOwn.never rfl (XH rfl Z.b_range (Xd (Xn (Xi K rfl) rfl Z.b_len PySem.boot_len (Xd (pv 1) Xf)) Xf)) (Xo (i:=5) YM.nd rfl (Or.inl rfl))
    (Xc (Xq (i:=6) YM.nd rfl (Or.inl rfl) (Xs Ul (pv 4) (XZ (Xd (pv 5) Xf))))
    (Xc (Yj (QD (X5 g_all_held hr (by decide) (Xd (pv 1) (Xd (pv 6) (Xd (pv 2) Xf)))))
     (Xc (Ye (Zt PySem.F.plainAttrs_list PySem.F.slot_list_append PySem.F.type_list_append XT (pv 3) (Xd (pv 6) Xf)))
     Xg)
     Xg)
    Xg)))
   Xg))
  (Xc (Xz (pv 3))
  Xg))),?_⟩
 refine Yw (S:=(SC.add (SC.add (SC.add SC.nil K (rV (rV Xa)) v_0 a_0) K (rV (rV Xa)) v_1 a_1) K (rV (rP3 Xa Xa Xa)) v_2 a_2)) (σ:=[some v_0,some v_1,some v_2,none,none,none,none]) 2 ?_ (SC.i (SC.i (SC.i SC.t h_0) h_1) h_2) hm q rfl
 unfold YD
 exact(XS (K:=K) (o:=(oL (oL (oF Xa)))) 3 0 (Qm (o:=(oL (oF Xa)))) (Nat.le_of_ble_eq_true rfl) λa1 v2 C3=>(Yk (K:=K) (J:=({oo:=λx4=>[x4.2.2.2.2,[]],ss:=λx4=>[some v_0,some v_1,some v_2,some x4.2.2.2.1,x4.1,x4.2.1,x4.2.2.1],sc:=λg5 x4=>(SC.addO (SC.add (SC.add (SC.add SC.nil K (rV (rV Xa)) v_0 a_0) K (rV (rV Xa)) v_1 a_1) K (rV (rP3 Xa Xa Xa)) v_2 a_2) K (oL (oL (oF Xa))) x4.2.2.2.1 g5 x4.2.2.2.2)}:Jn ((List (List Int))) (Option V×Option V×Option V×V×List XF))) (λ_=>tg1 4) ((none),(none),(none),v2,C3) (a1) (XI (Xl (r:=(rV (rV Xa))) 0 rfl (λ_ s=>s.l.l.l.r))) rfl rfl (λ_ s=>(SC.i (SC.i (SC.i (SC.i SC.t s.l.l.l.r) s.l.l.r) s.l.r) s.r)) (λg6 x7 a8 v9=>(Yk (K:=K) (J:=({oo:=λx12=>[x12.2.2.2,[]],ss:=λx12=>[some v_0,some v_1,some v_2,some x12.2.2.1,some v9,x12.1,x12.2.1],sc:=λg13 x12=>(SC.addO (SC.add (SC.add (SC.add (SC.add SC.nil K (rV (rV Xa)) v_0 a_0) K (rV (rV Xa)) v_1 a_1) K (rV (rP3 Xa Xa Xa)) v_2 a_2) K (rV Xa) v9 a8) K (oL (oL (oF Xa))) x12.2.2.1 g13 x12.2.2.2)}:Jn ((List (List Int))) (Option V×Option V×V×List XF))) (λ_=>tg1 5) ((x7.2.1),(x7.2.2.1),x7.2.2.2.1,x7.2.2.2.2) (g6) (Xv (XA (Xb (r:=(rV (rV Xa))) 1 rfl (λ_ s=>s.l.l.l.r)))) rfl rfl (λ_ s=>(SC.i (SC.i (SC.i (SC.i (SC.i SC.t s.l.l.l.l.r) s.l.l.l.r) s.l.l.r) s.r) s.l.r)) (λg14 x15 a16 v17=>(XS (K:=K) (o:=(oL (oF Xa))) 6 1 (V0 (EvS.ls (Xl (r:=(rV Xa)) 4 rfl (λ_ s=>s.l.l.r))) (Ev.ls (Ze (Xt (Xl (r:=Xa) 5 rfl (λ_ s=>s.r)) Yt)))) (Nat.le_of_ble_eq_true rfl) λa18 v19 C20=>(Zd (J:=({oo:=λx31=>[x31.2.2,[]],ss:=λx31=>[some v_0,some v_1,some v_2,some x31.1,some v9,some v17,x31.2.1],sc:=λg32 x31=>(SC.addO (SC.add (SC.add (SC.add (SC.add (SC.add SC.nil K (rV (rV Xa)) v_0 a_0) K (rV (rV Xa)) v_1 a_1) K (rV (rP3 Xa Xa Xa)) v_2 a_2) K (rV Xa) v9 a8) K Xa v17 a16) K (oL (oL (oF Xa))) x31.1 g32 x31.2.2)}:Jn ((List (List Int))) (V×Option V×List XF))) (ZH (Fd:=FNd ({oo:=λx31=>[x31.2.2,[]],ss:=λx31=>[some v_0,some v_1,some v_2,some x31.1,some v9,some v17,x31.2.1],sc:=λg32 x31=>(SC.addO (SC.add (SC.add (SC.add (SC.add (SC.add SC.nil K (rV (rV Xa)) v_0 a_0) K (rV (rV Xa)) v_1 a_1) K (rV (rP3 Xa Xa Xa)) v_2 a_2) K (rV Xa) v9 a8) K Xa v17 a16) K (oL (oL (oF Xa))) x31.1 g32 x31.2.2)}:Jn ((List (List Int))) (V×Option V×List XF))) (JX (K:=K) (Ev.toB (YW (Xb (r:=(rV (rV Xa))) 1 rfl (λ_ s=>s.l.l.l.l.l.r)) (YC (o:=(oL (oF Xa))) 6 1 rfl rfl (λ_ s=>s.r)) (Xb (r:=(rV (rP3 Xa Xa Xa))) 2 rfl (λ_ s=>s.l.l.l.l.r))))) (Zl (K:=K) (o:=(oL (oF Xa))) (f:=λa35=>(Rs.ok (a35))) 3 0 rfl rfl rfl (λ_ s=>s.l.l.r) (Yd (o:=(oL (oF Xa))) 6 1 rfl rfl (λ_ s=>s.r)) λa33 C34=>(Xw (J:=_) (x15.2.2.1,(some v19),C34) ((g14++[a33])) rfl rfl (λ_ s=>(SC.i (SC.i (SC.i (SC.i (SC.i (SC.i SC.t s.l.l.l.l.l.l.l.r) s.l.l.l.l.l.l.r) s.l.l.l.l.l.r) s.l.l.l.l.r) s.l.l.r) s.r)))) (HY 1 (Xw (J:=_) (x15.2.2.1,(some v19),x15.2.2.2) (g14) rfl rfl (λ_ s=>(SC.i (SC.i (SC.i (SC.i (SC.i (SC.i SC.t s.l.l.l.l.l.l.r) s.l.l.l.l.l.r) s.l.l.l.l.r) s.l.l.l.r) s.l.r) s.l.l.r))))) λg37 x36=>(Xw (J:=_) ((some v17),(x36.2.1),x36.1,x36.2.2) (g37) rfl rfl (λ_ s=>(SC.i (SC.i (SC.i (SC.i (SC.i SC.t s.l.l.l.l.l.r) s.l.l.l.l.r) s.l.l.l.r) s.l.l.r) s.r)))))) λg38 x39=>(Xw (J:=_) ((some v9),(x39.1),(x39.2.1),x39.2.2.1,x39.2.2.2) (g38) rfl rfl (λ_ s=>(SC.i (SC.i (SC.i (SC.i SC.t s.l.l.l.l.r) s.l.l.l.r) s.l.l.r) s.r))))) λg41 x42=>(XC (Yd (o:=(oL (oL (oF Xa)))) 3 0 rfl rfl (λ_ s=>s.r)))))
theorem Y9:FnScope ["drawing","table","count","asked","told","arc"] ["drawing","table"] (Xk ZY):=⟨rfl,rfl,rfl,by decide+kernel,rfl,by decide+kernel,by decide+kernel⟩
theorem U9 (D:Def K mg "colourings" ZY ["drawing","table"])(g_arc_count:Fn P w K mg base 2 "arc_count" ["drawing"] (sp1 (rP2 (rV (rV Xa)) (rV (rP2 Xa Xa))) (oF Xa) Zs K))(g_refuse_too_much:Fn P w K mg base 1 "refuse_too_much" ["size","count"] (sp2 Xa Xa oU Yg K))(g_ties:Fn P w K mg base 5 "ties" ["drawing"] (sp1 (rP2 (rV (rV Xa)) (rV (rP2 Xa Xa))) (oL (oF (rP3 Xa Xa Xa))) Uy K))(g_longer_by_arc:Fn P w K mg base 2 "longer_by_arc" ["lists","table","asked"] (sp3 (rV (rV Xa)) (rV (rV Xa)) (rV (rP3 Xa Xa Xa)) (oL (oL (oF Xa))) YD K))(Z:Blt mg):Fn P w K mg base 6 "colourings" ["drawing","table"] (sp2 (rP2 (rV (rV Xa)) (rV (rP2 Xa Xa))) (rV (rV Xa)) (oL (oL (oF Xa))) YZ K):=by
 refine Ys D Y9 (λvs H Q E h=>?_) (λf cdv A outer s H vs Q E hr h=>?_)
 ·obtain⟨v_0,v_1,a_0,a_1,b,rfl,_⟩:=h;rfl
 obtain⟨v_0,v_1,a_0,a_1,b,rfl,h_0,h_1,hm,q⟩:=h
 have hu:=hu8 hr
 have hu1:=Yo hr
 refine⟨_,(Xc (Xq (i:=2) Y9.nd rfl (Or.inl rfl) (X5 g_arc_count hr (by decide) (Xd (pv 0) Xf)))
  (Xc (Ye (X5 g_refuse_too_much hr (by decide) (Xd (Xn (Xi K rfl) rfl Z.b_len PySem.boot_len (Xd (pv 1) Xf)) (Xd (pv 2) Xf))))
  (Xc (Xq (i:=3) Y9.nd rfl (Or.inl rfl) (X5 g_ties hr (by decide) (Xd (pv 0) Xf)))
  (Xc (Xq (i:=4) Y9.nd rfl (Or.inl rfl) (XZ (Xd (XZ Xf) Xf VR)))
  (Xc (X2 PassesOwn.never rfl (XH rfl Z.b_range (Xd (pv 2) Xf)) (Xo (i:=5) Y9.nd rfl (Or.inr rfl))
   (Xc (Xq (i:=4) Y9.nd rfl (Or.inl rfl) (X5 g_longer_by_arc hr (by decide) (Xd (pv 4) (Xd (pv 1) (Xd (YX (sc:=(Xk ZY)) (N0:=["drawing","table","count","asked","told","arc"]) (tns:=["tie"]) (caps:=[(5,"arc")]) rfl (XO (K:=K) rfl (pv 3)) (YI (by decide)) (λcl C s H ex E=>⟨Xo (i:=0) (show List.Nodup (["tie","arc"]:List Str) by decide+kernel) rfl (Or.inl rfl),(G5 (Xu ZG (Xn (CT K rfl rfl) rfl Z.b_max PyProof.Rows.boot_max (Xd (pv 0) Xf)) (pv 1) (XD _))),(pv 0)⟩)) Xf)))))
   Xg))
  (Xc (Xz (pv 4))
  Xg)))))),?_⟩
 refine Yw (S:=(SC.add (SC.add SC.nil K (rP2 (rV (rV Xa)) (rV (rP2 Xa Xa))) v_0 a_0) K (rV (rV Xa)) v_1 a_1)) (σ:=[some v_0,some v_1,none,none,none,none]) 1 ?_ (SC.i (SC.i SC.t h_0) h_1) hm q rfl
 unfold YZ
 exact(Xx (K:=K) (r:=Xa) 2 (EvB.sh (Ev.toB (YH (Xb (r:=(rP2 (rV (rV Xa)) (rV (rP2 Xa Xa)))) 0 rfl (λ_ s=>s.l.r))))) λa1 v2=>(IK (Ev.toB (X4 (XA (Xb (r:=(rV (rV Xa))) 1 rfl (λ_ s=>s.l.r))) (Xb (r:=Xa) 2 rfl (λ_ s=>s.r)))) (Xx (K:=K) (r:=(rV (rP3 Xa Xa Xa))) 3 (Ev.sh (YH (Xb (r:=(rP2 (rV (rV Xa)) (rV (rP2 Xa Xa)))) 0 rfl (λ_ s=>s.l.l.r)))) λa10 v11=>(XS (K:=K) (o:=(oL (oL (oF Xa)))) 4 0 (BF (QF (Qm (o:=(oF Xa))) λ_=>F5)) (Nat.le_of_ble_eq_true rfl) λa14 v15 C16=>(Yk (K:=K) (J:=({oo:=λx21=>[x21.2.2],ss:=λx21=>[some v_0,some v_1,some v2,some v11,some x21.2.1,x21.1],sc:=λg22 x21=>(SC.addO (SC.add (SC.add (SC.add (SC.add SC.nil K (rP2 (rV (rV Xa)) (rV (rP2 Xa Xa))) v_0 a_0) K (rV (rV Xa)) v_1 a_1) K Xa v2 a1) K (rV (rP3 Xa Xa Xa)) v11 a10) K (oL (oL (oF Xa))) x21.2.1 g22 x21.2.2)}:Jn ((List (List Int))) (Option V×V×List XF))) (λ_=>tg1 5) ((none),v15,C16) (a14) (Xv (Xb (r:=Xa) 2 rfl (λ_ s=>s.l.l.r))) rfl rfl (λ_ s=>(SC.i (SC.i (SC.i (SC.i (SC.i SC.t s.l.l.l.l.r) s.l.l.l.r) s.l.l.r) s.l.r) s.r)) (λg23 x24 a25 v26=>(XS (K:=K) (o:=(oL (oL (oF Xa)))) 4 0 (YW (YC (o:=(oL (oL (oF Xa)))) 4 0 rfl rfl (λ_ s=>s.l.r)) (Xb (r:=(rV (rV Xa))) 1 rfl (λ_ s=>s.l.l.l.l.r)) (Ev.toB (Ke (λ_=>tg1 0) (XI (Xl (r:=(rV (rP3 Xa Xa Xa))) 3 rfl (λ_ s=>s.l.l.r))) (λC31 a32 v33=>(Xp (K:=K) (YL (EN (HP (Xb (r:=(rP3 Xa Xa Xa)) 0 rfl (λ_ s=>s.r)))) (Xb (r:=Xa) 1 rfl (λ_ s=>s.l.r))))) (λC31 a32 v33=>(EvS.ev (Xl (r:=(rP3 Xa Xa Xa)) 0 rfl (λ_ s=>s.r))))))) (Nat.le_of_ble_eq_true rfl) λa27 v28 C29=>(Xw (J:=_) ((some v26),v28,C29) (a27) rfl rfl (λ_ s=>(SC.i (SC.i (SC.i (SC.i (SC.i SC.t s.l.l.l.l.l.l.r) s.l.l.l.l.l.r) s.l.l.l.l.r) s.l.l.l.r) s.r))))) λg41 x42=>(XC (Yd (o:=(oL (oL (oF Xa)))) 4 0 rfl rfl (λ_ s=>s.r))))))))
theorem ZX:FnScope ["one","other","images","a","b","result"] ["one","other","images","a","b"] (Xk Zu):=⟨rfl,rfl,rfl,by decide+kernel,rfl,by decide+kernel,by decide+kernel⟩
theorem JB (D:Def K mg "equation_broken" Zu ["one","other","images","a","b"])(Z:Blt mg):Fn P w K mg base 1 "equation_broken" ["one","other","images","a","b"] (sp5 (rV (rV Xa)) (rV (rV Xa)) (rV Xa) Xa Xa (oF XQ) X1 K):=by
 refine Ys D ZX (λvs H Q E h=>?_) (λf cdv A outer s H vs Q E hr h=>?_)
 ·obtain⟨v_0,v_1,v_2,v_3,v_4,a_0,a_1,a_2,a_3,a_4,b,rfl,_⟩:=h;rfl
 obtain⟨v_0,v_1,v_2,v_3,v_4,a_0,a_1,a_2,a_3,a_4,b,rfl,h_0,h_1,h_2,h_3,h_4,hm,q⟩:=h
 have hu:=hu8 hr
 have hu1:=Yo hr
 refine⟨_,(Xc (Xq (i:=5) ZX.nd rfl (Or.inl rfl) (Xy (Xj K rfl) (Xy (Xj K rfl) (pv 0) (pv 3) (λ_ _=>rfl)) (pv 4) (λ_ _=>rfl)))
  (Xc (Xz (Hm (Kk Ql (pv 5) (Xn (Xi K rfl) rfl Z.b_len PySem.boot_len (Xd (pv 2) Xf)) (XD _)) (DZ (Kk G7 (Xy (Xj K rfl) (Xy (Xj K rfl) (pv 1) (Xy (Xj K rfl) (pv 2) (pv 3) (λ_ _=>rfl)) (λ_ _=>rfl)) (Xy (Xj K rfl) (pv 2) (pv 4) (λ_ _=>rfl)) (λ_ _=>rfl)) (Xy (Xj K rfl) (pv 2) (pv 5) (λ_ _=>rfl)) (XD _)))))
  Xg)),?_⟩
 refine Yw (S:=(SC.add (SC.add (SC.add (SC.add (SC.add SC.nil K (rV (rV Xa)) v_0 a_0) K (rV (rV Xa)) v_1 a_1) K (rV Xa) v_2 a_2) K Xa v_3 a_3) K Xa v_4 a_4)) (σ:=[some v_0,some v_1,some v_2,some v_3,some v_4,none]) 0 ?_ (SC.i (SC.i (SC.i (SC.i (SC.i SC.t h_0) h_1) h_2) h_3) h_4) hm q rfl
 unfold X1
 exact(Xx (K:=K) (r:=Xa) 5 (EvB.sh (Xr (Xr (Xb (r:=(rV (rV Xa))) 0 rfl (λ_ s=>s.l.l.l.l.r)) (Xb (r:=Xa) 3 rfl (λ_ s=>s.l.r))) (Xb (r:=Xa) 4 rfl (λ_ s=>s.r)))) λa1 v2=>(XC (EvS.ev (EvB.sh (Fv (Zr (Xb (r:=Xa) 5 rfl (λ_ s=>s.r)) (XA (Xb (r:=(rV Xa)) 2 rfl (λ_ s=>s.l.l.l.r)))) (VC (Xr (Xr (Xb (r:=(rV (rV Xa))) 1 rfl (λ_ s=>s.l.l.l.l.r)) (Xr (Xb (r:=(rV Xa)) 2 rfl (λ_ s=>s.l.l.l.r)) (Xb (r:=Xa) 3 rfl (λ_ s=>s.l.l.r)))) (Xr (Xb (r:=(rV Xa)) 2 rfl (λ_ s=>s.l.l.l.r)) (Xb (r:=Xa) 4 rfl (λ_ s=>s.l.r)))) (Xr (Xb (r:=(rV Xa)) 2 rfl (λ_ s=>s.l.l.l.r)) (Xb (r:=Xa) 5 rfl (λ_ s=>s.r)))))))))
theorem ZR:FnScope ["one","other","images","a","b"] ["one","other","images"] (Xk Z8):=⟨rfl,rfl,rfl,by decide+kernel,rfl,by decide+kernel,by decide+kernel⟩
theorem VX (D:Def K mg "first_breach" Z8 ["one","other","images"])(g_equation_broken:Fn P w K mg base 1 "equation_broken" ["one","other","images","a","b"] (sp5 (rV (rV Xa)) (rV (rV Xa)) (rV Xa) Xa Xa (oF XQ) X1 K))(Z:Blt mg):Fn P w K mg base 2 "first_breach" ["one","other","images"] (sp3 (rV (rV Xa)) (rV (rV Xa)) (rV Xa) (oF (Hq (rP2 Xa Xa))) Yf K):=by
 refine Ys D ZR (λvs H Q E h=>?_) (λf cdv A outer s H vs Q E hr h=>?_)
 ·obtain⟨v_0,v_1,v_2,a_0,a_1,a_2,b,rfl,_⟩:=h;rfl
 obtain⟨v_0,v_1,v_2,a_0,a_1,a_2,b,rfl,h_0,h_1,h_2,hm,q⟩:=h
 have hu:=hu8 hr
 have hu1:=Yo hr
 refine⟨_,(Xc (X2 PassesOwn.never rfl (XH rfl Z.b_range (Xd (Xn (Xi K rfl) rfl Z.b_len PySem.boot_len (Xd (pv 2) Xf)) Xf)) (Xo (i:=3) ZR.nd rfl (Or.inl rfl))
   (Xc (X2 PassesOwn.never rfl (XH rfl Z.b_range (Xd (Xn (Xi K rfl) rfl Z.b_len PySem.boot_len (Xd (pv 2) Xf)) Xf)) (Xo (i:=4) ZR.nd rfl (Or.inl rfl))
    (Xc (Yj (QD (X5 g_equation_broken hr (by decide) (Xd (pv 0) (Xd (pv 1) (Xd (pv 2) (Xd (pv 3) (Xd (pv 4) Xf)))))))
     (Xc (Xz (ZD (Xd (pv 3) (Xd (pv 4) Xf))))
     Xg)
     Xg)
    Xg))
   Xg))
  (Xc (Xz Hn)
  Xg)),?_⟩
 refine Yw (S:=(SC.add (SC.add (SC.add SC.nil K (rV (rV Xa)) v_0 a_0) K (rV (rV Xa)) v_1 a_1) K (rV Xa) v_2 a_2)) (σ:=[some v_0,some v_1,some v_2,none,none]) 0 ?_ (SC.i (SC.i (SC.i SC.t h_0) h_1) h_2) hm q rfl
 unfold Yf
 exact(Qs (K:=K) (J:=({oo:=λx3=>[],ss:=λx3=>[some v_0,some v_1,some v_2,x3.1,x3.2],sc:=λg4 x3=>(SC.add (SC.add (SC.add SC.nil K (rV (rV Xa)) v_0 a_0) K (rV (rV Xa)) v_1 a_1) K (rV Xa) v_2 a_2)}:Jn (Unit) (Option V×Option V))) (λ_=>tg1 3) ((none),(none)) () (Xv (XA (Xb (r:=(rV Xa)) 2 rfl (λ_ s=>s.r)))) rfl rfl (λ_ s=>(SC.i (SC.i (SC.i SC.t s.l.l.r) s.l.r) s.r)) (λg5 x6 a7 v8=>(FX (K:=K) (J:=({oo:=λx11=>[],ss:=λx11=>[some v_0,some v_1,some v_2,some v8,x11],sc:=λg12 x11=>(SC.add (SC.add (SC.add (SC.add SC.nil K (rV (rV Xa)) v_0 a_0) K (rV (rV Xa)) v_1 a_1) K (rV Xa) v_2 a_2) K Xa v8 a7)}:Jn (Unit) (Option V))) (λ_=>tg1 4) ((x6.2)) () (Xv (XA (Xb (r:=(rV Xa)) 2 rfl (λ_ s=>s.l.r)))) rfl rfl (λ_ s=>(SC.i (SC.i (SC.i (SC.i SC.t s.l.l.l.r) s.l.l.r) s.l.r) s.r)) (λg13 x14 a15 v16=>(Qp (JX (K:=K) (Ev.toB (Fp (Xb (r:=(rV (rV Xa))) 0 rfl (λ_ s=>s.l.l.l.l.r)) (Xb (r:=(rV (rV Xa))) 1 rfl (λ_ s=>s.l.l.l.r)) (Xb (r:=(rV Xa)) 2 rfl (λ_ s=>s.l.l.r)) (Xb (r:=Xa) 3 rfl (λ_ s=>s.l.r)) (Xb (r:=Xa) 4 rfl (λ_ s=>s.r))))) (XC (Ec MK (EvS.ev (Jv (Xl (r:=Xa) 3 rfl (λ_ s=>s.l.r)) (Xl (r:=Xa) 4 rfl (λ_ s=>s.r)))))) (QC (Xw (J:=_) ((some v16)) () rfl rfl (λ_ s=>(SC.i (SC.i (SC.i (SC.i SC.t s.l.l.l.l.r) s.l.l.l.r) s.l.l.r) s.l.r)))))) λg29 x30=>(QC (Xw (J:=_) ((some v8),(x30)) () rfl rfl (λ_ s=>(SC.i (SC.i (SC.i SC.t s.l.l.l.r) s.l.l.r) s.l.r)))))) λg33 x34=>(XC Io))
theorem Dd:FnScope ["one","other","images"] ["one","other","images"] (Xk VA):=⟨rfl,rfl,rfl,by decide+kernel,rfl,by decide+kernel,by decide+kernel⟩
theorem De (D:Def K mg "keeping" VA ["one","other","images"])(g_first_breach:Fn P w K mg base 2 "first_breach" ["one","other","images"] (sp3 (rV (rV Xa)) (rV (rV Xa)) (rV Xa) (oF (Hq (rP2 Xa Xa))) Yf K))(g_all_colours:Fn P w K mg base 1 "all_colours" ["numbers","size"] (sp2 (rV Xa) Xa (oF XQ) Y7 K))(Z:Blt mg):Fn P w K mg base 3 "keeping" ["one","other","images"] (sp3 (rV (rV Xa)) (rV (rV Xa)) (rV Xa) (oF XQ) ZB K):=by
 refine Ys D Dd (λvs H Q E h=>?_) (λf cdv A outer s H vs Q E hr h=>?_)
 ·obtain⟨v_0,v_1,v_2,a_0,a_1,a_2,b,rfl,_⟩:=h;rfl
 obtain⟨v_0,v_1,v_2,a_0,a_1,a_2,b,rfl,h_0,h_1,h_2,hm,q⟩:=h
 have hu:=hu8 hr
 have hu1:=Yo hr
 refine⟨_,(Xc (Yj (PW.pt (GA (Xu G7 (Xn (Xi K rfl) rfl Z.b_len PySem.boot_len (Xd (pv 2) Xf)) (Xn (Xi K rfl) rfl Z.b_len PySem.boot_len (Xd (pv 0) Xf)) (XD _)) (Ux (Jr (QD (X5 g_all_colours hr (by decide) (Xd (pv 2) (Xd (Xn (Xi K rfl) rfl Z.b_len PySem.boot_len (Xd (pv 1) Xf)) Xf))))))))
   (Xc (Xz Qu)
   Xg)
   Xg)
  (Xc (Xz (Kk LP (X5 g_first_breach hr (by decide) (Xd (pv 0) (Xd (pv 1) (Xd (pv 2) Xf)))) Hn (XD _)))
  Xg)),?_⟩
 refine Yw (S:=(SC.add (SC.add (SC.add SC.nil K (rV (rV Xa)) v_0 a_0) K (rV (rV Xa)) v_1 a_1) K (rV Xa) v_2 a_2)) (σ:=[some v_0,some v_1,some v_2]) 0 ?_ (SC.i (SC.i (SC.i SC.t h_0) h_1) h_2) hm q rfl
 unfold ZB
 exact(ZM (VE (Xp (K:=K) (VC (XA (Xb (r:=(rV Xa)) 2 rfl (λ_ s=>s.r))) (XA (Xb (r:=(rV (rV Xa))) 0 rfl (λ_ s=>s.l.l.r))))) (Qy (JX (K:=K) (Ev.toB (X4 (Xb (r:=(rV Xa)) 2 rfl (λ_ s=>s.r)) (XA (Xb (r:=(rV (rV Xa))) 1 rfl (λ_ s=>s.l.r)))))))) (XC (EvS.ev (EvB.sh (Zn false)))) (XC (EvS.ev (EvB.sh (IX (tb:=tC .non) (Ev.toB (YW (Xb (r:=(rV (rV Xa))) 0 rfl (λ_ s=>s.l.l.r)) (Xb (r:=(rV (rV Xa))) 1 rfl (λ_ s=>s.l.r)) (Xb (r:=(rV Xa)) 2 rfl (λ_ s=>s.r)))))))))
theorem Kd:FnScope ["_law_script","_law_place","_law_seed","_law_cell_here"] ["_law_script","_law_place"] (Xk Ci):=⟨rfl,rfl,rfl,by decide+kernel,rfl,by decide+kernel,by decide+kernel⟩
theorem H9 (D:Def K mg "_law_cell" Ci ["_law_script","_law_place"])(Z:Blt mg):Fn P w K mg base 1 "_law_cell" ["_law_script","_law_place"] (sp2 (rL Xa) Xa (oF Xa) VN K):=by
 refine Ys D Kd (λvs H Q E h=>?_) (λf cdv A outer s H vs Q E hr h=>?_)
 ·obtain⟨v_0,v_1,a_0,a_1,b,rfl,_⟩:=h;rfl
 obtain⟨v_0,v_1,a_0,a_1,b,rfl,h_0,h_1,hm,q⟩:=h
 have hu:=hu8 hr
 have hu1:=Yo hr
 refine⟨_,(Xc (Yj (Xu Ql (pv 1) (Xn (Xi K rfl) rfl Z.b_len PySem.boot_len (Xd (pv 0) Xf)) (XD _))
   (Xc (Xz (Xy (Xj K rfl) (pv 0) (pv 1) (λ_ _=>rfl)))
   Xg)
   Xg)
  (Xc (Xq (i:=2) Kd.nd rfl (Or.inl rfl) Xh)
  (Xc (X2 PassesOwn.never rfl (XO (K:=K) rfl (JG (Js K rfl) (pv 0) VS (VP Xh))) (Xo (i:=3) Kd.nd rfl (Or.inl rfl))
   (Xc (Xq (i:=2) Kd.nd rfl (Or.inl rfl) (Xs Yb (Xs X0 (Xs X0 (Xs YF (pv 2) Xh) (Xs Yb (pv 3) Xh)) Xh) Xh))
   Xg))
  (Xc (Xz (Xs Yb (Xs X0 (pv 2) (Xs YF Xh (pv 1))) Xh))
  Xg)))),?_⟩
 refine Yw (S:=(SC.add (SC.add SC.nil K (rL Xa) v_0 a_0) K Xa v_1 a_1)) (σ:=[some v_0,some v_1,none,none]) 0 ?_ (SC.i (SC.i SC.t h_0) h_1) hm q rfl
 unfold VN
 exact(ZM (Xp (K:=K) (Zr (Xb (r:=Xa) 1 rfl (λ_ s=>s.r)) (Eu (Xb (r:=(rL Xa)) 0 rfl (λ_ s=>s.l.r))))) (XC (EvS.ev (EvB.sh (IH (Xb (r:=(rL Xa)) 0 rfl (λ_ s=>s.l.r)) (Xb (r:=Xa) 1 rfl (λ_ s=>s.r)))))) (Xx (K:=K) (r:=Xa) 2 (EvB.sh (Xe 5)) λa7 v8=>(Yk (K:=K) (J:=({oo:=λx13=>[],ss:=λx13=>[some v_0,some v_1,some x13.2,x13.1],sc:=λg14 x13=>(SC.add (SC.add (SC.add SC.nil K (rL Xa) v_0 a_0) K Xa v_1 a_1) K Xa x13.2 g14)}:Jn (Int) (Option V×V))) (λ_=>tg1 3) ((none),v8) (a7) (XI (Ev.sh (CB (Xb (r:=(rL Xa)) 0 rfl (λ_ s=>s.l.l.r)) Jw (JD (K:=K) (Xe 63))))) rfl rfl (λ_ s=>(SC.i (SC.i (SC.i SC.t s.l.l.r) s.l.r) s.r)) (λg15 x16 a17 v18=>(Xx (K:=K) (r:=Xa) 2 (EvB.sh (XU (XL (XL (X9 (Xb (r:=Xa) 2 rfl (λ_ s=>s.l.r)) (Xe 48271)) (XU (Xb (r:=Xa) 3 rfl (λ_ s=>s.r)) (Xe 1000003))) (Xe 1)) (Xe 2147483647))) λa19 v20=>(Xw (J:=_) ((some v18),v20) (a19) rfl rfl (λ_ s=>(SC.i (SC.i (SC.i SC.t s.l.l.l.l.r) s.l.l.l.r) s.r))))) λg31 x32=>(XC (EvS.ev (EvB.sh (XU (XL (Xb (r:=Xa) 2 rfl (λ_ s=>s.r)) (X9 (Xe 7919) (Xb (r:=Xa) 1 rfl (λ_ s=>s.l.r)))) (Xe 1000003))))))))
theorem Cb:FnScope ["_law_cell_here","_law_k","_law_one","_law_two"] ["_law_cell_here","_law_k"] (Xk Im):=⟨rfl,rfl,rfl,by decide+kernel,rfl,by decide+kernel,by decide+kernel⟩
theorem Mf (D:Def K mg "_law_mix" Im ["_law_cell_here","_law_k"])(Z:Blt mg):Fn P w K mg base 1 "_law_mix" ["_law_cell_here","_law_k"] (sp2 Xa Xa (oF Xa) GL K):=by
 refine Ys D Cb (λvs H Q E h=>?_) (λf cdv A outer s H vs Q E hr h=>?_)
 ·obtain⟨v_0,v_1,a_0,a_1,b,rfl,_⟩:=h;rfl
 obtain⟨v_0,v_1,a_0,a_1,b,rfl,h_0,h_1,hm,q⟩:=h
 have hu:=hu8 hr
 have hu1:=Yo hr
 refine⟨_,(Xc (Xq (i:=2) Cb.nd rfl (Or.inl rfl) (Xs Yb (Xs Cj (Xs X0 (Xs X0 (Xs Yb (pv 0) Xh) (Xs YF Xh (pv 1))) Xh) Xh) Xh))
  (Xc (Xq (i:=3) Cb.nd rfl (Or.inl rfl) (Xs Yb (Xs X0 (Xs X0 (Xs YF (pv 2) Xh) (Xs YF (Xs YF Xh (pv 1)) (pv 1))) Xh) Xh))
  (Xc (Xz (Xs QT (pv 3) Xh))
  Xg))),?_⟩
 refine Yw (S:=(SC.add (SC.add SC.nil K Xa v_0 a_0) K Xa v_1 a_1)) (σ:=[some v_0,some v_1,none,none]) 0 ?_ (SC.i (SC.i SC.t h_0) h_1) hm q rfl
 unfold GL
 exact(Xx (K:=K) (r:=Xa) 2 (EvB.sh (XU (G2 (XL (XL (XU (Xb (r:=Xa) 0 rfl (λ_ s=>s.l.r)) (Xe 2147483629)) (X9 (Xe 1013) (Xb (r:=Xa) 1 rfl (λ_ s=>s.r)))) (Xe 7919)) (Xe 3)) (Xe 2147483647))) λa1 v2=>(Xx (K:=K) (r:=Xa) 3 (EvB.sh (XU (XL (XL (X9 (Xb (r:=Xa) 2 rfl (λ_ s=>s.r)) (Xe 40699)) (X9 (X9 (Xe 3793) (Xb (r:=Xa) 1 rfl (λ_ s=>s.l.r))) (Xb (r:=Xa) 1 rfl (λ_ s=>s.l.r)))) (Xe 11)) (Xe 2147483399))) λa15 v16=>(XC (EvS.ev (EvB.sh (JU (Xb (r:=Xa) 3 rfl (λ_ s=>s.r)) (Xe 101)))))))
theorem Ud:FnScope ["_law_script","_law_place","_law_sizes","_law_cell_here","_law_left","_law_some","_law_k","_law_other"] ["_law_script","_law_place","_law_sizes"] (Xk HR):=⟨rfl,rfl,rfl,by decide+kernel,rfl,by decide+kernel,by decide+kernel⟩
theorem Mj (D:Def K mg "_law_row" HR ["_law_script","_law_place","_law_sizes"])(g_cell:Fn P w K mg base 1 "_law_cell" ["_law_script","_law_place"] (sp2 (rL Xa) Xa (oF Xa) VN K))(g_mix:Fn P w K mg base 1 "_law_mix" ["_law_cell_here","_law_k"] (sp2 Xa Xa (oF Xa) GL K))(Z:Blt mg):Fn P w K mg base 2 "_law_row" ["_law_script","_law_place","_law_sizes"] (sp3 (rL Xa) Xa (rV Xa) (oL (oF Xa)) Up K):=by
 refine Ys D Ud (λvs H Q E h=>?_) (λf cdv A outer s H vs Q E hr h=>?_)
 ·obtain⟨v_0,v_1,v_2,a_0,a_1,a_2,b,rfl,_⟩:=h;rfl
 obtain⟨v_0,v_1,v_2,a_0,a_1,a_2,b,rfl,h_0,h_1,h_2,hm,q⟩:=h
 have hu:=hu8 hr
 have hu1:=Yo hr
 refine⟨_,(Xc (Xq (i:=3) Ud.nd rfl (Or.inl rfl) (X5 g_cell hr (by decide) (Xd (pv 0) (Xd (pv 1) Xf))))
  (Xc (Xq (i:=4) Ud.nd rfl (Or.inl rfl) (pv 3))
  (Xc (Xq (i:=5) Ud.nd rfl (Or.inl rfl) (XZ Xf))
  (Xc (X2 PassesOwn.never rfl (XH rfl Z.b_range (Xd (Xn (Xi K rfl) rfl Z.b_len PySem.boot_len (Xd (pv 2) Xf)) Xf)) (Xo (i:=6) Ud.nd rfl (Or.inl rfl))
   (Xc (Yj (Xu Ql (pv 3) (Xs Cj Xh Xh) (XD _))
    (Xc (Ye (Zt PySem.F.plainAttrs_list PySem.F.slot_list_append PySem.F.type_list_append XT (pv 5) (Xd (Xs Yb (X5 g_mix hr (by decide) (Xd (pv 3) (Xd (pv 6) Xf))) (Xy (Xj K rfl) (pv 2) (pv 6) (λ_ _=>rfl))) Xf)))
    Xg)
    (Xc (Yj (Xu GR (pv 4) Xh (XD _))
     (Xc (Ye (Zt PySem.F.plainAttrs_list PySem.F.slot_list_append PySem.F.type_list_append XT (pv 5) (Xd (Xs Yb (pv 4) (Xy (Xj K rfl) (pv 2) (pv 6) (λ_ _=>rfl))) Xf)))
     (Xc (Xq (i:=4) Ud.nd rfl (Or.inl rfl) (Xs QT (pv 4) (Xy (Xj K rfl) (pv 2) (pv 6) (λ_ _=>rfl))))
     Xg))
     (Xc (Xq (i:=7) Ud.nd rfl (Or.inl rfl) (X5 g_cell hr (by decide) (Xd (pv 0) (Xd (Xs Yb (Xs X0 (Xs X0 (pv 1) Xh) (pv 6)) Xh) Xf))))
     (Xc (Ye (Zt PySem.F.plainAttrs_list PySem.F.slot_list_append PySem.F.type_list_append XT (pv 5) (Xd (Xs Yb (X5 g_mix hr (by decide) (Xd (pv 7) (Xd (pv 6) Xf))) (Xy (Xj K rfl) (pv 2) (pv 6) (λ_ _=>rfl))) Xf)))
     Xg)))
    Xg))
   Xg))
  (Xc (Xz (pv 5))
  Xg))))),?_⟩
 refine Yw (S:=(SC.add (SC.add (SC.add SC.nil K (rL Xa) v_0 a_0) K Xa v_1 a_1) K (rV Xa) v_2 a_2)) (σ:=[some v_0,some v_1,some v_2,none,none,none,none,none]) 1 ?_ (SC.i (SC.i (SC.i SC.t h_0) h_1) h_2) hm q rfl
 unfold Up
 exact(Xx (K:=K) (r:=Xa) 3 (EvB.sh (Ev.toB (X4 (Xb (r:=(rL Xa)) 0 rfl (λ_ s=>s.l.l.r)) (Xb (r:=Xa) 1 rfl (λ_ s=>s.l.r))))) λa1 v2=>(Xx (K:=K) (r:=Xa) 4 (Xl (r:=Xa) 3 rfl (λ_ s=>s.r)) λa6 v7=>(XS (K:=K) (o:=(oL (oF Xa))) 5 0 (Qm (o:=(oF Xa))) (Nat.le_of_ble_eq_true rfl) λa8 v9 C10=>(Yk (K:=K) (J:=({oo:=λx13=>[x13.2.2.2.2],ss:=λx13=>[some v_0,some v_1,some v_2,some v2,some x13.2.2.1,some x13.2.1,x13.1,x13.2.2.2.1],sc:=λg14 x13=>(SC.add (SC.addO (SC.add (SC.add (SC.add (SC.add SC.nil K (rL Xa) v_0 a_0) K Xa v_1 a_1) K (rV Xa) v_2 a_2) K Xa v2 a1) K (oL (oF Xa)) x13.2.1 g14.1 x13.2.2.2.2) K Xa x13.2.2.1 g14.2)}:Jn ((List Int)×Int) (Option V×V×V×Option V×List XF))) (λ_=>tg1 6) ((none),v9,v7,(none),C10) (a8,a6) (Xv (XA (Xb (r:=(rV Xa)) 2 rfl (λ_ s=>s.l.l.l.r)))) rfl rfl (λ_ s=>(SC.i (SC.i (SC.i (SC.i (SC.i (SC.i SC.t s.l.l.l.l.l.r) s.l.l.l.l.r) s.l.l.l.r) s.l.l.r) s.r) s.l.r)) (λg15 x16 a17 v18=>(Zd (J:=({oo:=λx24=>[x24.2.2.2],ss:=λx24=>[some v_0,some v_1,some v_2,some v2,some x24.2.1,some x24.1,some v18,x24.2.2.1],sc:=λg25 x24=>(SC.add (SC.addO (SC.add (SC.add (SC.add (SC.add (SC.add SC.nil K (rL Xa) v_0 a_0) K Xa v_1 a_1) K (rV Xa) v_2 a_2) K Xa v2 a1) K Xa v18 a17) K (oL (oF Xa)) x24.1 g25.1 x24.2.2.2) K Xa x24.2.1 g25.2)}:Jn ((List Int)×Int) (V×V×Option V×List XF))) (ZH (Fd:=FNd ({oo:=λx24=>[x24.2.2.2],ss:=λx24=>[some v_0,some v_1,some v_2,some v2,some x24.2.1,some x24.1,some v18,x24.2.2.1],sc:=λg25 x24=>(SC.add (SC.addO (SC.add (SC.add (SC.add (SC.add (SC.add SC.nil K (rL Xa) v_0 a_0) K Xa v_1 a_1) K (rV Xa) v_2 a_2) K Xa v2 a1) K Xa v18 a17) K (oL (oF Xa)) x24.1 g25.1 x24.2.2.2) K Xa x24.2.1 g25.2)}:Jn ((List Int)×Int) (V×V×Option V×List XF))) (Xp (K:=K) (Zr (Xb (r:=Xa) 3 rfl (λ_ s=>s.l.l.l.r)) (G2 (Xe 10) (Xe 18)))) (Zl (K:=K) (o:=(oF Xa)) (f:=λa35=>(Rs.ok (a35,g15.2))) 5 0 rfl rfl rfl (λ_ s=>s.l.l.r) (EvS.ev (EvB.sh (XU (Ev.toB (X4 (Xb (r:=Xa) 3 rfl (λ_ s=>s.l.l.l.r)) (Xb (r:=Xa) 6 rfl (λ_ s=>s.r)))) (Xr (Xb (r:=(rV Xa)) 2 rfl (λ_ s=>s.l.l.l.l.r)) (Xb (r:=Xa) 6 rfl (λ_ s=>s.r)))))) λa33 C34=>(Xw (J:=_) (x16.2.1,x16.2.2.1,(x16.2.2.2.1),C34) ((g15.1++[a33]),g15.2) rfl rfl (λ_ s=>(SC.i (SC.i (SC.i (SC.i (SC.i (SC.i (SC.i SC.t s.l.l.l.l.l.l.l.r) s.l.l.l.l.l.l.r) s.l.l.l.l.l.r) s.l.l.l.l.r) s.l.r) s.r) s.l.l.r)))) (Zd (J:=({oo:=λx39=>[x39.2.2.2],ss:=λx39=>[some v_0,some v_1,some v_2,some v2,some x39.1,some x39.2.2.1,some v18,x39.2.1],sc:=λg40 x39=>(SC.addO (SC.add (SC.add (SC.add (SC.add (SC.add (SC.add SC.nil K (rL Xa) v_0 a_0) K Xa v_1 a_1) K (rV Xa) v_2 a_2) K Xa v2 a1) K Xa v18 a17) K Xa x39.1 g40.1) K (oL (oF Xa)) x39.2.2.1 g40.2 x39.2.2.2)}:Jn (Int×(List Int)) (V×Option V×V×List XF))) (ZH (Fd:=FNd ({oo:=λx39=>[x39.2.2.2],ss:=λx39=>[some v_0,some v_1,some v_2,some v2,some x39.1,some x39.2.2.1,some v18,x39.2.1],sc:=λg40 x39=>(SC.addO (SC.add (SC.add (SC.add (SC.add (SC.add (SC.add SC.nil K (rL Xa) v_0 a_0) K Xa v_1 a_1) K (rV Xa) v_2 a_2) K Xa v2 a1) K Xa v18 a17) K Xa x39.1 g40.1) K (oL (oF Xa)) x39.2.2.1 g40.2 x39.2.2.2)}:Jn (Int×(List Int)) (V×Option V×V×List XF))) (Xp (K:=K) (V8 (Xb (r:=Xa) 4 rfl (λ_ s=>s.l.r)) (Xe 0))) (Zl (K:=K) (o:=(oF Xa)) (f:=λa47=>(Rs.bind (Rs.bind (Rs.ok g15.2) λx52=>(Rs.bind (Rs.bind (Rs.ok a_2) λx50=>(Rs.bind (Rs.ok a17) λx51=>(atR x50 x51))) λx53=>(B8 x52 x53))) λa48=>(Rs.ok (a48,a47)))) 5 0 rfl rfl rfl (λ_ s=>s.l.l.r) (EvS.ev (EvB.sh (XU (Xb (r:=Xa) 4 rfl (λ_ s=>s.l.r)) (Xr (Xb (r:=(rV Xa)) 2 rfl (λ_ s=>s.l.l.l.l.r)) (Xb (r:=Xa) 6 rfl (λ_ s=>s.r)))))) λa45 C46=>(Xx (K:=K) (r:=Xa) 4 (EvB.sh (JU (Xb (r:=Xa) 4 rfl (λ_ s=>s.l.l.r)) (Xr (Xb (r:=(rV Xa)) 2 rfl (λ_ s=>s.l.l.l.l.l.r)) (Xb (r:=Xa) 6 rfl (λ_ s=>s.l.r))))) λa48 v49=>(Xw (J:=_) (v49,(x16.2.2.2.1),x16.2.1,C46) (a48,(g15.1++[a45])) rfl rfl (λ_ s=>(SC.i (SC.i (SC.i (SC.i (SC.i (SC.i (SC.i SC.t s.l.l.l.l.l.l.l.l.r) s.l.l.l.l.l.l.l.r) s.l.l.l.l.l.l.r) s.l.l.l.l.l.r) s.l.l.r) s.r) s.l.r))))) (Xx (K:=K) (r:=Xa) 7 (EvB.sh (Ev.toB (X4 (Xb (r:=(rL Xa)) 0 rfl (λ_ s=>s.l.l.l.l.l.l.r)) (XU (XL (XL (Xb (r:=Xa) 1 rfl (λ_ s=>s.l.l.l.l.l.r)) (Xe 1)) (Xb (r:=Xa) 6 rfl (λ_ s=>s.r))) (Xe 63))))) λa54 v55=>(Zl (K:=K) (o:=(oF Xa)) (f:=λa74=>(Rs.ok (g15.2,a74))) 5 0 rfl rfl rfl (λ_ s=>s.l.l.l.r) (EvS.ev (EvB.sh (XU (Ev.toB (X4 (Xb (r:=Xa) 7 rfl (λ_ s=>s.r)) (Xb (r:=Xa) 6 rfl (λ_ s=>s.l.r)))) (Xr (Xb (r:=(rV Xa)) 2 rfl (λ_ s=>s.l.l.l.l.l.r)) (Xb (r:=Xa) 6 rfl (λ_ s=>s.l.r)))))) λa72 C73=>(Xw (J:=_) (x16.2.2.1,(some v55),x16.2.1,C73) (g15.2,(g15.1++[a72])) rfl rfl (λ_ s=>(SC.i (SC.i (SC.i (SC.i (SC.i (SC.i (SC.i SC.t s.l.l.l.l.l.l.l.l.r) s.l.l.l.l.l.l.l.r) s.l.l.l.l.l.l.r) s.l.l.l.l.l.r) s.l.l.r) s.l.l.l.r) s.r)))))) λg76 x75=>(Xw (J:=_) (x75.2.2.1,x75.1,(x75.2.1),x75.2.2.2) (g76.2,g76.1) rfl rfl (λ_ s=>(SC.i (SC.i (SC.i (SC.i (SC.i (SC.i (SC.i SC.t s.l.l.l.l.l.l.r) s.l.l.l.l.l.r) s.l.l.l.l.r) s.l.l.l.r) s.l.l.r) s.r) s.l.r))))) λg78 x77=>(Xw (J:=_) ((some v18),x77.1,x77.2.1,(x77.2.2.1),x77.2.2.2) (g78.1,g78.2) rfl rfl (λ_ s=>(SC.i (SC.i (SC.i (SC.i (SC.i (SC.i SC.t s.l.l.l.l.l.l.r) s.l.l.l.l.l.r) s.l.l.l.l.r) s.l.l.l.r) s.l.r) s.r))))) λg79 x80=>(XC (Yd (o:=(oL (oF Xa))) 5 0 rfl rfl (λ_ s=>s.l.r)))))))
theorem Vu:FnScope ["_law_names","_law_some","_law_left","_law_found","_law_k"] ["_law_names","_law_some"] (Xk GC):=⟨rfl,rfl,rfl,by decide+kernel,rfl,by decide+kernel,by decide+kernel⟩
theorem EH (D:Def K mg "_law_mixed" GC ["_law_names","_law_some"])(Z:Blt mg):Fn P w K mg base 1 "_law_mixed" ["_law_names","_law_some"] (sp2 (rV Xa) (rV Xa) (oL (oF Xa)) J0 K):=by
 refine Ys D Vu (λvs H Q E h=>?_) (λf cdv A outer s H vs Q E hr h=>?_)
 ·obtain⟨v_0,v_1,a_0,a_1,b,rfl,_⟩:=h;rfl
 obtain⟨v_0,v_1,a_0,a_1,b,rfl,h_0,h_1,hm,q⟩:=h
 have hu:=hu8 hr
 have hu1:=Yo hr
 refine⟨_,(Xc (Xq (i:=2) Vu.nd rfl (Or.inl rfl) (YO (X6 K rfl) rfl Z.b_list PyProof.Rows.boot_list (Xd (pv 0) Xf)))
  (Xc (Xq (i:=3) Vu.nd rfl (Or.inl rfl) (XZ Xf))
  (Xc (X2 PassesOwn.never rfl (XH rfl Z.b_range (Xd (Xn (Xi K rfl) rfl Z.b_len PySem.boot_len (Xd (pv 0) Xf)) Xf)) (Xo (i:=4) Vu.nd rfl (Or.inl rfl))
   (Xc (Ye (Zt PySem.F.plainAttrs_list PySem.F.slot_list_append PySem.F.type_list_append XT (pv 3) (Xd (Zt PySem.F.plainAttrs_list PySem.F.slot_list_pop PySem.F.type_list_pop U3 (pv 2) (Xd (Xs Yb (Xy (Xj K rfl) (pv 1) (Xs X0 (Xs YF Xh (pv 4)) Xh) (λ_ _=>rfl)) (Xn (Xi K rfl) rfl Z.b_len PySem.boot_len (Xd (pv 2) Xf))) Xf)) Xf)))
   Xg))
  (Xc (Xz (pv 3))
  Xg)))),?_⟩
 refine Yw (S:=(SC.add (SC.add SC.nil K (rV Xa) v_0 a_0) K (rV Xa) v_1 a_1)) (σ:=[some v_0,some v_1,none,none,none]) 2 ?_ (SC.i (SC.i SC.t h_0) h_1) hm q rfl
 unfold J0
 exact(XS (K:=K) (o:=(oL (oF Xa))) 2 1 (Z7 (EvS.ls (Xl (r:=(rV Xa)) 0 rfl (λ_ s=>s.l.r)))) (Nat.le_of_ble_eq_true rfl) λa1 v2 C3=>(XS (K:=K) (o:=(oL (oF Xa))) 3 0 (Qm (o:=(oF Xa))) (Nat.le_of_ble_eq_true rfl) λa5 v6 C7=>(Yk (K:=K) (J:=({oo:=λx10=>[x10.2.2.2.1,x10.2.2.2.2],ss:=λx10=>[some v_0,some v_1,some x10.2.2.1,some x10.2.1,x10.1],sc:=λg11 x10=>(SC.addO (SC.addO (SC.add (SC.add SC.nil K (rV Xa) v_0 a_0) K (rV Xa) v_1 a_1) K (oL (oF Xa)) x10.2.1 g11.1 x10.2.2.2.1) K (oL (oF Xa)) x10.2.2.1 g11.2 x10.2.2.2.2)}:Jn ((List Int)×(List Int)) (Option V×V×V×List XF×List XF))) (λ_=>tg1 4) ((none),v6,v2,C7,C3) (a5,a1) (Xv (XA (Xb (r:=(rV Xa)) 0 rfl (λ_ s=>s.l.l.l.r)))) rfl rfl (λ_ s=>(SC.i (SC.i (SC.i (SC.i SC.t s.l.l.l.r) s.l.l.r) s.r) s.l.r)) (λg12 x13 a14 v15=>(G9 (K:=K) (r:=Xa) (f:=λa26 a27=>(Rs.ok (a27,a26))) 2 1 3 0 (by decide) rfl rfl (λ_ s=>s.l.r) rfl rfl (λ_ s=>s.l.l.r) (XU (Xr (Xb (r:=(rV Xa)) 1 rfl (λ_ s=>s.l.l.l.r)) (XL (X9 (Xe 8) (Xb (r:=Xa) 4 rfl (λ_ s=>s.r))) (Xe 9))) (XA (YC (o:=(oL (oF Xa))) 2 1 rfl rfl (λ_ s=>s.l.r)))) λa25 a26 C28 C29=>(Xw (J:=_) ((some v15),x13.2.1,x13.2.2.1,C29,C28) ((g12.1++[a25]),a26) rfl rfl (λ_ s=>(SC.i (SC.i (SC.i (SC.i SC.t s.l.l.l.l.l.l.r) s.l.l.l.l.l.r) s.r) s.l.r))))) λg32 x33=>(XC (Yd (o:=(oL (oF Xa))) 3 0 rfl rfl (λ_ s=>s.l.r))))))
theorem Vy:FnScope ["_law_names","_law_some","_law_rings","_law_left","_law_one","_law_walks","_law_k","_law_at","_law_passage"] ["_law_names","_law_some","_law_rings"] (Xk Es):=⟨rfl,rfl,rfl,by decide+kernel,rfl,by decide+kernel,by decide+kernel⟩
theorem Mu (D:Def K mg "_law_any" Es ["_law_names","_law_some","_law_rings"])(Z:Blt mg):Fn P w K mg base 1 "_law_any" ["_law_names","_law_some","_law_rings"] (sp3 (rV Xa) (rV Xa) Xa (oL (oL (oF Xa))) Dg K):=by
 refine Ys D Vy (λvs H Q E h=>?_) (λf cdv A outer s H vs Q E hr h=>?_)
 ·obtain⟨v_0,v_1,v_2,a_0,a_1,a_2,b,rfl,_⟩:=h;rfl
 obtain⟨v_0,v_1,v_2,a_0,a_1,a_2,b,rfl,h_0,h_1,h_2,hm,q⟩:=h
 have hu:=hu8 hr
 have hu1:=Yo hr
 refine⟨_,(Xc (Xq (i:=3) Vy.nd rfl (Or.inl rfl) (XZ Xf))
  (Xc (X2 PassesOwn.never rfl (XO (K:=K) rfl (pv 0)) (Xo (i:=4) Vy.nd rfl (Or.inl rfl))
   (Xc (Ye (Zt PySem.F.plainAttrs_list PySem.F.slot_list_extend PySem.F.type_list_extend BD (pv 3) (Xd (XZ (Xd (pv 4) (Xd (U7 Jx (pv 4)) Xf))) Xf VR)))
   Xg))
  (Xc (JT 5 (Xk Es) ["_law_names","_law_some","_law_rings","_law_left","_law_one","_law_walks","_law_k","_law_at","_law_passage"] ["_law_k"] [] rfl Vy.nd rfl rfl (XH rfl Z.b_range (Xd (pv 2) Xf)) (YI (by decide)) (λcl C s H ex E=>⟨Xo (i:=0) (show List.Nodup (["_law_k"]:List Str) by decide+kernel) rfl (Or.inl rfl),Y0,(XZ Xf)⟩))
  (Xc (X2 PassesOwn.never rfl (XH rfl Z.b_range (Xd (Xs YF Xh (Xn (Xi K rfl) rfl Z.b_len PySem.boot_len (Xd (pv 0) Xf))) Xf)) (Xo (i:=6) Vy.nd rfl (Or.inl rfl))
   (Xc (Xq (i:=7) Vy.nd rfl (Or.inl rfl) (Xs X0 (Xs YF Xh (pv 6)) Xh))
   (Xc (Xq (i:=8) Vy.nd rfl (Or.inl rfl) (Zt PySem.F.plainAttrs_list PySem.F.slot_list_pop PySem.F.type_list_pop U3 (pv 3) (Xd (Xs Yb (Xy (Xj K rfl) (pv 1) (pv 7) (λ_ _=>rfl)) (Xn (Xi K rfl) rfl Z.b_len PySem.boot_len (Xd (pv 3) Xf))) Xf)))
   (Xc (Ye (Zt PySem.F.plainAttrs_list PySem.F.slot_list_append PySem.F.type_list_append XT (Xy (Xj K rfl) (pv 5) (Xs Yb (Xy (Xj K rfl) (pv 1) (Xs X0 (pv 7) Xh) (λ_ _=>rfl)) (pv 2)) (λ_ _=>rfl)) (Xd (pv 8) Xf)))
   Xg))))
  (Xc (Xz (pv 5))
  Xg))))),?_⟩
 refine Yw (S:=(SC.add (SC.add (SC.add SC.nil K (rV Xa) v_0 a_0) K (rV Xa) v_1 a_1) K Xa v_2 a_2)) (σ:=[some v_0,some v_1,some v_2,none,none,none,none,none,none]) 2 ?_ (SC.i (SC.i (SC.i SC.t h_0) h_1) h_2) hm q rfl
 unfold Dg
 exact(XS (K:=K) (o:=(oL (oF Xa))) 3 1 (Qm (o:=(oF Xa))) (Nat.le_of_ble_eq_true rfl) λa1 v2 C3=>(Yk (K:=K) (J:=({oo:=λx4=>[[],x4.2.2],ss:=λx4=>[some v_0,some v_1,some v_2,some x4.2.1,x4.1,none,none,none,none],sc:=λg5 x4=>(SC.addO (SC.add (SC.add (SC.add SC.nil K (rV Xa) v_0 a_0) K (rV Xa) v_1 a_1) K Xa v_2 a_2) K (oL (oF Xa)) x4.2.1 g5 x4.2.2)}:Jn ((List Int)) (Option V×V×List XF))) (λ_=>tg1 4) ((none),v2,C3) (a1) (XI (Xl (r:=(rV Xa)) 0 rfl (λ_ s=>s.l.l.l.r))) rfl rfl (λ_ s=>(SC.i (SC.i (SC.i (SC.i SC.t s.l.l.l.r) s.l.l.r) s.l.r) s.r)) (λg6 x7 a8 v9=>(L6 (K:=K) (o:=(oF Xa)) (f:=λa18=>(Rs.ok (a18))) 3 1 rfl rfl rfl (λ_ s=>s.l.r) (Ze (Xt (Xl (r:=Xa) 4 rfl (λ_ s=>s.r)) (Xt (EvB.sh (Qq (Xb (r:=Xa) 4 rfl (λ_ s=>s.r)))) Yt))) λa16 C17=>(Xw (J:=_) ((some v9),x7.2.1,C17) ((g6++a16)) rfl rfl (λ_ s=>(SC.i (SC.i (SC.i (SC.i SC.t s.l.l.l.l.l.r) s.l.l.l.l.r) s.l.l.l.r) s.r))))) λg19 x20=>(XS (K:=K) (o:=(oL (oL (oF Xa)))) 5 0 (Y3 (λ_=>tg1 0) (Xv (Xb (r:=Xa) 2 rfl (λ_ s=>s.l.r))) (λC25 a26 v27=>(Qm (o:=(oF Xa))))) (Nat.le_of_ble_eq_true rfl) λa21 v22 C23=>(Yk (K:=K) (J:=({oo:=λx33=>[x33.2.2.2.2.2.2,x33.2.2.2.2.2.1],ss:=λx33=>[some v_0,some v_1,some v_2,some x33.2.2.2.1,x20.1,some x33.2.2.2.2.1,x33.1,x33.2.1,x33.2.2.1],sc:=λg34 x33=>(SC.addO (SC.addO (SC.add (SC.add (SC.add SC.nil K (rV Xa) v_0 a_0) K (rV Xa) v_1 a_1) K Xa v_2 a_2) K (oL (oF Xa)) x33.2.2.2.1 g34.1 x33.2.2.2.2.2.1) K (oL (oL (oF Xa))) x33.2.2.2.2.1 g34.2 x33.2.2.2.2.2.2)}:Jn ((List Int)×(List (List Int))) (Option V×Option V×Option V×V×V×List XF×List XF))) (λ_=>tg1 6) ((none),(none),(none),x20.2.1,v22,x20.2.2,C23) (g19,a21) (Xv (X9 (Xe 2) (XA (Xb (r:=(rV Xa)) 0 rfl (λ_ s=>s.l.l.l.l.r))))) rfl rfl (λ_ s=>(SC.i (SC.i (SC.i (SC.i (SC.i SC.t s.l.l.l.l.r) s.l.l.l.r) s.l.l.r) s.l.r) s.r)) (λg35 x36 a37 v38=>(Xx (K:=K) (r:=Xa) 7 (EvB.sh (XL (X9 (Xe 4) (Xb (r:=Xa) 6 rfl (λ_ s=>s.r))) (Xe 5))) λa39 v40=>(LQ (K:=K) (r:=Xa) (f:=(λp55=>(λa50 a51=>(Rs.bind (Rs.bind (Rs.bind (Rs.ok a_1) λx58=>(Rs.bind (Rs.bind (Rs.ok a39) λx56=>(Rs.bind (Rs.ok (1:Int)) λx57=>(Rs.ok (x56+x57)))) λx59=>(atR x58 x59))) λx60=>(Rs.bind (Rs.ok a_2) λx61=>(Qg x60 x61))) λx63=>(Rs.bind (atR g35.2 x63) λx64=>(Rs.bind (Rs.ok a50) λx62=>(chk (x64.length<sizeLine) (Rs.bind (JY g35.2 x63 (x64++[x62])) λa65=>(Rs.ok (a51,a65)))))))) p55.1 p55.2)) 8 3 1 rfl rfl (λ_ s=>s.l.l.l.r) (XU (Xr (Xb (r:=(rV Xa)) 1 rfl (λ_ s=>s.l.l.l.l.l.r)) (Xb (r:=Xa) 7 rfl (λ_ s=>s.r))) (XA (YC (o:=(oL (oF Xa))) 3 1 rfl rfl (λ_ s=>s.l.l.l.r)))) λa50 a51 v52 C53=>(En (K:=K) (r:=Xa) 5 0 rfl rfl (λ_ s=>s.l.l.l.l.r) (Xl (r:=Xa) 8 rfl (λ_ s=>s.l.r)) (XU (Xr (Xb (r:=(rV Xa)) 1 rfl (λ_ s=>s.l.l.l.l.l.l.l.r)) (XL (Xb (r:=Xa) 7 rfl (λ_ s=>s.l.l.r)) (Xe 1))) (Xb (r:=Xa) 2 rfl (λ_ s=>s.l.l.l.l.l.l.r))) λa65 C66=>(Xw (J:=_) ((some v38),(some v40),(some v52),x36.2.2.2.1,x36.2.2.2.2.1,C53,C66) (a51,a65) rfl rfl (λ_ s=>(SC.i (SC.i (SC.i (SC.i (SC.i SC.t s.l.l.l.l.l.l.l.l.l.r) s.l.l.l.l.l.l.l.l.r) s.l.l.l.l.l.l.l.r) s.l.r) s.r))))))) λg67 x68=>(XC (Yd (o:=(oL (oL (oF Xa)))) 5 0 rfl rfl (λ_ s=>s.r)))))))
theorem YQ:FnScope ["_law_names","_law_signs","_law_some","_law_strands","_law_seen","_law_walks","_law_start","_law_walk","_law_at","_law_k","_law_low"] ["_law_names","_law_signs","_law_some","_law_strands"] (Xk VO):=⟨rfl,rfl,rfl,by decide+kernel,rfl,by decide+kernel,by decide+kernel⟩
theorem DL (D:Def K mg "_law_plaited" VO ["_law_names","_law_signs","_law_some","_law_strands"])(Z:Blt mg):Fn P w K mg base 1 "_law_plaited" ["_law_names","_law_signs","_law_some","_law_strands"] (sp4 (rV Xa) (rD Xa) (rV Xa) Xa (oL (oL (oF Xa))) Qc K):=by
 refine Ys D YQ (λvs H Q E h=>?_) (λf cdv A outer s H vs Q E hr h=>?_)
 ·obtain⟨v_0,v_1,v_2,v_3,a_0,a_1,a_2,a_3,b,rfl,_⟩:=h;rfl
 obtain⟨v_0,v_1,v_2,v_3,a_0,a_1,a_2,a_3,b,rfl,h_0,h_1,h_2,h_3,hm,q⟩:=h
 have hu:=hu8 hr
 have hu1:=Yo hr
 refine⟨_,(Xc (Xq (i:=4) YQ.nd rfl (Or.inl rfl) (Xs J6 (XZ (Xd Qu Xf)) (pv 3)))
  (Xc (Xq (i:=5) YQ.nd rfl (Or.inl rfl) (XZ Xf))
  (Xc (X2 PassesOwn.never rfl (XH rfl Z.b_range (Xd (pv 3) Xf)) (Xo (i:=6) YQ.nd rfl (Or.inl rfl))
   (Xc (Yj (Jr (QD (Xy (Xj K rfl) (pv 4) (pv 6) (λ_ _=>rfl))))
    (Xc (Xq (i:=7) YQ.nd rfl (Or.inl rfl) (XZ Xf))
    (Xc (Xq (i:=8) YQ.nd rfl (Or.inl rfl) (pv 6))
    (Xc (Vp PassesOwn.never (Jr (QD (Xy (Xj K rfl) (pv 4) (pv 8) (λ_ _=>rfl))))
     (Xc (Vc Qu (FH (pv 4) (pv 8) Vq))
     (Xc (X2 PassesOwn.never rfl (XH rfl Z.b_range (Xd (Xn (Xi K rfl) rfl Z.b_len PySem.boot_len (Xd (pv 0) Xf)) Xf)) (Xo (i:=9) YQ.nd rfl (Or.inl rfl))
      (Xc (Xq (i:=10) YQ.nd rfl (Or.inl rfl) (Xs Yb (Xy (Xj K rfl) (pv 2) (Xs X0 (Xs YF Xh (pv 9)) Xh) (λ_ _=>rfl)) (Xs ZZ (pv 3) Xh)))
      (Xc (Yj (Xu ZG (pv 8) (pv 10) (XD _))
       (Xc (Ye (Zt PySem.F.plainAttrs_list PySem.F.slot_list_append PySem.F.type_list_append XT (pv 7) (Xd (Xs YF (Xy (Xj K rfl) (pv 0) (pv 9) (λ_ _=>rfl)) (GX hu1 (pv 1) (Xy (Xj K rfl) (pv 0) (pv 9) (λ_ _=>rfl)) (λ_ _=>rfl))) Xf)))
       (Xc (Xq (i:=8) YQ.nd rfl (Or.inl rfl) (Xs X0 (pv 10) Xh))
       Xg))
       (Xc (Yj (Xu ZG (pv 8) (Xs X0 (pv 10) Xh) (XD _))
        (Xc (Ye (Zt PySem.F.plainAttrs_list PySem.F.slot_list_append PySem.F.type_list_append XT (pv 7) (Xd (Xs YF (U7 Jx (Xy (Xj K rfl) (pv 0) (pv 9) (λ_ _=>rfl))) (GX hu1 (pv 1) (Xy (Xj K rfl) (pv 0) (pv 9) (λ_ _=>rfl)) (λ_ _=>rfl))) Xf)))
        (Xc (Xq (i:=8) YQ.nd rfl (Or.inl rfl) (pv 10))
        Xg))
        Xg)
       Xg))
      Xg)))
     Xg)))
    (Xc (Ye (Zt PySem.F.plainAttrs_list PySem.F.slot_list_append PySem.F.type_list_append XT (pv 5) (Xd (pv 7) Xf)))
    Xg))))
    Xg)
   Xg))
  (Xc (Xz (pv 5))
  Xg)))),?_⟩
 refine Yw (S:=(SC.add (SC.add (SC.add (SC.add SC.nil K (rV Xa) v_0 a_0) K (rD Xa) v_1 a_1) K (rV Xa) v_2 a_2) K Xa v_3 a_3)) (σ:=[some v_0,some v_1,some v_2,some v_3,none,none,none,none,none,none,none]) 3 ?_ (SC.i (SC.i (SC.i (SC.i SC.t h_0) h_1) h_2) h_3) hm q rfl
 unfold Qc
 exact(XS (K:=K) (o:=(oL (oF XQ))) 4 1 (J5 (Ev.ls (Ze (Xt (EvB.sh (Zn false)) Yt))) (Xb (r:=Xa) 3 rfl (λ_ s=>s.r))) (Nat.le_of_ble_eq_true rfl) λa1 v2 C3=>(XS (K:=K) (o:=(oL (oL (oF Xa)))) 5 0 (Qm (o:=(oL (oF Xa)))) (Nat.le_of_ble_eq_true rfl) λa9 v10 C11=>(Yk (K:=K) (J:=({oo:=λx13=>[x13.2.2.2.2.2.2.2.2,x13.2.2.2.2.2.2.2.1,[]],ss:=λx13=>[some v_0,some v_1,some v_2,some v_3,some x13.2.2.2.1,some x13.2.2.2.2.2.1,x13.1,x13.2.1,x13.2.2.1,x13.2.2.2.2.1,x13.2.2.2.2.2.2.1],sc:=λg14 x13=>(SC.addO (SC.addO (SC.add (SC.add (SC.add (SC.add SC.nil K (rV Xa) v_0 a_0) K (rD Xa) v_1 a_1) K (rV Xa) v_2 a_2) K Xa v_3 a_3) K (oL (oF XQ)) x13.2.2.2.1 g14.1 x13.2.2.2.2.2.2.2.1) K (oL (oL (oF Xa))) x13.2.2.2.2.2.1 g14.2 x13.2.2.2.2.2.2.2.2)}:Jn ((List Bool)×(List (List Int))) (Option V×Option V×Option V×V×Option V×V×Option V×List XF×List XF))) (λ_=>tg1 6) ((none),(none),(none),v2,(none),v10,(none),C3,C11) (a1,a9) (Xv (Xb (r:=Xa) 3 rfl (λ_ s=>s.l.l.r))) rfl rfl (λ_ s=>(SC.i (SC.i (SC.i (SC.i (SC.i (SC.i SC.t s.l.l.l.l.l.r) s.l.l.l.l.r) s.l.l.l.r) s.l.l.r) s.l.r) s.r)) (λg15 x16 a17 v18=>(Zd (J:=({oo:=λx23=>[x23.2.2.2.2.2.2.2,x23.2.2.2.2.2.2.1,[]],ss:=λx23=>[some v_0,some v_1,some v_2,some v_3,some x23.2.2.1,some x23.2.2.2.2.1,some v18,x23.1,x23.2.1,x23.2.2.2.1,x23.2.2.2.2.2.1],sc:=λg24 x23=>(SC.addO (SC.addO (SC.add (SC.add (SC.add (SC.add (SC.add SC.nil K (rV Xa) v_0 a_0) K (rD Xa) v_1 a_1) K (rV Xa) v_2 a_2) K Xa v_3 a_3) K Xa v18 a17) K (oL (oF XQ)) x23.2.2.1 g24.1 x23.2.2.2.2.2.2.1) K (oL (oL (oF Xa))) x23.2.2.2.2.1 g24.2 x23.2.2.2.2.2.2.2)}:Jn ((List Bool)×(List (List Int))) (Option V×Option V×V×Option V×V×Option V×List XF×List XF))) (ZH (Fd:=FNd ({oo:=λx23=>[x23.2.2.2.2.2.2.2,x23.2.2.2.2.2.2.1,[]],ss:=λx23=>[some v_0,some v_1,some v_2,some v_3,some x23.2.2.1,some x23.2.2.2.2.1,some v18,x23.1,x23.2.1,x23.2.2.2.1,x23.2.2.2.2.2.1],sc:=λg24 x23=>(SC.addO (SC.addO (SC.add (SC.add (SC.add (SC.add (SC.add SC.nil K (rV Xa) v_0 a_0) K (rD Xa) v_1 a_1) K (rV Xa) v_2 a_2) K Xa v_3 a_3) K Xa v18 a17) K (oL (oF XQ)) x23.2.2.1 g24.1 x23.2.2.2.2.2.2.1) K (oL (oL (oF Xa))) x23.2.2.2.2.1 g24.2 x23.2.2.2.2.2.2.2)}:Jn ((List Bool)×(List (List Int))) (Option V×Option V×V×Option V×V×Option V×List XF×List XF))) (Qy (JX (K:=K) (Xr (YC (o:=(oL (oF XQ))) 4 1 rfl rfl (λ_ s=>s.l.l.r)) (Xb (r:=Xa) 6 rfl (λ_ s=>s.r))))) (XS (K:=K) (o:=(oL (oF Xa))) 7 2 (Qm (o:=(oF Xa))) (Nat.le_of_ble_eq_true rfl) λa25 v26 C27=>(Xx (K:=K) (r:=Xa) 8 (Xl (r:=Xa) 6 rfl (λ_ s=>s.l.r)) λa28 v29=>(Vm (J:=({oo:=λx30=>[x16.2.2.2.2.2.2.2.2,x30.2.2.2.2.2.1,x30.2.2.2.2.2.2],ss:=λx30=>[some v_0,some v_1,some v_2,some v_3,some x30.1,some x16.2.2.2.2.2.1,some v18,some x30.2.2.2.2.1,some x30.2.2.2.1,x30.2.1,x30.2.2.1],sc:=λg31 x30=>(SC.addO (SC.add (SC.addO (SC.add (SC.addO (SC.add (SC.add (SC.add (SC.add SC.nil K (rV Xa) v_0 a_0) K (rD Xa) v_1 a_1) K (rV Xa) v_2 a_2) K Xa v_3 a_3) K (oL (oL (oF Xa))) x16.2.2.2.2.2.1 g15.2 x16.2.2.2.2.2.2.2.2) K Xa v18 a17) K (oL (oF XQ)) x30.1 g31.1 x30.2.2.2.2.2.1) K Xa x30.2.2.2.1 g31.2.1) K (oL (oF Xa)) x30.2.2.2.2.1 g31.2.2 x30.2.2.2.2.2.2)}:Jn ((List Bool)×Int×(List Int)) (V×Option V×Option V×V×V×List XF×List XF))) (a_3.natAbs+2) (x16.2.2.2.1,(x16.2.2.2.2.1),(x16.2.2.2.2.2.2.1),v29,v26,x16.2.2.2.2.2.2.2.1,C27) (g15.1,a28,a25) rfl rfl (λ_ s=>(SC.i (SC.i (SC.i (SC.i (SC.i (SC.i (SC.i (SC.i (SC.i SC.t s.l.l.l.l.l.l.l.l.r) s.l.l.l.l.l.l.l.r) s.l.l.l.l.l.l.r) s.l.l.l.l.l.r) s.l.l.l.r) s.l.l.r) s.l.l.l.l.r) s.r) s.l.r)) (λg32 x33=>(Qy (JX (K:=K) (Xr (YC (o:=(oL (oF XQ))) 4 1 rfl rfl (λ_ s=>s.l.l.r)) (Xb (r:=Xa) 8 rfl (λ_ s=>s.l.r)))))) (λg32 x33=>(Kc (K:=K) (o:=(oF XQ)) 4 1 rfl rfl (λ_ s=>s.l.l.r) (EvS.ev (EvB.sh (Zn true))) (λ_=>(Xb (r:=Xa) 8 rfl (λ_ s=>s.l.r))) λa39 C40=>(Yk (K:=K) (J:=({oo:=λx43=>[x16.2.2.2.2.2.2.2.2,C40,x43.2.2.2.2],ss:=λx43=>[some v_0,some v_1,some v_2,some v_3,some x33.1,some x16.2.2.2.2.2.1,some v18,some x43.2.2.2.1,some x43.2.2.1,x43.1,x43.2.1],sc:=λg44 x43=>(SC.addO (SC.add (SC.addO (SC.add (SC.addO (SC.add (SC.add (SC.add (SC.add SC.nil K (rV Xa) v_0 a_0) K (rD Xa) v_1 a_1) K (rV Xa) v_2 a_2) K Xa v_3 a_3) K (oL (oL (oF Xa))) x16.2.2.2.2.2.1 g15.2 x16.2.2.2.2.2.2.2.2) K Xa v18 a17) K (oL (oF XQ)) x33.1 a39 C40) K Xa x43.2.2.1 g44.1) K (oL (oF Xa)) x43.2.2.2.1 g44.2 x43.2.2.2.2)}:Jn (Int×(List Int)) (Option V×Option V×V×V×List XF))) (λ_=>tg1 9) ((x33.2.1),(x33.2.2.1),x33.2.2.2.1,x33.2.2.2.2.1,x33.2.2.2.2.2.2) (g32.2.1,g32.2.2) (Xv (XA (Xb (r:=(rV Xa)) 0 rfl (λ_ s=>s.l.l.l.l.l.l.l.l.l.r)))) rfl rfl (λ_ s=>(SC.i (SC.i (SC.i (SC.i (SC.i (SC.i (SC.i (SC.i (SC.i SC.t s.l.l.l.l.l.l.l.l.l.r) s.l.l.l.l.l.l.l.l.r) s.l.l.l.l.l.l.l.r) s.l.l.l.l.l.l.r) s.l.l.l.l.l.r) s.l.l.l.l.r) s.r) s.l.l.r) s.l.r)) (λg45 x46 a47 v48=>(Xx (K:=K) (r:=Xa) 10 (EvB.sh (XU (Xr (Xb (r:=(rV Xa)) 2 rfl (λ_ s=>s.l.l.l.l.l.l.l.r)) (XL (X9 (Xe 8) (Xb (r:=Xa) 9 rfl (λ_ s=>s.r))) (Xe 10))) (Zq (Xb (r:=Xa) 3 rfl (λ_ s=>s.l.l.l.l.l.l.r)) (Xe 1)))) λa49 v50=>(Zd (J:=({oo:=λx64=>[x16.2.2.2.2.2.2.2.2,C40,x64.2.2],ss:=λx64=>[some v_0,some v_1,some v_2,some v_3,some x33.1,some x16.2.2.2.2.2.1,some v18,some x64.2.1,some x64.1,some v48,some v50],sc:=λg65 x64=>(SC.addO (SC.add (SC.add (SC.add (SC.addO (SC.add (SC.addO (SC.add (SC.add (SC.add (SC.add SC.nil K (rV Xa) v_0 a_0) K (rD Xa) v_1 a_1) K (rV Xa) v_2 a_2) K Xa v_3 a_3) K (oL (oL (oF Xa))) x16.2.2.2.2.2.1 g15.2 x16.2.2.2.2.2.2.2.2) K Xa v18 a17) K (oL (oF XQ)) x33.1 a39 C40) K Xa v48 a47) K Xa v50 a49) K Xa x64.1 g65.1) K (oL (oF Xa)) x64.2.1 g65.2 x64.2.2)}:Jn (Int×(List Int)) (V×V×List XF))) (ZH (Fd:=FNd ({oo:=λx64=>[x16.2.2.2.2.2.2.2.2,C40,x64.2.2],ss:=λx64=>[some v_0,some v_1,some v_2,some v_3,some x33.1,some x16.2.2.2.2.2.1,some v18,some x64.2.1,some x64.1,some v48,some v50],sc:=λg65 x64=>(SC.addO (SC.add (SC.add (SC.add (SC.addO (SC.add (SC.addO (SC.add (SC.add (SC.add (SC.add SC.nil K (rV Xa) v_0 a_0) K (rD Xa) v_1 a_1) K (rV Xa) v_2 a_2) K Xa v_3 a_3) K (oL (oL (oF Xa))) x16.2.2.2.2.2.1 g15.2 x16.2.2.2.2.2.2.2.2) K Xa v18 a17) K (oL (oF XQ)) x33.1 a39 C40) K Xa v48 a47) K Xa v50 a49) K Xa x64.1 g65.1) K (oL (oF Xa)) x64.2.1 g65.2 x64.2.2)}:Jn (Int×(List Int)) (V×V×List XF))) (Xp (K:=K) (YL (Xb (r:=Xa) 8 rfl (λ_ s=>s.l.l.l.r)) (Xb (r:=Xa) 10 rfl (λ_ s=>s.r)))) (Zl (K:=K) (o:=(oF Xa)) (f:=λa76=>(Rs.bind (Rs.bind (Rs.ok a49) λx79=>(Rs.bind (Rs.ok (1:Int)) λx80=>(Rs.ok (x79+x80)))) λa77=>(Rs.ok (a77,a76)))) 7 2 rfl rfl rfl (λ_ s=>s.l.l.r) (EvS.ev (EvB.sh (X9 (Xr (Xb (r:=(rV Xa)) 0 rfl (λ_ s=>s.l.l.l.l.l.l.l.l.l.l.r)) (Xb (r:=Xa) 9 rfl (λ_ s=>s.l.r))) (Kf (Xb (r:=(rD Xa)) 1 rfl (λ_ s=>s.l.l.l.l.l.l.l.l.l.r)) (Xr (Xb (r:=(rV Xa)) 0 rfl (λ_ s=>s.l.l.l.l.l.l.l.l.l.l.r)) (Xb (r:=Xa) 9 rfl (λ_ s=>s.l.r))))))) λa74 C75=>(Xx (K:=K) (r:=Xa) 8 (EvB.sh (XL (Xb (r:=Xa) 10 rfl (λ_ s=>s.l.r)) (Xe 1))) λa77 v78=>(Xw (J:=_) (v78,x46.2.2.2.1,C75) (a77,(g45.2++[a74])) rfl rfl (λ_ s=>(SC.i (SC.i (SC.i (SC.i (SC.i (SC.i (SC.i (SC.i (SC.i (SC.i (SC.i SC.t s.l.l.l.l.l.l.l.l.l.l.l.l.r) s.l.l.l.l.l.l.l.l.l.l.l.r) s.l.l.l.l.l.l.l.l.l.l.r) s.l.l.l.l.l.l.l.l.l.r) s.l.l.l.l.l.l.l.l.r) s.l.l.l.l.l.l.l.r) s.l.l.l.l.l.l.r) s.l.l.l.r) s.l.l.r) s.r) s.l.r))))) (Zd (J:=({oo:=λx86=>[x16.2.2.2.2.2.2.2.2,C40,x86.2.2],ss:=λx86=>[some v_0,some v_1,some v_2,some v_3,some x33.1,some x16.2.2.2.2.2.1,some v18,some x86.2.1,some x86.1,some v48,some v50],sc:=λg87 x86=>(SC.addO (SC.add (SC.add (SC.add (SC.addO (SC.add (SC.addO (SC.add (SC.add (SC.add (SC.add SC.nil K (rV Xa) v_0 a_0) K (rD Xa) v_1 a_1) K (rV Xa) v_2 a_2) K Xa v_3 a_3) K (oL (oL (oF Xa))) x16.2.2.2.2.2.1 g15.2 x16.2.2.2.2.2.2.2.2) K Xa v18 a17) K (oL (oF XQ)) x33.1 a39 C40) K Xa v48 a47) K Xa v50 a49) K Xa x86.1 g87.1) K (oL (oF Xa)) x86.2.1 g87.2 x86.2.2)}:Jn (Int×(List Int)) (V×V×List XF))) (ZH (Fd:=FNd ({oo:=λx86=>[x16.2.2.2.2.2.2.2.2,C40,x86.2.2],ss:=λx86=>[some v_0,some v_1,some v_2,some v_3,some x33.1,some x16.2.2.2.2.2.1,some v18,some x86.2.1,some x86.1,some v48,some v50],sc:=λg87 x86=>(SC.addO (SC.add (SC.add (SC.add (SC.addO (SC.add (SC.addO (SC.add (SC.add (SC.add (SC.add SC.nil K (rV Xa) v_0 a_0) K (rD Xa) v_1 a_1) K (rV Xa) v_2 a_2) K Xa v_3 a_3) K (oL (oL (oF Xa))) x16.2.2.2.2.2.1 g15.2 x16.2.2.2.2.2.2.2.2) K Xa v18 a17) K (oL (oF XQ)) x33.1 a39 C40) K Xa v48 a47) K Xa v50 a49) K Xa x86.1 g87.1) K (oL (oF Xa)) x86.2.1 g87.2 x86.2.2)}:Jn (Int×(List Int)) (V×V×List XF))) (Xp (K:=K) (YL (Xb (r:=Xa) 8 rfl (λ_ s=>s.l.l.l.r)) (XL (Xb (r:=Xa) 10 rfl (λ_ s=>s.r)) (Xe 1)))) (Zl (K:=K) (o:=(oF Xa)) (f:=λa99=>(Rs.bind (Rs.ok a49) λa100=>(Rs.ok (a100,a99)))) 7 2 rfl rfl rfl (λ_ s=>s.l.l.r) (EvS.ev (EvB.sh (X9 (Qq (Xr (Xb (r:=(rV Xa)) 0 rfl (λ_ s=>s.l.l.l.l.l.l.l.l.l.l.r)) (Xb (r:=Xa) 9 rfl (λ_ s=>s.l.r)))) (Kf (Xb (r:=(rD Xa)) 1 rfl (λ_ s=>s.l.l.l.l.l.l.l.l.l.r)) (Xr (Xb (r:=(rV Xa)) 0 rfl (λ_ s=>s.l.l.l.l.l.l.l.l.l.l.r)) (Xb (r:=Xa) 9 rfl (λ_ s=>s.l.r))))))) λa97 C98=>(Xx (K:=K) (r:=Xa) 8 (Xl (r:=Xa) 10 rfl (λ_ s=>s.l.r)) λa100 v101=>(Xw (J:=_) (v101,x46.2.2.2.1,C98) (a100,(g45.2++[a97])) rfl rfl (λ_ s=>(SC.i (SC.i (SC.i (SC.i (SC.i (SC.i (SC.i (SC.i (SC.i (SC.i (SC.i SC.t s.l.l.l.l.l.l.l.l.l.l.l.l.r) s.l.l.l.l.l.l.l.l.l.l.l.r) s.l.l.l.l.l.l.l.l.l.l.r) s.l.l.l.l.l.l.l.l.l.r) s.l.l.l.l.l.l.l.l.r) s.l.l.l.l.l.l.l.r) s.l.l.l.l.l.l.r) s.l.l.l.r) s.l.l.r) s.r) s.l.r))))) (Xw (J:=_) (x46.2.2.1,x46.2.2.2.1,x46.2.2.2.2) (g45.1,g45.2) rfl rfl (λ_ s=>(SC.i (SC.i (SC.i (SC.i (SC.i (SC.i (SC.i (SC.i (SC.i (SC.i (SC.i SC.t s.l.l.l.l.l.l.l.l.l.l.r) s.l.l.l.l.l.l.l.l.l.r) s.l.l.l.l.l.l.l.l.r) s.l.l.l.l.l.l.l.r) s.l.l.l.l.l.l.r) s.l.l.l.l.l.r) s.l.l.l.l.r) s.l.r) s.r) s.l.l.l.r) s.l.l.r)))) λg103 x102=>(Xw (J:=_) (x102.1,x102.2.1,x102.2.2) (g103.1,g103.2) rfl rfl (λ_ s=>(SC.i (SC.i (SC.i (SC.i (SC.i (SC.i (SC.i (SC.i (SC.i (SC.i (SC.i SC.t s.l.l.l.l.l.l.l.l.l.l.r) s.l.l.l.l.l.l.l.l.l.r) s.l.l.l.l.l.l.l.l.r) s.l.l.l.l.l.l.l.r) s.l.l.l.l.l.l.r) s.l.l.l.l.l.r) s.l.l.l.l.r) s.l.l.l.r) s.l.l.r) s.l.r) s.r))))) λg105 x104=>(Xw (J:=_) ((some v48),(some v50),x104.1,x104.2.1,x104.2.2) (g105.1,g105.2) rfl rfl (λ_ s=>(SC.i (SC.i (SC.i (SC.i (SC.i (SC.i (SC.i (SC.i (SC.i SC.t s.l.l.l.l.l.l.l.l.l.l.r) s.l.l.l.l.l.l.l.l.l.r) s.l.l.l.l.l.l.l.l.r) s.l.l.l.l.l.l.l.r) s.l.l.l.l.l.l.r) s.l.l.l.l.l.r) s.l.l.l.l.r) s.l.r) s.r)))))) λg106 x107=>(Xw (J:=_) (x33.1,(x107.1),(x107.2.1),x107.2.2.1,x107.2.2.2.1,C40,x107.2.2.2.2) (a39,g106.1,g106.2) rfl rfl (λ_ s=>(SC.i (SC.i (SC.i (SC.i (SC.i (SC.i (SC.i (SC.i (SC.i SC.t s.l.l.l.l.l.l.l.l.r) s.l.l.l.l.l.l.l.r) s.l.l.l.l.l.l.r) s.l.l.l.l.l.r) s.l.l.l.l.r) s.l.l.l.r) s.l.l.r) s.l.r) s.r)))))) λg109 x110=>(Zl (K:=K) (o:=(oL (oF Xa))) (f:=λa113=>(Rs.ok (g109.1,a113))) 5 0 rfl rfl rfl (λ_ s=>s.l.l.l.l.r) (Yd (o:=(oL (oF Xa))) 7 2 rfl rfl (λ_ s=>s.r)) λa111 C112=>(Xw (J:=_) ((some x110.2.2.2.2.1),(some x110.2.2.2.1),x110.1,(x110.2.1),x16.2.2.2.2.2.1,(x110.2.2.1),x110.2.2.2.2.2.1,C112) (g109.1,(g15.2++[a111])) rfl rfl (λ_ s=>(SC.i (SC.i (SC.i (SC.i (SC.i (SC.i (SC.i SC.t s.l.l.l.l.l.l.l.l.l.r) s.l.l.l.l.l.l.l.l.r) s.l.l.l.l.l.l.l.r) s.l.l.l.l.l.l.r) s.l.l.l.l.r) s.l.l.l.r) s.r))))))) (Xw (J:=_) ((x16.2.1),(x16.2.2.1),x16.2.2.2.1,(x16.2.2.2.2.1),x16.2.2.2.2.2.1,(x16.2.2.2.2.2.2.1),x16.2.2.2.2.2.2.2.1,x16.2.2.2.2.2.2.2.2) (g15.1,g15.2) rfl rfl (λ_ s=>(SC.i (SC.i (SC.i (SC.i (SC.i (SC.i (SC.i SC.t s.l.l.l.l.l.l.r) s.l.l.l.l.l.r) s.l.l.l.l.r) s.l.l.l.r) s.r) s.l.l.r) s.l.r)))) λg115 x114=>(Xw (J:=_) ((some v18),(x114.1),(x114.2.1),x114.2.2.1,(x114.2.2.2.1),x114.2.2.2.2.1,(x114.2.2.2.2.2.1),x114.2.2.2.2.2.2.1,x114.2.2.2.2.2.2.2) (g115.1,g115.2) rfl rfl (λ_ s=>(SC.i (SC.i (SC.i (SC.i (SC.i (SC.i SC.t s.l.l.l.l.l.l.r) s.l.l.l.l.l.r) s.l.l.l.l.r) s.l.l.l.r) s.l.r) s.r))))) λg116 x117=>(XC (Yd (o:=(oL (oL (oF Xa)))) 5 0 rfl rfl (λ_ s=>s.r))))))
theorem Zf:FnScope ["_law_script","_law_place","_law_most","_law_sizes","_law_some","_law_names","_law_signs","_law_last","_law_k","_law_step","_law_walks","_law_rings"] ["_law_script","_law_place","_law_most"] (Xk UW):=⟨rfl,rfl,rfl,by decide+kernel,rfl,by decide+kernel,by decide+kernel⟩
theorem Ep (D:Def K mg "_law_drawn" UW ["_law_script","_law_place","_law_most"])(g_row:Fn P w K mg base 2 "_law_row" ["_law_script","_law_place","_law_sizes"] (sp3 (rL Xa) Xa (rV Xa) (oL (oF Xa)) Up K))(g_plaited:Fn P w K mg base 1 "_law_plaited" ["_law_names","_law_signs","_law_some","_law_strands"] (sp4 (rV Xa) (rD Xa) (rV Xa) Xa (oL (oL (oF Xa))) Qc K))(g_any:Fn P w K mg base 1 "_law_any" ["_law_names","_law_some","_law_rings"] (sp3 (rV Xa) (rV Xa) Xa (oL (oL (oF Xa))) Dg K))(g_mixed:Fn P w K mg base 1 "_law_mixed" ["_law_names","_law_some"] (sp2 (rV Xa) (rV Xa) (oL (oF Xa)) J0 K))(Z:Blt mg):Fn P w K mg base 3 "_law_drawn" ["_law_script","_law_place","_law_most"] (sp3 (rL Xa) Xa Xa (oT2 (oL (oL (oF Xa))) (oL (oF (rP2 Xa Xa)))) Q9 K):=by
 refine Ys D Zf (λvs H Q E h=>?_) (λf cdv A outer s H vs Q E hr h=>?_)
 ·obtain⟨v_0,v_1,v_2,a_0,a_1,a_2,b,rfl,_⟩:=h;rfl
 obtain⟨v_0,v_1,v_2,a_0,a_1,a_2,b,rfl,h_0,h_1,h_2,hm,q⟩:=h
 have hu:=hu8 hr
 have hu1:=Yo hr
 refine⟨_,(Xc (Xq (i:=3) Zf.nd rfl (Or.inl rfl) (XZ (Xd (Xs X0 (pv 2) Xh) (Xd Xh (Xd Xh (Xd Xh (Xd Xh Xf)))))))
  (Xc (Xq (i:=4) Zf.nd rfl (Or.inl rfl) (X5 g_row hr (by decide) (Xd (pv 0) (Xd (pv 1) (Xd (Xs Ul (pv 3) (Xs J6 (XZ (Xd Xh (Xd Xh (Xd Xh (Xd Xh Xf))))) (Xs YF Xh (pv 2)))) Xf)))))
  (Xc (Xq (i:=5) Zf.nd rfl (Or.inl rfl) (XZ Xf))
  (Xc (Xq (i:=6) Zf.nd rfl (Or.inr rfl) EY)
  (Xc (Xq (i:=7) Zf.nd rfl (Or.inl rfl) Xh)
  (Xc (X2 PassesOwn.never rfl (XH rfl Z.b_range (Xd (Xy (Xj K rfl) (pv 4) Xh (λ_ _=>rfl)) Xf)) (Xo (i:=8) Zf.nd rfl (Or.inl rfl))
   (Xc (Xq (i:=9) Zf.nd rfl (Or.inl rfl) (Xs YF (Xy (Xj K rfl) (pv 4) (Xs X0 (Xs YF Xh (pv 8)) Xh) (λ_ _=>rfl)) (Xy (Xj K rfl) (XZ (Xd Xh (Xd Xh (Xd (Xs Cj Xh Xh) Xf)))) (Xy (Xj K rfl) (pv 4) Xh (λ_ _=>rfl)) (λ_ _=>rfl))))
   (Xc (Xq (i:=7) Zf.nd rfl (Or.inl rfl) (Xs X0 (Xs X0 (pv 7) Xh) (pv 9)))
   (Xc (Ye (Zt PySem.F.plainAttrs_list PySem.F.slot_list_append PySem.F.type_list_append XT (pv 5) (Xd (pv 7) Xf)))
   (Xc (Bd hu1 (pv 6) (pv 7) (Xs ZZ (Xs YF Xh (Xy (Xj K rfl) (pv 4) (Xs X0 (Xs YF Xh (pv 8)) Xh) (λ_ _=>rfl))) Xh) rfl)
   Xg)))))
  (Xc (Yj (Xu Ql (Xy (Xj K rfl) (pv 4) Xh (λ_ _=>rfl)) Xh (XD _))
   (Xc (Xq (i:=10) Zf.nd rfl (Or.inl rfl) (X5 g_plaited hr (by decide) (Xd (X5 g_mixed hr (by decide) (Xd (pv 5) (Xd (pv 4) Xf))) (Xd (pv 6) (Xd (pv 4) (Xd (Xs X0 Xh (Xy (Xj K rfl) (pv 4) Xh (λ_ _=>rfl))) Xf))))))
   Xg)
   (Xc (Xq (i:=11) Zf.nd rfl (Or.inl rfl) (Xn (VT rfl) rfl Z.b_max PyProof.Rows.boot_max (Xd (Xy (Xj K rfl) (pv 4) Xh (λ_ _=>rfl)) (Xd (Xn (KY rfl) rfl Z.b_min PyProof.Rows.boot_min (Xd (Xn (Xi K rfl) rfl Z.b_len PySem.boot_len (Xd (pv 5) Xf)) (Xd Xh Xf))) Xf))))
   (Xc (Xq (i:=10) Zf.nd rfl (Or.inl rfl) (X5 g_any hr (by decide) (Xd (pv 5) (Xd (pv 4) (Xd (pv 11) Xf)))))
   Xg)))
  (Xc (Xz (ZD (Xd (pv 10) (Xd (YX (sc:=(Xk UW)) (N0:=["_law_script","_law_place","_law_most","_law_sizes","_law_some","_law_names","_law_signs","_law_last","_law_k","_law_step","_law_walks","_law_rings"]) (tns:=["_law_one"]) (caps:=[(6,"_law_signs")]) rfl (XO (K:=K) rfl (pv 5)) (YI (by decide)) (λcl C s H ex E=>⟨Xo (i:=0) (show List.Nodup (["_law_one","_law_signs"]:List Str) by decide+kernel) rfl (Or.inl rfl),Y0,(ZD (Xd (pv 0) (Xd (GX hu1 (pv 1) (pv 0) (λ_ _=>rfl)) Xf)))⟩)) Xf))))
  Xg)))))))),?_⟩
 refine Yw (S:=(SC.add (SC.add (SC.add SC.nil K (rL Xa) v_0 a_0) K Xa v_1 a_1) K Xa v_2 a_2)) (σ:=[some v_0,some v_1,some v_2,none,none,none,none,none,none,none,none,none]) 3 ?_ (SC.i (SC.i (SC.i SC.t h_0) h_1) h_2) hm q rfl
 unfold Q9
 exact(Xx (K:=K) (r:=(rV Xa)) 3 (Ev.sh (Ze (Xt (EvB.sh (XL (Xb (r:=Xa) 2 rfl (λ_ s=>s.r)) (Xe 1))) (Xt (EvB.sh (Xe 5)) (Xt (EvB.sh (Xe 4)) (Xt (EvB.sh (Xe 3)) (Xt (EvB.sh (Xe 3)) Yt))))))) λa1 v2=>(Xx (K:=K) (r:=(rV Xa)) 4 (Ev.sh (YW (Xb (r:=(rL Xa)) 0 rfl (λ_ s=>s.l.l.l.r)) (Xb (r:=Xa) 1 rfl (λ_ s=>s.l.l.r)) (Ev.toB (V0 (EvS.ls (Xl (r:=(rV Xa)) 3 rfl (λ_ s=>s.r))) (Ev.ls (J5 (Ev.ls (Ze (Xt (EvB.sh (Xe 80)) (Xt (EvB.sh (Xe 5)) (Xt (EvB.sh (Xe 2)) (Xt (EvB.sh (Xe 3)) Yt)))))) (X9 (Xe 2) (Xb (r:=Xa) 2 rfl (λ_ s=>s.l.r))))))))) λa16 v17=>(XS (K:=K) (o:=(oL (oF Xa))) 5 2 (Qm (o:=(oF Xa))) (Nat.le_of_ble_eq_true rfl) λa37 v38 C39=>(XS (K:=K) (o:=(oD Xa)) 6 1 (I9 (r:=Xa)) (Nat.le_of_ble_eq_true rfl) λa40 v41 C42=>(Xx (K:=K) (r:=Xa) 7 (EvB.sh (Xe 0)) λa43 v44=>(Yk (K:=K) (J:=({oo:=λx48=>[[],x48.2.2.2.2.2.1,x48.2.2.2.2.2.2],ss:=λx48=>[some v_0,some v_1,some v_2,some v2,some v17,some x48.2.2.2.2.1,some x48.2.2.2.1,some x48.2.2.1,x48.1,x48.2.1,none,none],sc:=λg49 x48=>(SC.addO (SC.addO (SC.add (SC.add (SC.add (SC.add (SC.add (SC.add SC.nil K (rL Xa) v_0 a_0) K Xa v_1 a_1) K Xa v_2 a_2) K (rV Xa) v2 a1) K (rV Xa) v17 a16) K Xa x48.2.2.1 g49.1) K (oD Xa) x48.2.2.2.1 g49.2.1 x48.2.2.2.2.2.1) K (oL (oF Xa)) x48.2.2.2.2.1 g49.2.2 x48.2.2.2.2.2.2)}:Jn (Int×(List (Int×Int))×(List Int)) (Option V×Option V×V×V×V×List XF×List XF))) (λ_=>tg1 8) ((none),(none),v44,v41,v38,C42,C39) (a43,a40,a37) (Xv (Xr (Xb (r:=(rV Xa)) 4 rfl (λ_ s=>s.l.l.l.r)) (Xe 0))) rfl rfl (λ_ s=>(SC.i (SC.i (SC.i (SC.i (SC.i (SC.i (SC.i (SC.i SC.t s.l.l.l.l.l.l.l.r) s.l.l.l.l.l.l.r) s.l.l.l.l.l.r) s.l.l.l.l.r) s.l.l.l.r) s.r) s.l.r) s.l.l.r)) (λg50 x51 a52 v53=>(Xx (K:=K) (r:=Xa) 9 (EvB.sh (X9 (Xr (Xb (r:=(rV Xa)) 4 rfl (λ_ s=>s.l.l.l.l.r)) (XL (X9 (Xe 8) (Xb (r:=Xa) 8 rfl (λ_ s=>s.r))) (Xe 8))) (Xr (Ev.toB (Ze (Xt (EvB.sh (Xe 0)) (Xt (EvB.sh (Xe 1)) (Xt (EvB.sh (G2 (Xe 10) (Xe 9))) Yt))))) (Xr (Xb (r:=(rV Xa)) 4 rfl (λ_ s=>s.l.l.l.l.r)) (Xe 3))))) λa54 v55=>(Xx (K:=K) (r:=Xa) 7 (EvB.sh (XL (XL (Xb (r:=Xa) 7 rfl (λ_ s=>s.l.l.l.l.r)) (Xe 1)) (Xb (r:=Xa) 9 rfl (λ_ s=>s.r)))) λa77 v78=>(Zl (K:=K) (o:=(oF Xa)) (f:=λa85=>(Rs.bind (Rs.bind (Rs.bind (Rs.ok (2:Int)) λx92=>(Rs.bind (Rs.bind (Rs.ok a16) λx90=>(Rs.bind (Rs.bind (Rs.bind (Rs.ok (8:Int)) λx86=>(Rs.bind (Rs.ok a52) λx87=>(QG x86 x87))) λx88=>(Rs.bind (Rs.ok (7:Int)) λx89=>(Rs.ok (x88+x89)))) λx91=>(atR x90 x91))) λx93=>(QG x92 x93))) λx94=>(Rs.bind (Rs.ok (1:Int)) λx95=>(Rs.ok (x94-x95)))) λx96=>(Rs.bind (Rs.ok a77) λx97=>(chk (g50.2.1.length<sizeLine) ((λa98=>(Rs.ok (a77,a98,a85))) (GI g50.2.1 x97 x96)))))) 5 2 rfl rfl rfl (λ_ s=>s.l.l.l.r) (EvS.ev (Xl (r:=Xa) 7 rfl (λ_ s=>s.r))) λa83 C84=>(IJ (K:=K) (r:=Xa) (f:=λa98=>(Rs.ok (a77,a98,(g50.2.2++[a83])))) 6 1 rfl rfl (λ_ s=>s.l.l.l.l.l.r) (EvB.sh (Zq (X9 (Xe 2) (Xr (Xb (r:=(rV Xa)) 4 rfl (λ_ s=>s.l.l.l.l.l.l.l.r)) (XL (X9 (Xe 8) (Xb (r:=Xa) 8 rfl (λ_ s=>s.l.l.l.r))) (Xe 7)))) (Xe 1))) (Xb (r:=Xa) 7 rfl (λ_ s=>s.l.r)) λa98 C99=>(Xw (J:=_) ((some v53),(some v55),v78,x51.2.2.2.1,x51.2.2.2.2.1,C99,C84) (a77,a98,(g50.2.2++[a83])) rfl rfl (λ_ s=>(SC.i (SC.i (SC.i (SC.i (SC.i (SC.i (SC.i (SC.i SC.t s.l.l.l.l.l.l.l.l.l.l.l.l.r) s.l.l.l.l.l.l.l.l.l.l.l.r) s.l.l.l.l.l.l.l.l.l.l.r) s.l.l.l.l.l.l.l.l.l.r) s.l.l.l.l.l.l.l.l.r) s.l.l.r) s.r) s.l.r)))))))) λg100 x101=>(Zd (J:=({oo:=λx107=>[x107.2.2,x101.2.2.2.2.2.1,x101.2.2.2.2.2.2],ss:=λx107=>[some v_0,some v_1,some v_2,some v2,some v17,some x101.2.2.2.2.1,some x101.2.2.2.1,some x101.2.2.1,x101.1,x101.2.1,some x107.1,x107.2.1],sc:=λg108 x107=>(SC.addO (SC.addO (SC.addO (SC.add (SC.add (SC.add (SC.add (SC.add (SC.add SC.nil K (rL Xa) v_0 a_0) K Xa v_1 a_1) K Xa v_2 a_2) K (rV Xa) v2 a1) K (rV Xa) v17 a16) K Xa x101.2.2.1 g100.1) K (oD Xa) x101.2.2.2.1 g100.2.1 x101.2.2.2.2.2.1) K (oL (oF Xa)) x101.2.2.2.2.1 g100.2.2 x101.2.2.2.2.2.2) K (oL (oL (oF Xa))) x107.1 g108 x107.2.2)}:Jn ((List (List Int))) (V×Option V×List XF))) (ZH (Fd:=FNd ({oo:=λx107=>[x107.2.2,x101.2.2.2.2.2.1,x101.2.2.2.2.2.2],ss:=λx107=>[some v_0,some v_1,some v_2,some v2,some v17,some x101.2.2.2.2.1,some x101.2.2.2.1,some x101.2.2.1,x101.1,x101.2.1,some x107.1,x107.2.1],sc:=λg108 x107=>(SC.addO (SC.addO (SC.addO (SC.add (SC.add (SC.add (SC.add (SC.add (SC.add SC.nil K (rL Xa) v_0 a_0) K Xa v_1 a_1) K Xa v_2 a_2) K (rV Xa) v2 a1) K (rV Xa) v17 a16) K Xa x101.2.2.1 g100.1) K (oD Xa) x101.2.2.2.1 g100.2.1 x101.2.2.2.2.2.1) K (oL (oF Xa)) x101.2.2.2.2.1 g100.2.2 x101.2.2.2.2.2.2) K (oL (oL (oF Xa))) x107.1 g108 x107.2.2)}:Jn ((List (List Int))) (V×Option V×List XF))) (Xp (K:=K) (Zr (Xr (Xb (r:=(rV Xa)) 4 rfl (λ_ s=>s.l.l.l.r)) (Xe 2)) (Xe 2))) (XS (K:=K) (o:=(oL (oL (oF Xa)))) 10 0 (FZ (Ev.toB (X4 (YC (o:=(oL (oF Xa))) 5 2 rfl rfl (λ_ s=>s.r)) (Xb (r:=(rV Xa)) 4 rfl (λ_ s=>s.l.l.l.r)))) (YC (o:=(oD Xa)) 6 1 rfl rfl (λ_ s=>s.l.r)) (Xb (r:=(rV Xa)) 4 rfl (λ_ s=>s.l.l.l.r)) (XL (Xe 2) (Xr (Xb (r:=(rV Xa)) 4 rfl (λ_ s=>s.l.l.l.r)) (Xe 4)))) (Nat.le_of_ble_eq_true rfl) λa109 v110 C111=>(Xw (J:=_) (v110,(none),C111) (a109) rfl rfl (λ_ s=>(SC.i (SC.i (SC.i (SC.i (SC.i (SC.i (SC.i (SC.i (SC.i SC.t s.l.l.l.l.l.l.l.l.r) s.l.l.l.l.l.l.l.r) s.l.l.l.l.l.l.r) s.l.l.l.l.l.r) s.l.l.l.l.r) s.l.l.l.r) s.l.l.r) s.l.r) s.r)))) (Xx (K:=K) (r:=Xa) 11 (EvB.sh (G4 (Xr (Xb (r:=(rV Xa)) 4 rfl (λ_ s=>s.l.l.l.r)) (Xe 1)) (Ct (XA (YC (o:=(oL (oF Xa))) 5 2 rfl rfl (λ_ s=>s.r))) (Xe 1)))) λa124 v125=>(XS (K:=K) (o:=(oL (oL (oF Xa)))) 10 0 (YW (YC (o:=(oL (oF Xa))) 5 2 rfl rfl (λ_ s=>s.l.r)) (Xb (r:=(rV Xa)) 4 rfl (λ_ s=>s.l.l.l.l.r)) (Xb (r:=Xa) 11 rfl (λ_ s=>s.r))) (Nat.le_of_ble_eq_true rfl) λa133 v134 C135=>(Xw (J:=_) (v134,(some v125),C135) (a133) rfl rfl (λ_ s=>(SC.i (SC.i (SC.i (SC.i (SC.i (SC.i (SC.i (SC.i (SC.i SC.t s.l.l.l.l.l.l.l.l.l.r) s.l.l.l.l.l.l.l.l.r) s.l.l.l.l.l.l.l.r) s.l.l.l.l.l.l.r) s.l.l.l.l.l.r) s.l.l.l.l.r) s.l.l.l.r) s.l.l.r) s.r)))))) λg141 x140=>(XC (FG (Yd (o:=(oL (oL (oF Xa)))) 10 0 rfl rfl (λ_ s=>s.r)) λ_=>(IL (K:=K) (o1:=(oL (oF Xa))) 3 rfl (λ_ s=>s.l.r) (Y3 (λ_=>tg1 0) (XI (Xl (r:=(rV Xa)) 5 rfl (λ_ s=>s.r))) (λC142 a143 v144=>(EvS.ev (Jv (Xl (r:=Xa) 0 rfl (λ_ s=>s.r)) (EvB.sh (Kf (YC (o:=(oD Xa)) 1 3 rfl rfl (λ_ s=>s.l.l.l.l.r)) (Xb (r:=Xa) 0 rfl (λ_ s=>s.r))))))))))))))))))
theorem Lm:FnScope ["_law_drawing"] ["_law_drawing"] (Xk FK):=⟨rfl,rfl,rfl,by decide+kernel,rfl,by decide+kernel,by decide+kernel⟩
theorem IZ (D:Def K mg "_law_copy" FK ["_law_drawing"])(Z:Blt mg):Fn P w K mg base 1 "_law_copy" ["_law_drawing"] (sp1 (rP2 (rV (rV Xa)) (rV (rP2 Xa Xa))) (oT2 (oL (oL (oF Xa))) (oL (oF (rP2 Xa Xa)))) VD K):=by
 refine Ys D Lm (λvs H Q E h=>?_) (λf cdv A outer s H vs Q E hr h=>?_)
 ·obtain⟨v_0,a_0,b,rfl,_⟩:=h;rfl
 obtain⟨v_0,a_0,b,rfl,h_0,hm,q⟩:=h
 have hu:=hu8 hr
 have hu1:=Yo hr
 refine⟨_,(Xc (Xz (ZD (Xd (YX (sc:=(Xk FK)) (N0:=["_law_drawing"]) (tns:=["_law_walk"]) (caps:=[]) rfl (XO (K:=K) rfl (Xy (Zy K rfl) (pv 0) Xh (λ_ _=>rfl))) (YI (by decide)) (λcl C s H ex E=>⟨Xo (i:=0) (show List.Nodup (["_law_walk"]:List Str) by decide+kernel) rfl (Or.inl rfl),Y0,(YO (X6 K rfl) rfl Z.b_list PyProof.Rows.boot_list (Xd (pv 0) Xf))⟩)) (Xd (YO (X6 K rfl) rfl Z.b_list PyProof.Rows.boot_list (Xd (Xy (Zy K rfl) (pv 0) Xh (λ_ _=>rfl)) Xf)) Xf))))
  Xg),?_⟩
 refine Yw (S:=(SC.add SC.nil K (rP2 (rV (rV Xa)) (rV (rP2 Xa Xa))) v_0 a_0)) (σ:=[some v_0]) 0 ?_ (SC.i SC.t h_0) hm q rfl
 unfold VD
 exact(XC (FG (Y3 (λ_=>tg1 0) (XI (VF (Xl (r:=(rP2 (rV (rV Xa)) (rV (rP2 Xa Xa)))) 0 rfl (λ_ s=>s.r)))) (λC2 a3 v4=>(Z7 (EvS.ls (Xl (r:=(rV Xa)) 0 rfl (λ_ s=>s.r)))))) λ_=>(Z7 (EvB.ls (V6 (Xb (r:=(rP2 (rV (rV Xa)) (rV (rP2 Xa Xa)))) 0 rfl (λ_ s=>s.r)))))))
theorem Gu:FnScope ["_law_one"] ["_law_one"] (Xk JS):=⟨rfl,rfl,rfl,by decide+kernel,rfl,by decide+kernel,by decide+kernel⟩
theorem GB (D:Def K mg "_law_is_whole" JS ["_law_one"])(Z:Blt mg):Fn P w K mg base 1 "_law_is_whole" ["_law_one"] (sp1 Xa (oF XQ) QQ K):=by
 refine Ys D Gu (λvs H Q E h=>?_) (λf cdv A outer s H vs Q E hr h=>?_)
 ·obtain⟨v_0,a_0,b,rfl,_⟩:=h;rfl
 obtain⟨v_0,a_0,b,rfl,h_0,hm,q⟩:=h
 have hu:=hu8 hr
 have hu1:=Yo hr
 refine⟨_,(Xc (Xz (Hm (Xn ZO rfl Z.b_isinstance PyProof.Rows.boot_isinstance (Xd (pv 0) (Xd (VW (v:=V.ty "int") rfl Z.b_int PyProof.Rows.boot_int rfl) Xf))) (DZ (Hd (Xn ZO rfl Z.b_isinstance PyProof.Rows.boot_isinstance (Xd (pv 0) (Xd (VW (v:=V.ty "bool") rfl Z.b_bool PyProof.Rows.boot_bool rfl) Xf)))))))
  Xg),?_⟩
 refine Yw (S:=(SC.add SC.nil K Xa v_0 a_0)) (σ:=[some v_0]) 0 ?_ (SC.i SC.t h_0) hm q rfl
 unfold QQ
 exact(XC (EvS.ev (EvB.sh (Fv (Qe "int" true (Vw K "int") (Xb (r:=Xa) 0 rfl (λ_ s=>s.r))) (F2 (Qe "bool" false (Gc K) (Xb (r:=Xa) 0 rfl (λ_ s=>s.r))))))))
theorem J4:FnScope ["_law_found","_law_one"] ["_law_found"] (Xk Jg):=⟨rfl,rfl,rfl,by decide+kernel,rfl,by decide+kernel,by decide+kernel⟩
theorem KL (D:Def K mg "_law_is_wholes" Jg ["_law_found"])(g_is_whole:Fn P w K mg base 1 "_law_is_whole" ["_law_one"] (sp1 Xa (oF XQ) QQ K))(Z:Blt mg):Fn P w K mg base 2 "_law_is_wholes" ["_law_found"] (sp1 (rV Xa) (oF XQ) Y4 K):=by
 refine Ys D J4 (λvs H Q E h=>?_) (λf cdv A outer s H vs Q E hr h=>?_)
 ·obtain⟨v_0,a_0,b,rfl,_⟩:=h;rfl
 obtain⟨v_0,a_0,b,rfl,h_0,hm,q⟩:=h
 have hu:=hu8 hr
 have hu1:=Yo hr
 refine⟨_,(Xc (Yj (Jr (QD (Xn ZO rfl Z.b_isinstance PyProof.Rows.boot_isinstance (Xd (pv 0) (Xd (VW (v:=V.ty "list") rfl Z.b_list PyProof.Rows.boot_list rfl) Xf)))))
   (Xc (Xz Qu)
   Xg)
   Xg)
  (Xc (X2 PassesOwn.never rfl (XO (K:=K) rfl (pv 0)) (Xo (i:=1) J4.nd rfl (Or.inl rfl))
   (Xc (Yj (Jr (QD (X5 g_is_whole hr (by decide) (Xd (pv 1) Xf))))
    (Xc (Xz Qu)
    Xg)
    Xg)
   Xg))
  (Xc (Xz Qu)
  Xg))),?_⟩
 refine Yw (S:=(SC.add SC.nil K (rV Xa) v_0 a_0)) (σ:=[some v_0,none]) 0 ?_ (SC.i SC.t h_0) hm q rfl
 unfold Y4
 exact(ZM (Qy (JX (K:=K) (Qe "list" true (Vw K "list") (Xb (r:=(rV Xa)) 0 rfl (λ_ s=>s.r))))) (XC (EvS.ev (EvB.sh (Zn false)))) (Qs (K:=K) (J:=({oo:=λx4=>[],ss:=λx4=>[some v_0,x4],sc:=λg5 x4=>(SC.add SC.nil K (rV Xa) v_0 a_0)}:Jn (Unit) (Option V))) (λ_=>tg1 1) ((none)) () (XI (Xl (r:=(rV Xa)) 0 rfl (λ_ s=>s.r))) rfl rfl (λ_ s=>(SC.i SC.t s.r)) (λg6 x7 a8 v9=>(Qp (Qy (JX (K:=K) (Ev.toB (YH (Xb (r:=Xa) 1 rfl (λ_ s=>s.r)))))) (XC (EvS.ev (EvB.sh (Zn false)))) (QC (Xw (J:=_) ((some v9)) () rfl rfl (λ_ s=>(SC.i SC.t s.l.r)))))) λg16 x17=>(XC (EvS.ev (EvB.sh (Zn true))))))
theorem UA:FnScope ["_law_way","_law_size","_law_factor","_law_a","_law_b","_law_half"] ["_law_way","_law_size","_law_factor","_law_a","_law_b"] (Xk Ua):=⟨rfl,rfl,rfl,by decide+kernel,rfl,by decide+kernel,by decide+kernel⟩
theorem Dn (D:Def K mg "_law_cell_of" Ua ["_law_way","_law_size","_law_factor","_law_a","_law_b"])(Z:Blt mg):Fn P w K mg base 1 "_law_cell_of" ["_law_way","_law_size","_law_factor","_law_a","_law_b"] (sp5 Xa Xa Xa Xa Xa (oF Xa) ZS K):=by
 refine Ys D UA (λvs H Q E h=>?_) (λf cdv A outer s H vs Q E hr h=>?_)
 ·obtain⟨v_0,v_1,v_2,v_3,v_4,a_0,a_1,a_2,a_3,a_4,b,rfl,_⟩:=h;rfl
 obtain⟨v_0,v_1,v_2,v_3,v_4,a_0,a_1,a_2,a_3,a_4,b,rfl,h_0,h_1,h_2,h_3,h_4,hm,q⟩:=h
 have hu:=hu8 hr
 have hu1:=Yo hr
 refine⟨_,(Xc (Xq (i:=5) UA.nd rfl (Or.inl rfl) (Xs QT (pv 1) Xh))
  (Xc (Yj (Xu ZG (pv 0) Xh (XD _))
   (Xc (Xz (Xs Yb (Xs ZZ (Xs YF Xh (pv 4)) (pv 3)) (pv 1)))
   Xg)
   Xg)
  (Xc (Yj (Xu ZG (pv 0) Xh (XD _))
   (Xc (Xz (Xs Yb (Xs X0 (Xs YF (pv 2) (pv 3)) (Xs YF (Xs ZZ Xh (pv 2)) (pv 4))) (pv 1)))
   Xg)
   Xg)
  (Xc (Yj (PW.pt (Z4 (Xu ZG (pv 0) Xh (XD _)) (Z4 (Xu GR (pv 1) Xh (XD _)) (Z4 (Xu Ql (pv 3) Xh (XD _)) (Qv (Xu ZG (pv 4) (Xs ZZ (pv 1) Xh) (XD _)))))))
   (Xc (Xz (Xs ZZ Xh (pv 3)))
   Xg)
   Xg)
  (Xc (Yj (PW.pt (Z4 (Xu ZG (pv 0) Xh (XD _)) (Z4 (Xu Ql (pv 3) (Xs ZZ (pv 1) Xh) (XD _)) (Qv (Xu ZG (pv 4) (Xs ZZ (pv 1) Xh) (XD _))))))
   (Xc (Xz (Xs Yb (Xs X0 (pv 3) Xh) (Xs ZZ (pv 1) Xh)))
   Xg)
   Xg)
  (Xc (Yj (PW.pt (Z4 (Xu ZG (pv 0) Xh (XD _)) (Z4 (Xu Ql (pv 3) (pv 5) (XD _)) (Qv (Xu Ql (pv 4) (pv 5) (XD _))))))
   (Xc (Xz (Xs Yb (Xs ZZ (Xs YF Xh (pv 4)) (pv 3)) (pv 5)))
   Xg)
   Xg)
  (Xc (Yj (PW.pt (Z4 (Xu ZG (pv 0) Xh (XD _)) (Z4 (Xu HF (pv 3) (pv 5) (XD _)) (Qv (Xu HF (pv 4) (pv 5) (XD _))))))
   (Xc (Xz (Xs X0 (pv 5) (Xs Yb (Xs ZZ (Xs ZZ (Xs YF Xh (pv 4)) (pv 3)) (pv 5)) (Xs ZZ (pv 1) (pv 5)))))
   Xg)
   Xg)
  (Xc (Xz (pv 3))
  Xg)))))))),?_⟩
 refine Yw (S:=(SC.add (SC.add (SC.add (SC.add (SC.add SC.nil K Xa v_0 a_0) K Xa v_1 a_1) K Xa v_2 a_2) K Xa v_3 a_3) K Xa v_4 a_4)) (σ:=[some v_0,some v_1,some v_2,some v_3,some v_4,none]) 0 ?_ (SC.i (SC.i (SC.i (SC.i (SC.i SC.t h_0) h_1) h_2) h_3) h_4) hm q rfl
 unfold ZS
 exact(Xx (K:=K) (r:=Xa) 5 (EvB.sh (JU (Xb (r:=Xa) 1 rfl (λ_ s=>s.l.l.l.r)) (Xe 2))) λa1 v2=>(ZM (Xp (K:=K) (YL (Xb (r:=Xa) 0 rfl (λ_ s=>s.l.l.l.l.l.r)) (Xe 1))) (XC (EvS.ev (EvB.sh (XU (Zq (X9 (Xe 2) (Xb (r:=Xa) 4 rfl (λ_ s=>s.l.r))) (Xb (r:=Xa) 3 rfl (λ_ s=>s.l.l.r))) (Xb (r:=Xa) 1 rfl (λ_ s=>s.l.l.l.l.r)))))) (ZM (Xp (K:=K) (YL (Xb (r:=Xa) 0 rfl (λ_ s=>s.l.l.l.l.l.r)) (Xe 2))) (XC (EvS.ev (EvB.sh (XU (XL (X9 (Xb (r:=Xa) 2 rfl (λ_ s=>s.l.l.l.r)) (Xb (r:=Xa) 3 rfl (λ_ s=>s.l.l.r))) (X9 (Zq (Xe 1) (Xb (r:=Xa) 2 rfl (λ_ s=>s.l.l.l.r))) (Xb (r:=Xa) 4 rfl (λ_ s=>s.l.r)))) (Xb (r:=Xa) 1 rfl (λ_ s=>s.l.l.l.l.r)))))) (ZM (Zj (Xp (K:=K) (YL (Xb (r:=Xa) 0 rfl (λ_ s=>s.l.l.l.l.l.r)) (Xe 3))) (Zj (Xp (K:=K) (V8 (Xb (r:=Xa) 1 rfl (λ_ s=>s.l.l.l.l.r)) (Xe 2))) (Zj (Xp (K:=K) (Zr (Xb (r:=Xa) 3 rfl (λ_ s=>s.l.l.r)) (Xe 2))) (Xp (K:=K) (YL (Xb (r:=Xa) 4 rfl (λ_ s=>s.l.r)) (Zq (Xb (r:=Xa) 1 rfl (λ_ s=>s.l.l.l.l.r)) (Xe 1))))))) (XC (EvS.ev (EvB.sh (Zq (Xe 1) (Xb (r:=Xa) 3 rfl (λ_ s=>s.l.l.r)))))) (ZM (Zj (Xp (K:=K) (YL (Xb (r:=Xa) 0 rfl (λ_ s=>s.l.l.l.l.l.r)) (Xe 6))) (Zj (Xp (K:=K) (Zr (Xb (r:=Xa) 3 rfl (λ_ s=>s.l.l.r)) (Zq (Xb (r:=Xa) 1 rfl (λ_ s=>s.l.l.l.l.r)) (Xe 1)))) (Xp (K:=K) (YL (Xb (r:=Xa) 4 rfl (λ_ s=>s.l.r)) (Zq (Xb (r:=Xa) 1 rfl (λ_ s=>s.l.l.l.l.r)) (Xe 1)))))) (XC (EvS.ev (EvB.sh (XU (XL (Xb (r:=Xa) 3 rfl (λ_ s=>s.l.l.r)) (Xe 1)) (Zq (Xb (r:=Xa) 1 rfl (λ_ s=>s.l.l.l.l.r)) (Xe 1)))))) (ZM (Zj (Xp (K:=K) (YL (Xb (r:=Xa) 0 rfl (λ_ s=>s.l.l.l.l.l.r)) (Xe 4))) (Zj (Xp (K:=K) (Zr (Xb (r:=Xa) 3 rfl (λ_ s=>s.l.l.r)) (Xb (r:=Xa) 5 rfl (λ_ s=>s.r)))) (Xp (K:=K) (Zr (Xb (r:=Xa) 4 rfl (λ_ s=>s.l.r)) (Xb (r:=Xa) 5 rfl (λ_ s=>s.r)))))) (XC (EvS.ev (EvB.sh (XU (Zq (X9 (Xe 2) (Xb (r:=Xa) 4 rfl (λ_ s=>s.l.r))) (Xb (r:=Xa) 3 rfl (λ_ s=>s.l.l.r))) (Xb (r:=Xa) 5 rfl (λ_ s=>s.r)))))) (ZM (Zj (Xp (K:=K) (YL (Xb (r:=Xa) 0 rfl (λ_ s=>s.l.l.l.l.l.r)) (Xe 4))) (Zj (Xp (K:=K) (DV (Xb (r:=Xa) 3 rfl (λ_ s=>s.l.l.r)) (Xb (r:=Xa) 5 rfl (λ_ s=>s.r)))) (Xp (K:=K) (DV (Xb (r:=Xa) 4 rfl (λ_ s=>s.l.r)) (Xb (r:=Xa) 5 rfl (λ_ s=>s.r)))))) (XC (EvS.ev (EvB.sh (XL (Xb (r:=Xa) 5 rfl (λ_ s=>s.r)) (XU (Zq (Zq (X9 (Xe 2) (Xb (r:=Xa) 4 rfl (λ_ s=>s.l.r))) (Xb (r:=Xa) 3 rfl (λ_ s=>s.l.l.r))) (Xb (r:=Xa) 5 rfl (λ_ s=>s.r))) (Zq (Xb (r:=Xa) 1 rfl (λ_ s=>s.l.l.l.l.r)) (Xb (r:=Xa) 5 rfl (λ_ s=>s.r)))))))) (XC (EvS.ev (Xl (r:=Xa) 3 rfl (λ_ s=>s.l.l.r)))))))))))
theorem VM:FnScope ["_law_one","_law_other"] ["_law_one","_law_other"] (Xk U1):=⟨rfl,rfl,rfl,by decide+kernel,rfl,by decide+kernel,by decide+kernel⟩
theorem Bt (D:Def K mg "_law_common" U1 ["_law_one","_law_other"])(Z:Blt mg):Fn P w K mg base 1 "_law_common" ["_law_one","_law_other"] (sp2 Xa Xa (oF Xa) QN K):=by
 refine Ys D VM (λvs H Q E h=>?_) (λf cdv A outer s H vs Q E hr h=>?_)
 ·obtain⟨v_0,v_1,a_0,a_1,b,rfl,_⟩:=h;rfl
 obtain⟨v_0,v_1,a_0,a_1,b,rfl,h_0,h_1,hm,q⟩:=h
 have hu:=hu8 hr
 have hu1:=Yo hr
 refine⟨_,(Xc (Fs (i:=0) (j:=1) rfl VM.nd rfl rfl (by decide) rfl rfl (Xd (Xn F4 rfl Z.b_abs PyProof.Rows.boot_abs (Xd (pv 0) Xf)) (Xd (Xn F4 rfl Z.b_abs PyProof.Rows.boot_abs (Xd (pv 1) Xf)) Xf)) rfl)
  (Xc (Vp PassesOwn.never (Xu GR (pv 1) Xh (XD _))
   (Xc (Fs (i:=0) (j:=1) rfl VM.nd rfl rfl (by decide) rfl rfl (Xd (pv 1) (Xd (Xs Yb (pv 0) (pv 1)) Xf)) rfl)
   Xg))
  (Xc (Xz (pv 0))
  Xg))),?_⟩
 refine Yw (S:=(SC.add (SC.add SC.nil K Xa v_0 a_0) K Xa v_1 a_1)) (σ:=[some v_0,some v_1]) 0 ?_ (SC.i (SC.i SC.t h_0) h_1) hm q rfl
 unfold QN
 exact(Fh (K:=K) 0 1 (EvB.sh (B6 (Xb (r:=Xa) 0 rfl (λ_ s=>s.l.r)))) (EvB.sh (B6 (Xb (r:=Xa) 1 rfl (λ_ s=>s.r)))) λa3 a4 v5 v6=>(Vm (J:=({oo:=λx7=>[],ss:=λx7=>[some x7.1,some x7.2],sc:=λg8 x7=>(SC.add (SC.add SC.nil K Xa x7.1 g8.1) K Xa x7.2 g8.2)}:Jn (Int×Int) (V×V))) (a3.natAbs+a4.natAbs+2) (v5,v6) (a3,a4) rfl rfl (λ_ s=>(SC.i (SC.i SC.t s.l.r) s.r)) (λg9 x10=>(Xp (K:=K) (V8 (Xb (r:=Xa) 1 rfl (λ_ s=>s.r)) (Xe 0)))) (λg9 x10=>(Fh (K:=K) 0 1 (Xl (r:=Xa) 1 rfl (λ_ s=>s.r)) (EvB.sh (XU (Xb (r:=Xa) 0 rfl (λ_ s=>s.l.r)) (Xb (r:=Xa) 1 rfl (λ_ s=>s.r)))) λa15 a16 v17 v18=>(Xw (J:=_) (v17,v18) (a15,a16) rfl rfl (λ_ s=>(SC.i (SC.i SC.t s.l.r) s.r))))) λg19 x20=>(XC (EvS.ev (Xl (r:=Xa) 0 rfl (λ_ s=>s.l.r))))))
theorem Kh:FnScope ["_law_way","_law_size","_law_factor","_law_some","_law_a"] ["_law_way","_law_size","_law_factor"] (Xk FQ):=⟨rfl,rfl,rfl,by decide+kernel,rfl,by decide+kernel,by decide+kernel⟩
theorem Iv (D:Def K mg "_law_made" FQ ["_law_way","_law_size","_law_factor"])(g_common:Fn P w K mg base 1 "_law_common" ["_law_one","_law_other"] (sp2 Xa Xa (oF Xa) QN K))(g_cell_of:Fn P w K mg base 1 "_law_cell_of" ["_law_way","_law_size","_law_factor","_law_a","_law_b"] (sp5 Xa Xa Xa Xa Xa (oF Xa) ZS K))(Z:Blt mg):Fn P w K mg base 2 "_law_made" ["_law_way","_law_size","_law_factor"] (sp3 Xa Xa Xa (oL (oL (oF Xa))) UP K):=by
 refine Ys D Kh (λvs H Q E h=>?_) (λf cdv A outer s H vs Q E hr h=>?_)
 ·obtain⟨v_0,v_1,v_2,a_0,a_1,a_2,b,rfl,_⟩:=h;rfl
 obtain⟨v_0,v_1,v_2,a_0,a_1,a_2,b,rfl,h_0,h_1,h_2,hm,q⟩:=h
 have hu:=hu8 hr
 have hu1:=Yo hr
 refine⟨_,(Xc (Yj (PW.pt (Z4 (Xu ZG (pv 0) Xh (XD _)) (Qv (Xu ZG (pv 1) Xh (XD _)))))
   (@Xc _ _ _ _ _ (@Xz _ _ _ _ (@KO _))
   Xg)
   Xg)
  (Xc (Vp PassesOwn.never (Xu G7 (X5 g_common hr (by decide) (Xd (pv 2) (Xd (pv 1) Xf))) Xh (XD _))
   (Xc (Xq (i:=2) Kh.nd rfl (Or.inr rfl) (Xs X0 (pv 2) Xh))
   Xg))
  (Xc (Xq (i:=3) Kh.nd rfl (Or.inl rfl) (XZ Xf))
  (Xc (X2 PassesOwn.never rfl (XH rfl Z.b_range (Xd (pv 1) Xf)) (Xo (i:=4) Kh.nd rfl (Or.inr rfl))
   (Xc (Ye (Zt PySem.F.plainAttrs_list PySem.F.slot_list_append PySem.F.type_list_append XT (pv 3) (Xd (YX (sc:=(Xk FQ)) (N0:=["_law_way","_law_size","_law_factor","_law_some","_law_a"]) (tns:=["_law_b"]) (caps:=[(0,"_law_way"),(1,"_law_size"),(2,"_law_factor"),(4,"_law_a")]) rfl (XH rfl Z.b_range (Xd (pv 1) Xf)) (YI (by decide)) (λcl C s H ex E=>⟨Xo (i:=0) (show List.Nodup (["_law_b","_law_way","_law_size","_law_factor","_law_a"]:List Str) by decide+kernel) rfl (Or.inl rfl),Y0,(X5 g_cell_of hr (by decide) (Xd (pv 1) (Xd (pv 2) (Xd (pv 3) (Xd (pv 4) (Xd (pv 0) Xf))))))⟩)) Xf)))
   Xg))
  (Xc (Xz (pv 3))
  Xg))))),?_⟩
 refine Yw (S:=(SC.add (SC.add (SC.add SC.nil K Xa v_0 a_0) K Xa v_1 a_1) K Xa v_2 a_2)) (σ:=[some v_0,some v_1,some v_2,none,none]) 1 ?_ (SC.i (SC.i (SC.i SC.t h_0) h_1) h_2) hm q rfl
 unfold UP
 exact(ZM (Zj (Xp (K:=K) (YL (Xb (r:=Xa) 0 rfl (λ_ s=>s.l.l.r)) (Xe 5))) (Xp (K:=K) (YL (Xb (r:=Xa) 1 rfl (λ_ s=>s.l.r)) (Xe 4)))) (XC (BF (QF (Ze (Xt (EvB.sh (Xe 0)) (Xt (EvB.sh (Xe 3)) (Xt (EvB.sh (Xe 1)) (Xt (EvB.sh (Xe 2)) Yt))))) λ_=>(QF (Ze (Xt (EvB.sh (Xe 2)) (Xt (EvB.sh (Xe 1)) (Xt (EvB.sh (Xe 3)) (Xt (EvB.sh (Xe 0)) Yt))))) λ_=>(QF (Ze (Xt (EvB.sh (Xe 3)) (Xt (EvB.sh (Xe 0)) (Xt (EvB.sh (Xe 2)) (Xt (EvB.sh (Xe 1)) Yt))))) λ_=>(QF (Ze (Xt (EvB.sh (Xe 1)) (Xt (EvB.sh (Xe 2)) (Xt (EvB.sh (Xe 0)) (Xt (EvB.sh (Xe 3)) Yt))))) λ_=>F5)))))) (Vm (J:=({oo:=λx51=>[[]],ss:=λx51=>[some v_0,some v_1,some x51,none,none],sc:=λg52 x51=>(SC.add (SC.add (SC.add SC.nil K Xa v_0 a_0) K Xa v_1 a_1) K Xa x51 g52)}:Jn (Int) (V))) (a_1.natAbs+2) (v_2) (a_2) rfl rfl (λ_ s=>(SC.i (SC.i (SC.i SC.t s.l.l.r) s.l.r) s.r)) (λg53 x54=>(Xp (K:=K) (VC (Ev.toB (X4 (Xb (r:=Xa) 2 rfl (λ_ s=>s.r)) (Xb (r:=Xa) 1 rfl (λ_ s=>s.l.r)))) (Xe 1)))) (λg53 x54=>(Xx (K:=K) (r:=Xa) 2 (EvB.sh (XL (Xb (r:=Xa) 2 rfl (λ_ s=>s.r)) (Xe 1))) λa60 v61=>(Xw (J:=_) (v61) (a60) rfl rfl (λ_ s=>(SC.i (SC.i (SC.i SC.t s.l.l.l.r) s.l.l.r) s.r))))) λg64 x65=>(XS (K:=K) (o:=(oL (oL (oF Xa)))) 3 0 (Qm (o:=(oL (oF Xa)))) (Nat.le_of_ble_eq_true rfl) λa66 v67 C68=>(Yk (K:=K) (J:=({oo:=λx70=>[x70.2.2],ss:=λx70=>[some v_0,some v_1,some x65,some x70.2.1,x70.1],sc:=λg71 x70=>(SC.addO (SC.add (SC.add (SC.add SC.nil K Xa v_0 a_0) K Xa v_1 a_1) K Xa x65 g64) K (oL (oL (oF Xa))) x70.2.1 g71 x70.2.2)}:Jn ((List (List Int))) (Option V×V×List XF))) (λ_=>tg1 4) ((none),v67,C68) (a66) (Xv (Xb (r:=Xa) 1 rfl (λ_ s=>s.l.l.r))) rfl rfl (λ_ s=>(SC.i (SC.i (SC.i (SC.i SC.t s.l.l.l.r) s.l.l.r) s.l.r) s.r)) (λg72 x73 a74 v75=>(Zl (K:=K) (o:=(oL (oF Xa))) (f:=λa89=>(Rs.ok (a89))) 3 0 rfl rfl rfl (λ_ s=>s.l.r) (Y3 (λ_=>tg1 0) (Xv (Xb (r:=Xa) 1 rfl (λ_ s=>s.l.l.l.r))) (λC77 a78 v79=>(Fp (Xb (r:=Xa) 1 rfl (λ_ s=>s.l.l.l.l.l.r)) (Xb (r:=Xa) 2 rfl (λ_ s=>s.l.l.l.l.r)) (Xb (r:=Xa) 3 rfl (λ_ s=>s.l.l.l.r)) (Xb (r:=Xa) 4 rfl (λ_ s=>s.l.r)) (Xb (r:=Xa) 0 rfl (λ_ s=>s.r))))) λa87 C88=>(Xw (J:=_) ((some v75),x73.2.1,C88) ((g72++[a87])) rfl rfl (λ_ s=>(SC.i (SC.i (SC.i (SC.i SC.t s.l.l.l.l.l.r) s.l.l.l.l.r) s.l.l.l.r) s.r))))) λg90 x91=>(XC (Yd (o:=(oL (oL (oF Xa)))) 3 0 rfl rfl (λ_ s=>s.r)))))))
theorem QU:FnScope ["_law_some","_law_count_here","_law_left","_law_found","_law_k"] ["_law_some","_law_count_here"] (Xk V3):=⟨rfl,rfl,rfl,by decide+kernel,rfl,by decide+kernel,by decide+kernel⟩
theorem DJ (D:Def K mg "_law_ordered" V3 ["_law_some","_law_count_here"])(Z:Blt mg):Fn P w K mg base 1 "_law_ordered" ["_law_some","_law_count_here"] (sp2 (rV Xa) Xa (oL (oF Xa)) ZC K):=by
 refine Ys D QU (λvs H Q E h=>?_) (λf cdv A outer s H vs Q E hr h=>?_)
 ·obtain⟨v_0,v_1,a_0,a_1,b,rfl,_⟩:=h;rfl
 obtain⟨v_0,v_1,a_0,a_1,b,rfl,h_0,h_1,hm,q⟩:=h
 have hu:=hu8 hr
 have hu1:=Yo hr
 refine⟨_,(Xc (Xq (i:=2) QU.nd rfl (Or.inl rfl) (Vb rfl rfl rfl Z.b_list Z.b_range (Xd (pv 1) Xf)))
  (Xc (Xq (i:=3) QU.nd rfl (Or.inl rfl) (XZ Xf))
  (Xc (X2 PassesOwn.never rfl (XH rfl Z.b_range (Xd (pv 1) Xf)) (Xo (i:=4) QU.nd rfl (Or.inl rfl))
   (Xc (Ye (Zt PySem.F.plainAttrs_list PySem.F.slot_list_append PySem.F.type_list_append XT (pv 3) (Xd (Zt PySem.F.plainAttrs_list PySem.F.slot_list_pop PySem.F.type_list_pop U3 (pv 2) (Xd (Xs Yb (Xy (Xj K rfl) (pv 0) (pv 4) (λ_ _=>rfl)) (Xn (Xi K rfl) rfl Z.b_len PySem.boot_len (Xd (pv 2) Xf))) Xf)) Xf)))
   Xg))
  (Xc (Xz (pv 3))
  Xg)))),?_⟩
 refine Yw (S:=(SC.add (SC.add SC.nil K (rV Xa) v_0 a_0) K Xa v_1 a_1)) (σ:=[some v_0,some v_1,none,none,none]) 2 ?_ (SC.i (SC.i SC.t h_0) h_1) hm q rfl
 unfold ZC
 exact(XS (K:=K) (o:=(oL (oF Xa))) 2 1 (Va (Xb (r:=Xa) 1 rfl (λ_ s=>s.r))) (Nat.le_of_ble_eq_true rfl) λa1 v2 C3=>(XS (K:=K) (o:=(oL (oF Xa))) 3 0 (Qm (o:=(oF Xa))) (Nat.le_of_ble_eq_true rfl) λa5 v6 C7=>(Yk (K:=K) (J:=({oo:=λx9=>[x9.2.2.2.1,x9.2.2.2.2],ss:=λx9=>[some v_0,some v_1,some x9.2.2.1,some x9.2.1,x9.1],sc:=λg10 x9=>(SC.addO (SC.addO (SC.add (SC.add SC.nil K (rV Xa) v_0 a_0) K Xa v_1 a_1) K (oL (oF Xa)) x9.2.1 g10.1 x9.2.2.2.1) K (oL (oF Xa)) x9.2.2.1 g10.2 x9.2.2.2.2)}:Jn ((List Int)×(List Int)) (Option V×V×V×List XF×List XF))) (λ_=>tg1 4) ((none),v6,v2,C7,C3) (a5,a1) (Xv (Xb (r:=Xa) 1 rfl (λ_ s=>s.l.l.r))) rfl rfl (λ_ s=>(SC.i (SC.i (SC.i (SC.i SC.t s.l.l.l.r) s.l.l.r) s.r) s.l.r)) (λg11 x12 a13 v14=>(G9 (K:=K) (r:=Xa) (f:=λa21 a22=>(Rs.ok (a22,a21))) 2 1 3 0 (by decide) rfl rfl (λ_ s=>s.l.r) rfl rfl (λ_ s=>s.l.l.r) (XU (Xr (Xb (r:=(rV Xa)) 0 rfl (λ_ s=>s.l.l.l.l.r)) (Xb (r:=Xa) 4 rfl (λ_ s=>s.r))) (XA (YC (o:=(oL (oF Xa))) 2 1 rfl rfl (λ_ s=>s.l.r)))) λa20 a21 C23 C24=>(Xw (J:=_) ((some v14),x12.2.1,x12.2.2.1,C24,C23) ((g11.1++[a20]),a21) rfl rfl (λ_ s=>(SC.i (SC.i (SC.i (SC.i SC.t s.l.l.l.l.l.l.r) s.l.l.l.l.l.r) s.r) s.l.r))))) λg27 x28=>(XC (Yd (o:=(oL (oF Xa))) 3 0 rfl rfl (λ_ s=>s.l.r))))))
theorem Ji:FnScope ["_law_some","_law_spots","_law_found","_law_a","_law_b"] ["_law_some","_law_spots"] (Xk Vn):=⟨rfl,rfl,rfl,by decide+kernel,rfl,by decide+kernel,by decide+kernel⟩
theorem CQ (D:Def K mg "_law_relaid" Vn ["_law_some","_law_spots"])(Z:Blt mg):Fn P w K mg base 1 "_law_relaid" ["_law_some","_law_spots"] (sp2 (rV (rV Xa)) (rV Xa) (oL (oL (oF Xa))) Z2 K):=by
 refine Ys D Ji (λvs H Q E h=>?_) (λf cdv A outer s H vs Q E hr h=>?_)
 ·obtain⟨v_0,v_1,a_0,a_1,b,rfl,_⟩:=h;rfl
 obtain⟨v_0,v_1,a_0,a_1,b,rfl,h_0,h_1,hm,q⟩:=h
 have hu:=hu8 hr
 have hu1:=Yo hr
 refine⟨_,(Xc (JT 2 (Xk Vn) ["_law_some","_law_spots","_law_found","_law_a","_law_b"] ["_law_line"] [] rfl Ji.nd rfl rfl (XO (K:=K) rfl (pv 0)) (YI (by decide)) (λcl C s H ex E=>⟨Xo (i:=0) (show List.Nodup (["_law_line"]:List Str) by decide+kernel) rfl (Or.inl rfl),Y0,(YO (X6 K rfl) rfl Z.b_list PyProof.Rows.boot_list (Xd (pv 0) Xf))⟩))
  (Xc (X2 PassesOwn.never rfl (XH rfl Z.b_range (Xd (Xn (Xi K rfl) rfl Z.b_len PySem.boot_len (Xd (pv 0) Xf)) Xf)) (Xo (i:=3) Ji.nd rfl (Or.inl rfl))
   (Xc (X2 PassesOwn.never rfl (XH rfl Z.b_range (Xd (Xn (Xi K rfl) rfl Z.b_len PySem.boot_len (Xd (pv 0) Xf)) Xf)) (Xo (i:=4) Ji.nd rfl (Or.inl rfl))
    (Xc (Vc (Xy (Xj K rfl) (pv 1) (Xy (Xj K rfl) (Xy (Xj K rfl) (pv 0) (pv 3) (λ_ _=>rfl)) (pv 4) (λ_ _=>rfl)) (λ_ _=>rfl)) (FH (Xy (Xj K rfl) (pv 2) (Xy (Xj K rfl) (pv 1) (pv 3) (λ_ _=>rfl)) (λ_ _=>rfl)) (Xy (Xj K rfl) (pv 1) (pv 4) (λ_ _=>rfl)) Vq))
    Xg))
   Xg))
  (Xc (Xz (pv 2))
  Xg))),?_⟩
 refine Yw (S:=(SC.add (SC.add SC.nil K (rV (rV Xa)) v_0 a_0) K (rV Xa) v_1 a_1)) (σ:=[some v_0,some v_1,none,none,none]) 1 ?_ (SC.i (SC.i SC.t h_0) h_1) hm q rfl
 unfold Z2
 exact(XS (K:=K) (o:=(oL (oL (oF Xa)))) 2 0 (Y3 (λ_=>tg1 0) (XI (Xl (r:=(rV (rV Xa))) 0 rfl (λ_ s=>s.l.r))) (λC4 a5 v6=>(Z7 (EvS.ls (Xl (r:=(rV Xa)) 0 rfl (λ_ s=>s.r)))))) (Nat.le_of_ble_eq_true rfl) λa1 v2 C3=>(Yk (K:=K) (J:=({oo:=λx11=>[x11.2.2.2],ss:=λx11=>[some v_0,some v_1,some x11.2.2.1,x11.1,x11.2.1],sc:=λg12 x11=>(SC.addO (SC.add (SC.add SC.nil K (rV (rV Xa)) v_0 a_0) K (rV Xa) v_1 a_1) K (oL (oL (oF Xa))) x11.2.2.1 g12 x11.2.2.2)}:Jn ((List (List Int))) (Option V×Option V×V×List XF))) (λ_=>tg1 3) ((none),(none),v2,C3) (a1) (Xv (XA (Xb (r:=(rV (rV Xa))) 0 rfl (λ_ s=>s.l.l.r)))) rfl rfl (λ_ s=>(SC.i (SC.i (SC.i SC.t s.l.l.r) s.l.r) s.r)) (λg13 x14 a15 v16=>(Yk (K:=K) (J:=({oo:=λx19=>[x19.2.2],ss:=λx19=>[some v_0,some v_1,some x19.2.1,some v16,x19.1],sc:=λg20 x19=>(SC.addO (SC.add (SC.add (SC.add SC.nil K (rV (rV Xa)) v_0 a_0) K (rV Xa) v_1 a_1) K Xa v16 a15) K (oL (oL (oF Xa))) x19.2.1 g20 x19.2.2)}:Jn ((List (List Int))) (Option V×V×List XF))) (λ_=>tg1 4) ((x14.2.1),x14.2.2.1,x14.2.2.2) (g13) (Xv (XA (Xb (r:=(rV (rV Xa))) 0 rfl (λ_ s=>s.l.l.l.r)))) rfl rfl (λ_ s=>(SC.i (SC.i (SC.i (SC.i SC.t s.l.l.l.r) s.l.l.r) s.r) s.l.r)) (λg21 x22 a23 v24=>(C5 (K:=K) (r:=Xa) 2 0 rfl rfl (λ_ s=>s.l.r) (EvB.sh (Xr (Xb (r:=(rV Xa)) 1 rfl (λ_ s=>s.l.l.l.r)) (Xr (Xr (Xb (r:=(rV (rV Xa))) 0 rfl (λ_ s=>s.l.l.l.l.r)) (Xb (r:=Xa) 3 rfl (λ_ s=>s.l.l.r))) (Xb (r:=Xa) 4 rfl (λ_ s=>s.r))))) (Xr (Xb (r:=(rV Xa)) 1 rfl (λ_ s=>s.l.l.l.r)) (Xb (r:=Xa) 3 rfl (λ_ s=>s.l.l.r))) (Xr (Xb (r:=(rV Xa)) 1 rfl (λ_ s=>s.l.l.l.r)) (Xb (r:=Xa) 4 rfl (λ_ s=>s.r))) λa38 C39=>(Xw (J:=_) ((some v24),x22.2.1,C39) (a38) rfl rfl (λ_ s=>(SC.i (SC.i (SC.i (SC.i SC.t s.l.l.l.l.l.r) s.l.l.l.l.r) s.l.l.l.r) s.r))))) λg42 x43=>(Xw (J:=_) ((some v16),(x43.1),x43.2.1,x43.2.2) (g42) rfl rfl (λ_ s=>(SC.i (SC.i (SC.i SC.t s.l.l.l.r) s.l.l.r) s.r))))) λg45 x46=>(XC (Yd (o:=(oL (oL (oF Xa)))) 2 0 rfl rfl (λ_ s=>s.r)))))
theorem Zp:FnScope ["_law_script","_law_place","_law_most","_law_some","_law_size","_law_found"] ["_law_script","_law_place","_law_most"] (Xk QK):=⟨rfl,rfl,rfl,by decide+kernel,rfl,by decide+kernel,by decide+kernel⟩
theorem U2 (D:Def K mg "_law_good_table" QK ["_law_script","_law_place","_law_most"])(g_row:Fn P w K mg base 2 "_law_row" ["_law_script","_law_place","_law_sizes"] (sp3 (rL Xa) Xa (rV Xa) (oL (oF Xa)) Up K))(g_made:Fn P w K mg base 2 "_law_made" ["_law_way","_law_size","_law_factor"] (sp3 Xa Xa Xa (oL (oL (oF Xa))) UP K))(g_relaid:Fn P w K mg base 1 "_law_relaid" ["_law_some","_law_spots"] (sp2 (rV (rV Xa)) (rV Xa) (oL (oL (oF Xa))) Z2 K))(g_ordered:Fn P w K mg base 1 "_law_ordered" ["_law_some","_law_count_here"] (sp2 (rV Xa) Xa (oL (oF Xa)) ZC K))(Z:Blt mg):Fn P w K mg base 3 "_law_good_table" ["_law_script","_law_place","_law_most"] (sp3 (rL Xa) Xa Xa (oL (oL (oF Xa))) Y1 K):=by
 refine Ys D Zp (λvs H Q E h=>?_) (λf cdv A outer s H vs Q E hr h=>?_)
 ·obtain⟨v_0,v_1,v_2,a_0,a_1,a_2,b,rfl,_⟩:=h;rfl
 obtain⟨v_0,v_1,v_2,a_0,a_1,a_2,b,rfl,h_0,h_1,h_2,hm,q⟩:=h
 have hu:=hu8 hr
 have hu1:=Yo hr
 refine⟨_,(Xc (Xq (i:=3) Zp.nd rfl (Or.inl rfl) (X5 g_row hr (by decide) (Xd (pv 0) (Xd (pv 1) (Xd (Xs Ul (XZ (Xd Xh (Xd Xh (Xd Xh (Xd Xh (Xd Xh Xf)))))) (Xs J6 (XZ (Xd Xh Xf)) Xh)) Xf)))))
  (Xc (Xq (i:=4) Zp.nd rfl (Or.inl rfl) (Xs X0 Xh (Xs Yb (Xy (Xj K rfl) (pv 3) Xh (λ_ _=>rfl)) (pv 2))))
  (Xc (Yj (PW.pt (Z4 (Xu GR (pv 2) Xh (XD _)) (Qv (Xu GR (Xy (Xj K rfl) (pv 3) Xh (λ_ _=>rfl)) Xh (XD _)))))
   (Xc (Xq (i:=4) Zp.nd rfl (Or.inl rfl) (Xs X0 Xh (Xs Yb (Xy (Xj K rfl) (pv 3) Xh (λ_ _=>rfl)) (Xs ZZ (pv 2) Xh))))
   Xg)
   Xg)
  (Xc (Xq (i:=5) Zp.nd rfl (Or.inl rfl) (X5 g_made hr (by decide) (Xd (Xy (Xj K rfl) (pv 3) Xh (λ_ _=>rfl)) (Xd (pv 4) (Xd (Xs X0 Xh (Xy (Xj K rfl) (pv 3) Xh (λ_ _=>rfl))) Xf)))))
  (Xc (Yj (Xu ZG (Xy (Xj K rfl) (pv 3) Xh (λ_ _=>rfl)) Xh (XD _))
   (Xc (Xz (pv 5))
   Xg)
   Xg)
  (Xc (Xz (X5 g_relaid hr (by decide) (Xd (pv 5) (Xd (X5 g_ordered hr (by decide) (Xd (JG (Js K rfl) (pv 3) (VP Xh) VS) (Xd (pv 4) Xf))) Xf))))
  Xg)))))),?_⟩
 refine Yw (S:=(SC.add (SC.add (SC.add SC.nil K (rL Xa) v_0 a_0) K Xa v_1 a_1) K Xa v_2 a_2)) (σ:=[some v_0,some v_1,some v_2,none,none,none]) 1 ?_ (SC.i (SC.i (SC.i SC.t h_0) h_1) h_2) hm q rfl
 unfold Y1
 exact(Xx (K:=K) (r:=(rV Xa)) 3 (Ev.sh (YW (Xb (r:=(rL Xa)) 0 rfl (λ_ s=>s.l.l.r)) (Xb (r:=Xa) 1 rfl (λ_ s=>s.l.r)) (Ev.toB (V0 (Ev.ls (Ze (Xt (EvB.sh (Xe 7)) (Xt (EvB.sh (Xe 24)) (Xt (EvB.sh (Xe 6)) (Xt (EvB.sh (Xe 2)) (Xt (EvB.sh (Xe 6)) Yt))))))) (Ev.ls (J5 (Ev.ls (Ze (Xt (EvB.sh (Xe 24)) Yt))) (Xe 24))))))) λa1 v2=>(Xx (K:=K) (r:=Xa) 4 (EvB.sh (XL (Xe 1) (XU (Xr (Xb (r:=(rV Xa)) 3 rfl (λ_ s=>s.r)) (Xe 1)) (Xb (r:=Xa) 2 rfl (λ_ s=>s.l.r))))) λa25 v26=>(Zd (J:=({oo:=λx40=>[[]],ss:=λx40=>[some v_0,some v_1,some v_2,some v2,some x40,none],sc:=λg41 x40=>(SC.add (SC.add (SC.add (SC.add (SC.add SC.nil K (rL Xa) v_0 a_0) K Xa v_1 a_1) K Xa v_2 a_2) K (rV Xa) v2 a1) K Xa x40 g41)}:Jn (Int) (V))) (ZH (Fd:=FNd ({oo:=λx40=>[[]],ss:=λx40=>[some v_0,some v_1,some v_2,some v2,some x40,none],sc:=λg41 x40=>(SC.add (SC.add (SC.add (SC.add (SC.add SC.nil K (rL Xa) v_0 a_0) K Xa v_1 a_1) K Xa v_2 a_2) K (rV Xa) v2 a1) K Xa x40 g41)}:Jn (Int) (V))) (Zj (Xp (K:=K) (V8 (Xb (r:=Xa) 2 rfl (λ_ s=>s.l.l.r)) (Xe 2))) (Xp (K:=K) (V8 (Xr (Xb (r:=(rV Xa)) 3 rfl (λ_ s=>s.l.r)) (Xe 4)) (Xe 0)))) (Xx (K:=K) (r:=Xa) 4 (EvB.sh (XL (Xe 3) (XU (Xr (Xb (r:=(rV Xa)) 3 rfl (λ_ s=>s.l.r)) (Xe 1)) (Zq (Xb (r:=Xa) 2 rfl (λ_ s=>s.l.l.r)) (Xe 2))))) λa42 v43=>(Xw (J:=_) (v43) (a42) rfl rfl (λ_ s=>(SC.i (SC.i (SC.i (SC.i (SC.i SC.t s.l.l.l.l.l.r) s.l.l.l.l.r) s.l.l.l.r) s.l.l.r) s.r)))) (Xw (J:=_) (v26) (a25) rfl rfl (λ_ s=>(SC.i (SC.i (SC.i (SC.i (SC.i SC.t s.l.l.l.l.r) s.l.l.l.r) s.l.l.r) s.l.r) s.r)))) λg53 x52=>(XS (K:=K) (o:=(oL (oL (oF Xa)))) 5 0 (YW (Xr (Xb (r:=(rV Xa)) 3 rfl (λ_ s=>s.l.r)) (Xe 0)) (Xb (r:=Xa) 4 rfl (λ_ s=>s.r)) (XL (Xe 2) (Xr (Xb (r:=(rV Xa)) 3 rfl (λ_ s=>s.l.r)) (Xe 2)))) (Nat.le_of_ble_eq_true rfl) λa54 v55 C56=>(ZM (Xp (K:=K) (YL (Xr (Xb (r:=(rV Xa)) 3 rfl (λ_ s=>s.l.l.r)) (Xe 3)) (Xe 0))) (XC (Yd (o:=(oL (oL (oF Xa)))) 5 0 rfl rfl (λ_ s=>s.r))) (XC (X4 (YC (o:=(oL (oL (oF Xa)))) 5 0 rfl rfl (λ_ s=>s.r)) (Ev.toB (X4 (Ev.toB (Vv (EvS.ls (Xl (r:=(rV Xa)) 3 rfl (λ_ s=>s.l.l.r))) (JD (K:=K) (Xe 5)) Jw)) (Xb (r:=Xa) 4 rfl (λ_ s=>s.l.r)))))))))))
theorem Yq:FnScope ["_law_walks","_law_found","_law_count_here","_law_walk","_law_first","_law_number","_law_last","_law_k","_law_row_here"] ["_law_walks"] (Xk UY):=⟨rfl,rfl,rfl,by decide+kernel,rfl,by decide+kernel,by decide+kernel⟩
theorem Co (D:Def K mg "_law_arcs" UY ["_law_walks"])(Z:Blt mg):Fn P w K mg base 1 "_law_arcs" ["_law_walks"] (sp1 (rV (rV Xa)) (oL (oL (oF Xa))) QS K):=by
 refine Ys D Yq (λvs H Q E h=>?_) (λf cdv A outer s H vs Q E hr h=>?_)
 ·obtain⟨v_0,a_0,b,rfl,_⟩:=h;rfl
 obtain⟨v_0,a_0,b,rfl,h_0,hm,q⟩:=h
 have hu:=hu8 hr
 have hu1:=Yo hr
 refine⟨_,(Xc (Xq (i:=1) Yq.nd rfl (Or.inl rfl) (XZ Xf))
  (Xc (Xq (i:=2) Yq.nd rfl (Or.inl rfl) Xh)
  (Xc (X2 PassesOwn.never rfl (XO (K:=K) rfl (pv 0)) (Xo (i:=3) Yq.nd rfl (Or.inl rfl))
   (Xc (Xq (i:=4) Yq.nd rfl (Or.inl rfl) (pv 2))
   (Xc (Xq (i:=5) Yq.nd rfl (Or.inl rfl) (pv 2))
   (Xc (Xq (i:=6) Yq.nd rfl (Or.inl rfl) (U7 Jx Xh))
   (Xc (X2 PassesOwn.never rfl (XH rfl Z.b_range (Xd (Xn (Xi K rfl) rfl Z.b_len PySem.boot_len (Xd (pv 3) Xf)) Xf)) (Xo (i:=7) Yq.nd rfl (Or.inl rfl))
    (Xc (Yj (Xu Ql (Xy (Xj K rfl) (pv 3) (pv 7) (λ_ _=>rfl)) Xh (XD _))
     (Xc (Xq (i:=6) Yq.nd rfl (Or.inl rfl) (pv 7))
     Xg)
     Xg)
    Xg))
   (Xc (Xq (i:=8) Yq.nd rfl (Or.inl rfl) (Xs J6 (XZ (Xd (pv 4) Xf)) (Xn (VT rfl) rfl Z.b_max PyProof.Rows.boot_max (Xd (Xn (Xi K rfl) rfl Z.b_len PySem.boot_len (Xd (pv 3) Xf)) (Xd Xh Xf)))))
   (Xc (X2 PassesOwn.never rfl (XH rfl Z.b_range (Xd (Xs X0 (pv 6) Xh) Xf)) (Xo (i:=7) Yq.nd rfl (Or.inl rfl))
    (Xc (Vc (pv 5) (FH (pv 8) (pv 7) Vq))
    (Xc (Yj (PW.pt (Z4 (Xu Ql (Xy (Xj K rfl) (pv 3) (pv 7) (λ_ _=>rfl)) Xh (XD _)) (Qv (Xu Ql (pv 7) (pv 6) (XD _)))))
     (Xc (Xq (i:=2) Yq.nd rfl (Or.inl rfl) (Xs X0 (pv 2) Xh))
     (Xc (Xq (i:=5) Yq.nd rfl (Or.inl rfl) (pv 2))
     Xg))
     Xg)
    Xg)))
   (Xc (Xq (i:=2) Yq.nd rfl (Or.inl rfl) (Xs X0 (pv 2) Xh))
   (Xc (Ye (Zt PySem.F.plainAttrs_list PySem.F.slot_list_append PySem.F.type_list_append XT (pv 1) (Xd (pv 8) Xf)))
   Xg)))))))))
  (Xc (Xz (pv 1))
  Xg)))),?_⟩
 refine Yw (S:=(SC.add SC.nil K (rV (rV Xa)) v_0 a_0)) (σ:=[some v_0,none,none,none,none,none,none,none,none]) 2 ?_ (SC.i SC.t h_0) hm q rfl
 unfold QS
 exact(XS (K:=K) (o:=(oL (oL (oF Xa)))) 1 0 (Qm (o:=(oL (oF Xa)))) (Nat.le_of_ble_eq_true rfl) λa1 v2 C3=>(Xx (K:=K) (r:=Xa) 2 (EvB.sh (Xe 0)) λa4 v5=>(Yk (K:=K) (J:=({oo:=λx6=>[x6.2.2.2.2.2.2.2.2,[]],ss:=λx6=>[some v_0,some x6.2.2.2.2.2.2.2.1,some x6.2.2.2.2.2.2.1,x6.1,x6.2.1,x6.2.2.1,x6.2.2.2.1,x6.2.2.2.2.1,x6.2.2.2.2.2.1],sc:=λg7 x6=>(SC.addO (SC.add (SC.add SC.nil K (rV (rV Xa)) v_0 a_0) K Xa x6.2.2.2.2.2.2.1 g7.1) K (oL (oL (oF Xa))) x6.2.2.2.2.2.2.2.1 g7.2 x6.2.2.2.2.2.2.2.2)}:Jn (Int×(List (List Int))) (Option V×Option V×Option V×Option V×Option V×Option V×V×V×List XF))) (λ_=>tg1 3) ((none),(none),(none),(none),(none),(none),v5,v2,C3) (a4,a1) (XI (Xl (r:=(rV (rV Xa))) 0 rfl (λ_ s=>s.l.l.r))) rfl rfl (λ_ s=>(SC.i (SC.i (SC.i SC.t s.l.l.r) s.r) s.l.r)) (λg8 x9 a10 v11=>(Xx (K:=K) (r:=Xa) 4 (Xl (r:=Xa) 2 rfl (λ_ s=>s.l.l.r)) λa12 v13=>(Xx (K:=K) (r:=Xa) 5 (Xl (r:=Xa) 2 rfl (λ_ s=>s.l.l.l.r)) λa14 v15=>(Xx (K:=K) (r:=Xa) 6 (EvB.sh (Qq (Xe 1))) λa16 v17=>(Yk (K:=K) (J:=({oo:=λx21=>[x9.2.2.2.2.2.2.2.2,[]],ss:=λx21=>[some v_0,some x9.2.2.2.2.2.2.2.1,some x9.2.2.2.2.2.2.1,some v11,some v13,some v15,some x21.2,x21.1,x9.2.2.2.2.2.1],sc:=λg22 x21=>(SC.add (SC.add (SC.add (SC.add (SC.addO (SC.add (SC.add SC.nil K (rV (rV Xa)) v_0 a_0) K Xa x9.2.2.2.2.2.2.1 g8.1) K (oL (oL (oF Xa))) x9.2.2.2.2.2.2.2.1 g8.2 x9.2.2.2.2.2.2.2.2) K (rV Xa) v11 a10) K Xa v13 a12) K Xa v15 a14) K Xa x21.2 g22)}:Jn (Int) (Option V×V))) (λ_=>tg1 7) ((x9.2.2.2.2.1),v17) (a16) (Xv (XA (Xb (r:=(rV Xa)) 3 rfl (λ_ s=>s.l.l.l.r)))) rfl rfl (λ_ s=>(SC.i (SC.i (SC.i (SC.i (SC.i (SC.i (SC.i SC.t s.l.l.l.l.l.l.r) s.l.l.l.l.l.r) s.l.l.l.l.r) s.l.l.l.r) s.l.l.r) s.l.r) s.r)) (λg23 x24 a25 v26=>(Zd (J:=({oo:=λx32=>[x9.2.2.2.2.2.2.2.2,[]],ss:=λx32=>[some v_0,some x9.2.2.2.2.2.2.2.1,some x9.2.2.2.2.2.2.1,some v11,some v13,some v15,some x32,some v26,x9.2.2.2.2.2.1],sc:=λg33 x32=>(SC.add (SC.add (SC.add (SC.add (SC.add (SC.addO (SC.add (SC.add SC.nil K (rV (rV Xa)) v_0 a_0) K Xa x9.2.2.2.2.2.2.1 g8.1) K (oL (oL (oF Xa))) x9.2.2.2.2.2.2.2.1 g8.2 x9.2.2.2.2.2.2.2.2) K (rV Xa) v11 a10) K Xa v13 a12) K Xa v15 a14) K Xa v26 a25) K Xa x32 g33)}:Jn (Int) (V))) (ZH (Fd:=FNd ({oo:=λx32=>[x9.2.2.2.2.2.2.2.2,[]],ss:=λx32=>[some v_0,some x9.2.2.2.2.2.2.2.1,some x9.2.2.2.2.2.2.1,some v11,some v13,some v15,some x32,some v26,x9.2.2.2.2.2.1],sc:=λg33 x32=>(SC.add (SC.add (SC.add (SC.add (SC.add (SC.addO (SC.add (SC.add SC.nil K (rV (rV Xa)) v_0 a_0) K Xa x9.2.2.2.2.2.2.1 g8.1) K (oL (oL (oF Xa))) x9.2.2.2.2.2.2.2.1 g8.2 x9.2.2.2.2.2.2.2.2) K (rV Xa) v11 a10) K Xa v13 a12) K Xa v15 a14) K Xa v26 a25) K Xa x32 g33)}:Jn (Int) (V))) (Xp (K:=K) (Zr (Xr (Xb (r:=(rV Xa)) 3 rfl (λ_ s=>s.l.l.l.l.r)) (Xb (r:=Xa) 7 rfl (λ_ s=>s.r))) (Xe 0))) (Xx (K:=K) (r:=Xa) 6 (Xl (r:=Xa) 7 rfl (λ_ s=>s.r)) λa34 v35=>(Xw (J:=_) (v35) (a34) rfl rfl (λ_ s=>(SC.i (SC.i (SC.i (SC.i (SC.i (SC.i (SC.i (SC.i SC.t s.l.l.l.l.l.l.l.l.r) s.l.l.l.l.l.l.l.r) s.l.l.l.l.l.l.r) s.l.l.l.l.l.r) s.l.l.l.l.r) s.l.l.l.r) s.l.r) s.r)))) (Xw (J:=_) (x24.2) (g23) rfl rfl (λ_ s=>(SC.i (SC.i (SC.i (SC.i (SC.i (SC.i (SC.i (SC.i SC.t s.l.l.l.l.l.l.l.r) s.l.l.l.l.l.l.r) s.l.l.l.l.l.r) s.l.l.l.l.r) s.l.l.l.r) s.l.l.r) s.r) s.l.r)))) λg37 x36=>(Xw (J:=_) ((some v26),x36) (g37) rfl rfl (λ_ s=>(SC.i (SC.i (SC.i (SC.i (SC.i (SC.i (SC.i SC.t s.l.l.l.l.l.l.l.r) s.l.l.l.l.l.l.r) s.l.l.l.l.l.r) s.l.l.l.l.r) s.l.l.l.r) s.l.l.r) s.r))))) λg38 x39=>(XS (K:=K) (o:=(oL (oF Xa))) 8 1 (J5 (Ev.ls (Ze (Xt (Xl (r:=Xa) 4 rfl (λ_ s=>s.l.l.r)) Yt))) (G4 (XA (Xb (r:=(rV Xa)) 3 rfl (λ_ s=>s.l.l.l.r))) (Xe 1))) (Nat.le_of_ble_eq_true rfl) λa40 v41 C42=>(Yk (K:=K) (J:=({oo:=λx54=>[x9.2.2.2.2.2.2.2.2,x54.2.2.2.2],ss:=λx54=>[some v_0,some x9.2.2.2.2.2.2.2.1,some x54.2.2.1,some v11,some v13,some x54.2.2.2.1,some x39.2,x54.1,some x54.2.1],sc:=λg55 x54=>(SC.add (SC.add (SC.addO (SC.add (SC.add (SC.add (SC.addO (SC.add SC.nil K (rV (rV Xa)) v_0 a_0) K (oL (oL (oF Xa))) x9.2.2.2.2.2.2.2.1 g8.2 x9.2.2.2.2.2.2.2.2) K (rV Xa) v11 a10) K Xa v13 a12) K Xa x39.2 g38) K (oL (oF Xa)) x54.2.1 g55.1 x54.2.2.2.2) K Xa x54.2.2.1 g55.2.1) K Xa x54.2.2.2.1 g55.2.2)}:Jn ((List Int)×Int×Int) (Option V×V×V×V×List XF))) (λ_=>tg1 7) ((x39.1),v41,x9.2.2.2.2.2.2.1,v15,C42) (a40,g8.1,a14) (Xv (XL (Xb (r:=Xa) 6 rfl (λ_ s=>s.l.r)) (Xe 1))) rfl rfl (λ_ s=>(SC.i (SC.i (SC.i (SC.i (SC.i (SC.i (SC.i (SC.i SC.t s.l.l.l.l.l.l.l.r) s.l.l.l.l.l.r) s.l.l.l.l.r) s.l.l.l.r) s.l.r) s.r) s.l.l.l.l.l.l.r) s.l.l.r)) (λg56 x57 a58 v59=>(Kc (K:=K) (o:=(oF Xa)) 8 1 rfl rfl (λ_ s=>s.l.l.l.r) (EvS.ev (Xl (r:=Xa) 5 rfl (λ_ s=>s.l.r))) (λ_=>(Xb (r:=Xa) 7 rfl (λ_ s=>s.r))) λa62 C63=>(Zd (J:=({oo:=λx71=>[x9.2.2.2.2.2.2.2.2,C63],ss:=λx71=>[some v_0,some x9.2.2.2.2.2.2.2.1,some x71.1,some v11,some v13,some x71.2,some x39.2,some v59,some x57.2.1],sc:=λg72 x71=>(SC.add (SC.add (SC.add (SC.addO (SC.add (SC.add (SC.add (SC.addO (SC.add SC.nil K (rV (rV Xa)) v_0 a_0) K (oL (oL (oF Xa))) x9.2.2.2.2.2.2.2.1 g8.2 x9.2.2.2.2.2.2.2.2) K (rV Xa) v11 a10) K Xa v13 a12) K Xa x39.2 g38) K (oL (oF Xa)) x57.2.1 a62 C63) K Xa v59 a58) K Xa x71.1 g72.1) K Xa x71.2 g72.2)}:Jn (Int×Int) (V×V))) (ZH (Fd:=FNd ({oo:=λx71=>[x9.2.2.2.2.2.2.2.2,C63],ss:=λx71=>[some v_0,some x9.2.2.2.2.2.2.2.1,some x71.1,some v11,some v13,some x71.2,some x39.2,some v59,some x57.2.1],sc:=λg72 x71=>(SC.add (SC.add (SC.add (SC.addO (SC.add (SC.add (SC.add (SC.addO (SC.add SC.nil K (rV (rV Xa)) v_0 a_0) K (oL (oL (oF Xa))) x9.2.2.2.2.2.2.2.1 g8.2 x9.2.2.2.2.2.2.2.2) K (rV Xa) v11 a10) K Xa v13 a12) K Xa x39.2 g38) K (oL (oF Xa)) x57.2.1 a62 C63) K Xa v59 a58) K Xa x71.1 g72.1) K Xa x71.2 g72.2)}:Jn (Int×Int) (V×V))) (Zj (Xp (K:=K) (Zr (Xr (Xb (r:=(rV Xa)) 3 rfl (λ_ s=>s.l.l.l.l.l.l.l.r)) (Xb (r:=Xa) 7 rfl (λ_ s=>s.l.r))) (Xe 0))) (Xp (K:=K) (Zr (Xb (r:=Xa) 7 rfl (λ_ s=>s.l.r)) (Xb (r:=Xa) 6 rfl (λ_ s=>s.l.l.l.l.l.r))))) (Xx (K:=K) (r:=Xa) 2 (EvB.sh (XL (Xb (r:=Xa) 2 rfl (λ_ s=>s.l.l.l.r)) (Xe 1))) λa73 v74=>(Xx (K:=K) (r:=Xa) 5 (Xl (r:=Xa) 2 rfl (λ_ s=>s.r)) λa77 v78=>(Xw (J:=_) (v74,v78) (a73,a77) rfl rfl (λ_ s=>(SC.i (SC.i (SC.i (SC.i (SC.i (SC.i (SC.i (SC.i (SC.i SC.t s.l.l.l.l.l.l.l.l.l.l.l.r) s.l.l.l.l.l.l.l.l.l.l.r) s.l.l.l.l.l.l.l.l.l.r) s.l.l.l.l.l.l.l.l.r) s.l.l.l.l.l.l.l.r) s.l.l.r) s.l.l.l.r) s.l.r) s.r))))) (Xw (J:=_) (x57.2.2.1,x57.2.2.2.1) (g56.2.1,g56.2.2) rfl rfl (λ_ s=>(SC.i (SC.i (SC.i (SC.i (SC.i (SC.i (SC.i (SC.i (SC.i SC.t s.l.l.l.l.l.l.l.l.l.r) s.l.l.l.l.l.l.l.l.r) s.l.l.l.l.l.l.l.r) s.l.l.l.l.l.l.r) s.l.l.l.l.l.r) s.r) s.l.r) s.l.l.l.r) s.l.l.r)))) λg80 x79=>(Xw (J:=_) ((some v59),x57.2.1,x79.1,x79.2,C63) (a62,g80.1,g80.2) rfl rfl (λ_ s=>(SC.i (SC.i (SC.i (SC.i (SC.i (SC.i (SC.i (SC.i SC.t s.l.l.l.l.l.l.l.l.r) s.l.l.l.l.l.l.l.r) s.l.l.l.l.l.l.r) s.l.l.l.l.l.r) s.l.l.l.l.r) s.l.l.l.r) s.l.r) s.r)))))) λg81 x82=>(Xx (K:=K) (r:=Xa) 2 (EvB.sh (XL (Xb (r:=Xa) 2 rfl (λ_ s=>s.l.r)) (Xe 1))) λa83 v84=>(Zl (K:=K) (o:=(oL (oF Xa))) (f:=λa89=>(Rs.ok (a83,a89))) 1 0 rfl rfl rfl (λ_ s=>s.l.l.l.l.l.l.l.r) (Yd (o:=(oL (oF Xa))) 8 1 rfl rfl (λ_ s=>s.l.l.l.r)) λa87 C88=>(Xw (J:=_) ((some v11),(some v13),(some x82.2.2.2.1),(some x39.2),(x82.1),(some x82.2.1),v84,x9.2.2.2.2.2.2.2.1,C88) (a83,(g8.2++[a87])) rfl rfl (λ_ s=>(SC.i (SC.i (SC.i SC.t s.l.l.l.l.l.l.l.l.l.r) s.l.r) s.r)))))))))))) λg92 x93=>(XC (Yd (o:=(oL (oL (oF Xa)))) 1 0 rfl rfl (λ_ s=>s.r))))))
theorem Kw:FnScope ["_law_walks","_law_passage","_law_k"] ["_law_walks","_law_passage"] (Xk UZ):=⟨rfl,rfl,rfl,by decide+kernel,rfl,by decide+kernel,by decide+kernel⟩
theorem BY (D:Def K mg "_law_spot" UZ ["_law_walks","_law_passage"])(Z:Blt mg):Fn P w K mg base 1 "_law_spot" ["_law_walks","_law_passage"] (sp2 (rV (rV Xa)) Xa (oF (rP2 Xa Xa)) Qt K):=by
 refine Ys D Kw (λvs H Q E h=>?_) (λf cdv A outer s H vs Q E hr h=>?_)
 ·obtain⟨v_0,v_1,a_0,a_1,b,rfl,_⟩:=h;rfl
 obtain⟨v_0,v_1,a_0,a_1,b,rfl,h_0,h_1,hm,q⟩:=h
 have hu:=hu8 hr
 have hu1:=Yo hr
 refine⟨_,(Xc (X2 PassesOwn.never rfl (XH rfl Z.b_range (Xd (Xn (Xi K rfl) rfl Z.b_len PySem.boot_len (Xd (pv 0) Xf)) Xf)) (Xo (i:=2) Kw.nd rfl (Or.inl rfl))
   (Xc (Yj (Xu KA (pv 1) (Xy (Xj K rfl) (pv 0) (pv 2) (λ_ _=>rfl)) rfl)
    (Xc (Xz (ZD (Xd (pv 2) (Xd (Hi (K:=K) rfl PySem.F.plainAttrs_list PySem.F.slot_list_index PySem.F.type_list_index (KR K rfl) (Xy (Xj K rfl) (pv 0) (pv 2) (λ_ _=>rfl)) (Xd (pv 1) Xf)) Xf))))
    Xg)
    Xg)
   Xg))
  (Xc (Xz (ZD (Xd (U7 Jx Xh) (Xd (U7 Jx Xh) Xf))))
  Xg)),?_⟩
 refine Yw (S:=(SC.add (SC.add SC.nil K (rV (rV Xa)) v_0 a_0) K Xa v_1 a_1)) (σ:=[some v_0,some v_1,none]) 0 ?_ (SC.i (SC.i SC.t h_0) h_1) hm q rfl
 unfold Qt
 exact(Qs (K:=K) (J:=({oo:=λx3=>[],ss:=λx3=>[some v_0,some v_1,x3],sc:=λg4 x3=>(SC.add (SC.add SC.nil K (rV (rV Xa)) v_0 a_0) K Xa v_1 a_1)}:Jn (Unit) (Option V))) (λ_=>tg1 2) ((none)) () (Xv (XA (Xb (r:=(rV (rV Xa))) 0 rfl (λ_ s=>s.l.r)))) rfl rfl (λ_ s=>(SC.i (SC.i SC.t s.l.r) s.r)) (λg5 x6 a7 v8=>(Qp (Xp (K:=K) (Hu (Xb (r:=Xa) 1 rfl (λ_ s=>s.l.r)) (Xr (Xb (r:=(rV (rV Xa))) 0 rfl (λ_ s=>s.l.l.r)) (Xb (r:=Xa) 2 rfl (λ_ s=>s.r))))) (XC (EvS.ev (Jv (Xl (r:=Xa) 2 rfl (λ_ s=>s.r)) (EvB.sh (Gf (Xr (Xb (r:=(rV (rV Xa))) 0 rfl (λ_ s=>s.l.l.r)) (Xb (r:=Xa) 2 rfl (λ_ s=>s.r))) (Xb (r:=Xa) 1 rfl (λ_ s=>s.l.r))))))) (QC (Xw (J:=_) ((some v8)) () rfl rfl (λ_ s=>(SC.i (SC.i SC.t s.l.l.r) s.l.r)))))) λg22 x23=>(XC (EvS.ev (Jv (EvB.sh (Qq (Xe 1))) (EvB.sh (Qq (Xe 1)))))))
theorem Yn:FnScope ["_law_drawing","_law_walks","_law_signs","_law_rows","_law_found","_law_crossing","_law_sign","_law_up","_law_at","_law_down","_law_to","_law_behind"] ["_law_drawing"] (Xk V9):=⟨rfl,rfl,rfl,by decide+kernel,rfl,by decide+kernel,by decide+kernel⟩
theorem DF (D:Def K mg "_law_meets" V9 ["_law_drawing"])(g_l_arcs:Fn P w K mg base 1 "_law_arcs" ["_law_walks"] (sp1 (rV (rV Xa)) (oL (oL (oF Xa))) QS K))(g_l_spot:Fn P w K mg base 1 "_law_spot" ["_law_walks","_law_passage"] (sp2 (rV (rV Xa)) Xa (oF (rP2 Xa Xa)) Qt K))(Z:Blt mg):Fn P w K mg base 2 "_law_meets" ["_law_drawing"] (sp1 (rP2 (rV (rV Xa)) (rV (rP2 Xa Xa))) (oL (oF (rP5 Xa Xa Xa Xa Xa))) Qb K):=by
 refine Ys D Yn (λvs H Q E h=>?_) (λf cdv A outer s H vs Q E hr h=>?_)
 ·obtain⟨v_0,a_0,b,rfl,_⟩:=h;rfl
 obtain⟨v_0,a_0,b,rfl,h_0,hm,q⟩:=h
 have hu:=hu8 hr
 have hu1:=Yo hr
 refine⟨_,(Xc (Vc (pv 0) (Q0 rfl (XR (Xo (i:=1) Yn.nd rfl (Or.inl rfl)) (XR (Xo (i:=2) Yn.nd rfl (Or.inl rfl)) Z6))))
  (Xc (Xq (i:=3) Yn.nd rfl (Or.inl rfl) (X5 g_l_arcs hr (by decide) (Xd (pv 1) Xf)))
  (Xc (Xq (i:=4) Yn.nd rfl (Or.inl rfl) (XZ Xf))
  (Xc (X2 PassesOwn.never rfl (XO (K:=K) rfl (pv 2)) (Q0 rfl (XR (Xo (i:=5) Yn.nd rfl (Or.inl rfl)) (XR (Xo (i:=6) Yn.nd rfl (Or.inl rfl)) Z6)))
   (Xc (Vc (X5 g_l_spot hr (by decide) (Xd (pv 1) (Xd (pv 5) Xf))) (Q0 rfl (XR (Xo (i:=7) Yn.nd rfl (Or.inl rfl)) (XR (Xo (i:=8) Yn.nd rfl (Or.inl rfl)) Z6))))
   (Xc (Vc (X5 g_l_spot hr (by decide) (Xd (pv 1) (Xd (U7 Jx (pv 5)) Xf))) (Q0 rfl (XR (Xo (i:=9) Yn.nd rfl (Or.inl rfl)) (XR (Xo (i:=10) Yn.nd rfl (Or.inl rfl)) Z6))))
   (Xc (Xq (i:=11) Yn.nd rfl (Or.inl rfl) (Xs Yb (Xs X0 (pv 10) Xh) (Xn (Xi K rfl) rfl Z.b_len PySem.boot_len (Xd (Xy (Xj K rfl) (pv 1) (pv 9) (λ_ _=>rfl)) Xf))))
   (Xc (Ye (Zt PySem.F.plainAttrs_list PySem.F.slot_list_append PySem.F.type_list_append XT (pv 4) (Xd (ZD (Xd (pv 5) (Xd (pv 6) (Xd (Xy (Xj K rfl) (Xy (Xj K rfl) (pv 3) (pv 7) (λ_ _=>rfl)) (pv 8) (λ_ _=>rfl)) (Xd (Xy (Xj K rfl) (Xy (Xj K rfl) (pv 3) (pv 9) (λ_ _=>rfl)) (pv 10) (λ_ _=>rfl)) (Xd (Xy (Xj K rfl) (Xy (Xj K rfl) (pv 3) (pv 9) (λ_ _=>rfl)) (pv 11) (λ_ _=>rfl)) Xf)))))) Xf)))
   Xg)))))
  (Xc (Xz (pv 4))
  Xg))))),?_⟩
 refine Yw (S:=(SC.add SC.nil K (rP2 (rV (rV Xa)) (rV (rP2 Xa Xa))) v_0 a_0)) (σ:=[some v_0,none,none,none,none,none,none,none,none,none,none,none]) 1 ?_ (SC.i SC.t h_0) hm q rfl
 unfold Qb
 exact(B5 1 2 (Xl (r:=(rP2 (rV (rV Xa)) (rV (rP2 Xa Xa)))) 0 rfl (λ_ s=>s.r)) λa1 v2 v3=>(Xx (K:=K) (r:=(rV (rV Xa))) 3 (Ev.sh (YH (Xb (r:=(rV (rV Xa))) 1 rfl (λ_ s=>s.l.r)))) λa4 v5=>(XS (K:=K) (o:=(oL (oF (rP5 Xa Xa Xa Xa Xa)))) 4 0 (Qm (o:=(oF (rP5 Xa Xa Xa Xa Xa)))) (Nat.le_of_ble_eq_true rfl) λa8 v9 C10=>(Yk (K:=K) (J:=({oo:=λx11=>[x11.2.2.2.2.2.2.2.2],ss:=λx11=>[some v_0,some v2,some v3,some v5,some x11.2.2.2.2.2.2.2.1,x11.1,x11.2.1,x11.2.2.1,x11.2.2.2.1,x11.2.2.2.2.1,x11.2.2.2.2.2.1,x11.2.2.2.2.2.2.1],sc:=λg12 x11=>(SC.addO (SC.add (SC.add (SC.add (SC.add SC.nil K (rP2 (rV (rV Xa)) (rV (rP2 Xa Xa))) v_0 a_0) K (rV (rV Xa)) v2 a1.1) K (rV (rP2 Xa Xa)) v3 a1.2) K (rV (rV Xa)) v5 a4) K (oL (oF (rP5 Xa Xa Xa Xa Xa))) x11.2.2.2.2.2.2.2.1 g12 x11.2.2.2.2.2.2.2.2)}:Jn ((List (Int×Int×Int×Int×Int))) (Option V×Option V×Option V×Option V×Option V×Option V×Option V×V×List XF))) (λ_=>tg2 5 6) ((none),(none),(none),(none),(none),(none),(none),v9,C10) (a8) (XI (Xl (r:=(rV (rP2 Xa Xa))) 2 rfl (λ_ s=>s.l.l.r))) rfl rfl (λ_ s=>(SC.i (SC.i (SC.i (SC.i (SC.i SC.t s.l.l.l.l.r) s.l.l.l.r) s.l.l.r) s.l.r) s.r)) (λg13 x14 a15 v16=>(B5 7 8 (EvB.sh (Ev.toB (X4 (Xb (r:=(rV (rV Xa))) 1 rfl (λ_ s=>s.l.l.l.l.l.r)) (Xb (r:=Xa) 5 rfl (λ_ s=>s.l.r))))) λa20 v21 v22=>(B5 9 10 (EvB.sh (Ev.toB (X4 (Xb (r:=(rV (rV Xa))) 1 rfl (λ_ s=>s.l.l.l.l.l.l.l.r)) (Qq (Xb (r:=Xa) 5 rfl (λ_ s=>s.l.l.l.r)))))) λa27 v28 v29=>(Xx (K:=K) (r:=Xa) 11 (EvB.sh (XU (XL (Xb (r:=Xa) 10 rfl (λ_ s=>s.r)) (Xe 1)) (XA (Xr (Xb (r:=(rV (rV Xa))) 1 rfl (λ_ s=>s.l.l.l.l.l.l.l.l.l.r)) (Xb (r:=Xa) 9 rfl (λ_ s=>s.l.r)))))) λa30 v31=>(Zl (K:=K) (o:=(oF (rP5 Xa Xa Xa Xa Xa))) (f:=λa58=>(Rs.ok (a58))) 4 0 rfl rfl rfl (λ_ s=>s.l.l.l.l.l.l.l.r) (EvS.ev (Fb (Xl (r:=Xa) 5 rfl (λ_ s=>s.l.l.l.l.l.l.r)) (Xl (r:=Xa) 6 rfl (λ_ s=>s.l.l.l.l.l.r)) (EvB.sh (Xr (Xr (Xb (r:=(rV (rV Xa))) 3 rfl (λ_ s=>s.l.l.l.l.l.l.l.l.r)) (Xb (r:=Xa) 7 rfl (λ_ s=>s.l.l.l.l.r))) (Xb (r:=Xa) 8 rfl (λ_ s=>s.l.l.l.r)))) (EvB.sh (Xr (Xr (Xb (r:=(rV (rV Xa))) 3 rfl (λ_ s=>s.l.l.l.l.l.l.l.l.r)) (Xb (r:=Xa) 9 rfl (λ_ s=>s.l.l.r))) (Xb (r:=Xa) 10 rfl (λ_ s=>s.l.r)))) (EvB.sh (Xr (Xr (Xb (r:=(rV (rV Xa))) 3 rfl (λ_ s=>s.l.l.l.l.l.l.l.l.r)) (Xb (r:=Xa) 9 rfl (λ_ s=>s.l.l.r))) (Xb (r:=Xa) 11 rfl (λ_ s=>s.r)))))) λa56 C57=>(Xw (J:=_) ((some v16.1),(some v16.2),(some v21),(some v22),(some v28),(some v29),(some v31),x14.2.2.2.2.2.2.2.1,C57) ((g13++[a56])) rfl rfl (λ_ s=>(SC.i (SC.i (SC.i (SC.i (SC.i SC.t s.l.l.l.l.l.l.l.l.l.l.l.l.r) s.l.l.l.l.l.l.l.l.l.l.l.r) s.l.l.l.l.l.l.l.l.l.l.r) s.l.l.l.l.l.l.l.l.l.r) s.r)))))))) λg59 x60=>(XC (Yd (o:=(oL (oF (rP5 Xa Xa Xa Xa Xa)))) 4 0 rfl rfl (λ_ s=>s.r)))))))
theorem Vr:FnScope ["_law_drawing","_law_count_here","_law_walk"] ["_law_drawing"] (Xk Kj):=⟨rfl,rfl,rfl,by decide+kernel,rfl,by decide+kernel,by decide+kernel⟩
theorem EO (D:Def K mg "_law_count" Kj ["_law_drawing"])(Z:Blt mg):Fn P w K mg base 1 "_law_count" ["_law_drawing"] (sp1 (rP2 (rV (rV Xa)) (rV (rP2 Xa Xa))) (oF Xa) Qw K):=by
 refine Ys D Vr (λvs H Q E h=>?_) (λf cdv A outer s H vs Q E hr h=>?_)
 ·obtain⟨v_0,a_0,b,rfl,_⟩:=h;rfl
 obtain⟨v_0,a_0,b,rfl,h_0,hm,q⟩:=h
 have hu:=hu8 hr
 have hu1:=Yo hr
 refine⟨_,(Xc (Xq (i:=1) Vr.nd rfl (Or.inl rfl) (Xn (Xi K rfl) rfl Z.b_len PySem.boot_len (Xd (Xy (Zy K rfl) (pv 0) Xh (λ_ _=>rfl)) Xf)))
  (Xc (X2 PassesOwn.never rfl (XO (K:=K) rfl (Xy (Zy K rfl) (pv 0) Xh (λ_ _=>rfl))) (Xo (i:=2) Vr.nd rfl (Or.inl rfl))
   (Xc (Yj (Xu ZG (Xn (Xi K rfl) rfl Z.b_len PySem.boot_len (Xd (YX (sc:=(Xk Kj)) (N0:=["_law_drawing","_law_count_here","_law_walk"]) (tns:=["_law_one"]) (caps:=[]) rfl (XO (K:=K) rfl (pv 2)) (YI (by decide)) (λcl C s H ex E=>⟨Xo (i:=0) (show List.Nodup (["_law_one"]:List Str) by decide+kernel) rfl (Or.inl rfl),(G5 (Xu Ql (pv 0) Xh (XD _))),(pv 0)⟩)) Xf)) Xh (XD _))
    (Xc (Xq (i:=1) Vr.nd rfl (Or.inl rfl) (Xs X0 (pv 1) Xh))
    Xg)
    Xg)
   Xg))
  (Xc (Xz (pv 1))
  Xg))),?_⟩
 refine Yw (S:=(SC.add SC.nil K (rP2 (rV (rV Xa)) (rV (rP2 Xa Xa))) v_0 a_0)) (σ:=[some v_0,none,none]) 0 ?_ (SC.i SC.t h_0) hm q rfl
 unfold Qw
 exact(Xx (K:=K) (r:=Xa) 1 (EvB.sh (XA (V6 (Xb (r:=(rP2 (rV (rV Xa)) (rV (rP2 Xa Xa)))) 0 rfl (λ_ s=>s.r))))) λa1 v2=>(Yk (K:=K) (J:=({oo:=λx6=>[],ss:=λx6=>[some v_0,some x6.2,x6.1],sc:=λg7 x6=>(SC.add (SC.add SC.nil K (rP2 (rV (rV Xa)) (rV (rP2 Xa Xa))) v_0 a_0) K Xa x6.2 g7)}:Jn (Int) (Option V×V))) (λ_=>tg1 2) ((none),v2) (a1) (XI (VF (Xl (r:=(rP2 (rV (rV Xa)) (rV (rP2 Xa Xa)))) 0 rfl (λ_ s=>s.l.r)))) rfl rfl (λ_ s=>(SC.i (SC.i SC.t s.l.r) s.r)) (λg8 x9 a10 v11=>(Zd (J:=({oo:=λx22=>[],ss:=λx22=>[some v_0,some x22,some v11],sc:=λg23 x22=>(SC.add (SC.add (SC.add SC.nil K (rP2 (rV (rV Xa)) (rV (rP2 Xa Xa))) v_0 a_0) K (rV Xa) v11 a10) K Xa x22 g23)}:Jn (Int) (V))) (ZH (Fd:=FNd ({oo:=λx22=>[],ss:=λx22=>[some v_0,some x22,some v11],sc:=λg23 x22=>(SC.add (SC.add (SC.add SC.nil K (rP2 (rV (rV Xa)) (rV (rP2 Xa Xa))) v_0 a_0) K (rV Xa) v11 a10) K Xa x22 g23)}:Jn (Int) (V))) (Xp (K:=K) (YL (XA (Ev.toB (Ke (λ_=>tg1 0) (XI (Xl (r:=(rV Xa)) 2 rfl (λ_ s=>s.r))) (λC12 a13 v14=>(Xp (K:=K) (Zr (Xb (r:=Xa) 0 rfl (λ_ s=>s.r)) (Xe 0)))) (λC12 a13 v14=>(EvS.ev (Xl (r:=Xa) 0 rfl (λ_ s=>s.r))))))) (Xe 0))) (Xx (K:=K) (r:=Xa) 1 (EvB.sh (XL (Xb (r:=Xa) 1 rfl (λ_ s=>s.l.r)) (Xe 1))) λa24 v25=>(Xw (J:=_) (v25) (a24) rfl rfl (λ_ s=>(SC.i (SC.i (SC.i SC.t s.l.l.l.r) s.l.r) s.r)))) (Xw (J:=_) (x9.2) (g8) rfl rfl (λ_ s=>(SC.i (SC.i (SC.i SC.t s.l.l.r) s.r) s.l.r)))) λg29 x28=>(Xw (J:=_) ((some v11),x28) (g29) rfl rfl (λ_ s=>(SC.i (SC.i SC.t s.l.l.r) s.r))))) λg30 x31=>(XC (EvS.ev (Xl (r:=Xa) 1 rfl (λ_ s=>s.r))))))
theorem Z1:FnScope ["_law_meetings","_law_table","_law_colours","_law_crossing","_law_sign","_law_over","_law_inward","_law_outward","_law_one","_law_other"] ["_law_meetings","_law_table","_law_colours"] (Xk G3):=⟨rfl,rfl,rfl,by decide+kernel,rfl,by decide+kernel,by decide+kernel⟩
theorem E5 (D:Def K mg "_law_keeps" G3 ["_law_meetings","_law_table","_law_colours"])(Z:Blt mg):Fn P w K mg base 1 "_law_keeps" ["_law_meetings","_law_table","_law_colours"] (sp3 (rV (rP5 Xa Xa Xa Xa Xa)) (rV (rV Xa)) (rV Xa) (oF XQ) JW K):=by
 refine Ys D Z1 (λvs H Q E h=>?_) (λf cdv A outer s H vs Q E hr h=>?_)
 ·obtain⟨v_0,v_1,v_2,a_0,a_1,a_2,b,rfl,_⟩:=h;rfl
 obtain⟨v_0,v_1,v_2,a_0,a_1,a_2,b,rfl,h_0,h_1,h_2,hm,q⟩:=h
 have hu:=hu8 hr
 have hu1:=Yo hr
 refine⟨_,(Xc (X2 PassesOwn.never rfl (XO (K:=K) rfl (pv 0)) (Q0 rfl (XR (Xo (i:=3) Z1.nd rfl (Or.inl rfl)) (XR (Xo (i:=4) Z1.nd rfl (Or.inl rfl)) (XR (Xo (i:=5) Z1.nd rfl (Or.inl rfl)) (XR (Xo (i:=6) Z1.nd rfl (Or.inl rfl)) (XR (Xo (i:=7) Z1.nd rfl (Or.inl rfl)) Z6))))))
   (Xc (Fs (i:=8) (j:=9) rfl Z1.nd rfl rfl (by decide) rfl rfl (Xd (Xy (Xj K rfl) (pv 2) (pv 6) (λ_ _=>rfl)) (Xd (Xy (Xj K rfl) (pv 2) (pv 7) (λ_ _=>rfl)) Xf)) rfl)
   (Xc (Yj (Xu Ql (pv 4) Xh (XD _))
    (Xc (Fs (i:=8) (j:=9) rfl Z1.nd rfl rfl (by decide) rfl rfl (Xd (pv 9) (Xd (pv 8) Xf)) rfl)
    Xg)
    Xg)
   (Xc (Yj (Xu G7 (Xy (Xj K rfl) (Xy (Xj K rfl) (pv 1) (pv 8) (λ_ _=>rfl)) (Xy (Xj K rfl) (pv 2) (pv 5) (λ_ _=>rfl)) (λ_ _=>rfl)) (pv 9) (XD _))
    (Xc (Xz Qu)
    Xg)
    Xg)
   Xg))))
  (Xc (Xz Qu)
  Xg)),?_⟩
 refine Yw (S:=(SC.add (SC.add (SC.add SC.nil K (rV (rP5 Xa Xa Xa Xa Xa)) v_0 a_0) K (rV (rV Xa)) v_1 a_1) K (rV Xa) v_2 a_2)) (σ:=[some v_0,some v_1,some v_2,none,none,none,none,none,none,none]) 0 ?_ (SC.i (SC.i (SC.i SC.t h_0) h_1) h_2) hm q rfl
 unfold JW
 exact(Qs (K:=K) (J:=({oo:=λx1=>[],ss:=λx1=>[some v_0,some v_1,some v_2,x1.1,x1.2.1,x1.2.2.1,x1.2.2.2.1,x1.2.2.2.2.1,x1.2.2.2.2.2.1,x1.2.2.2.2.2.2],sc:=λg2 x1=>(SC.add (SC.add (SC.add SC.nil K (rV (rP5 Xa Xa Xa Xa Xa)) v_0 a_0) K (rV (rV Xa)) v_1 a_1) K (rV Xa) v_2 a_2)}:Jn (Unit) (Option V×Option V×Option V×Option V×Option V×Option V×Option V))) (λ_=>tg5 3 4 5 6 7) ((none),(none),(none),(none),(none),(none),(none)) () (XI (Xl (r:=(rV (rP5 Xa Xa Xa Xa Xa))) 0 rfl (λ_ s=>s.l.l.r))) rfl rfl (λ_ s=>(SC.i (SC.i (SC.i SC.t s.l.l.r) s.l.r) s.r)) (λg3 x4 a5 v6=>(Fh (K:=K) 8 9 (EvB.sh (Xr (Xb (r:=(rV Xa)) 2 rfl (λ_ s=>s.l.l.l.l.l.r)) (Xb (r:=Xa) 6 rfl (λ_ s=>s.l.r)))) (EvB.sh (Xr (Xb (r:=(rV Xa)) 2 rfl (λ_ s=>s.l.l.l.l.l.r)) (Xb (r:=Xa) 7 rfl (λ_ s=>s.r)))) λa11 a12 v13 v14=>(Zd (J:=({oo:=λx18=>[],ss:=λx18=>[some v_0,some v_1,some v_2,some v6.1,some v6.2.1,some v6.2.2.1,some v6.2.2.2.1,some v6.2.2.2.2,some x18.1,some x18.2],sc:=λg19 x18=>(SC.add (SC.add (SC.add (SC.add (SC.add (SC.add (SC.add (SC.add (SC.add (SC.add SC.nil K (rV (rP5 Xa Xa Xa Xa Xa)) v_0 a_0) K (rV (rV Xa)) v_1 a_1) K (rV Xa) v_2 a_2) K Xa v6.1 a5.1) K Xa v6.2.1 a5.2.1) K Xa v6.2.2.1 a5.2.2.1) K Xa v6.2.2.2.1 a5.2.2.2.1) K Xa v6.2.2.2.2 a5.2.2.2.2) K Xa x18.1 g19.1) K Xa x18.2 g19.2)}:Jn (Int×Int) (V×V))) (ZH (Fd:=FNd ({oo:=λx18=>[],ss:=λx18=>[some v_0,some v_1,some v_2,some v6.1,some v6.2.1,some v6.2.2.1,some v6.2.2.2.1,some v6.2.2.2.2,some x18.1,some x18.2],sc:=λg19 x18=>(SC.add (SC.add (SC.add (SC.add (SC.add (SC.add (SC.add (SC.add (SC.add (SC.add SC.nil K (rV (rP5 Xa Xa Xa Xa Xa)) v_0 a_0) K (rV (rV Xa)) v_1 a_1) K (rV Xa) v_2 a_2) K Xa v6.1 a5.1) K Xa v6.2.1 a5.2.1) K Xa v6.2.2.1 a5.2.2.1) K Xa v6.2.2.2.1 a5.2.2.2.1) K Xa v6.2.2.2.2 a5.2.2.2.2) K Xa x18.1 g19.1) K Xa x18.2 g19.2)}:Jn (Int×Int) (V×V))) (Xp (K:=K) (Zr (Xb (r:=Xa) 4 rfl (λ_ s=>s.l.l.l.l.l.r)) (Xe 0))) (Fh (K:=K) 8 9 (Xl (r:=Xa) 9 rfl (λ_ s=>s.r)) (Xl (r:=Xa) 8 rfl (λ_ s=>s.l.r)) λa20 a21 v22 v23=>(Xw (J:=_) (v22,v23) (a20,a21) rfl rfl (λ_ s=>(SC.i (SC.i (SC.i (SC.i (SC.i (SC.i (SC.i (SC.i (SC.i (SC.i SC.t s.l.l.l.l.l.l.l.l.l.l.l.r) s.l.l.l.l.l.l.l.l.l.l.r) s.l.l.l.l.l.l.l.l.l.r) s.l.l.l.l.l.l.l.l.r) s.l.l.l.l.l.l.l.r) s.l.l.l.l.l.l.r) s.l.l.l.l.l.r) s.l.l.l.l.r) s.l.r) s.r)))) (Xw (J:=_) (v13,v14) (a11,a12) rfl rfl (λ_ s=>(SC.i (SC.i (SC.i (SC.i (SC.i (SC.i (SC.i (SC.i (SC.i (SC.i SC.t s.l.l.l.l.l.l.l.l.l.r) s.l.l.l.l.l.l.l.l.r) s.l.l.l.l.l.l.l.r) s.l.l.l.l.l.l.r) s.l.l.l.l.l.r) s.l.l.l.l.r) s.l.l.l.r) s.l.l.r) s.l.r) s.r)))) λg25 x24=>(Qp (Xp (K:=K) (VC (Xr (Xr (Xb (r:=(rV (rV Xa))) 1 rfl (λ_ s=>s.l.l.l.l.l.l.l.l.r)) (Xb (r:=Xa) 8 rfl (λ_ s=>s.l.r))) (Xr (Xb (r:=(rV Xa)) 2 rfl (λ_ s=>s.l.l.l.l.l.l.l.r)) (Xb (r:=Xa) 5 rfl (λ_ s=>s.l.l.l.l.r)))) (Xb (r:=Xa) 9 rfl (λ_ s=>s.r)))) (XC (EvS.ev (EvB.sh (Zn false)))) (QC (Xw (J:=_) ((some v6.1),(some v6.2.1),(some v6.2.2.1),(some v6.2.2.2.1),(some v6.2.2.2.2),(some x24.1),(some x24.2)) () rfl rfl (λ_ s=>(SC.i (SC.i (SC.i SC.t s.l.l.l.l.l.l.l.l.l.r) s.l.l.l.l.l.l.l.l.r) s.l.l.l.l.l.l.l.r)))))))) λg37 x38=>(XC (EvS.ev (EvB.sh (Zn true)))))
theorem Vj:FnScope ["_law_size","_law_count_here","_law_total","_law_k"] ["_law_size","_law_count_here"] (Xk Go):=⟨rfl,rfl,rfl,by decide+kernel,rfl,by decide+kernel,by decide+kernel⟩
theorem EU (D:Def K mg "_law_power" Go ["_law_size","_law_count_here"])(Z:Blt mg):Fn P w K mg base 1 "_law_power" ["_law_size","_law_count_here"] (sp2 Xa Xa (oF Xa) J1 K):=by
 refine Ys D Vj (λvs H Q E h=>?_) (λf cdv A outer s H vs Q E hr h=>?_)
 ·obtain⟨v_0,v_1,a_0,a_1,b,rfl,_⟩:=h;rfl
 obtain⟨v_0,v_1,a_0,a_1,b,rfl,h_0,h_1,hm,q⟩:=h
 have hu:=hu8 hr
 have hu1:=Yo hr
 refine⟨_,(Xc (Xq (i:=2) Vj.nd rfl (Or.inl rfl) Xh)
  (Xc (X2 PassesOwn.never rfl (XH rfl Z.b_range (Xd (pv 1) Xf)) (Xo (i:=3) Vj.nd rfl (Or.inl rfl))
   (Xc (Xq (i:=2) Vj.nd rfl (Or.inl rfl) (Xs YF (pv 2) (pv 0)))
   Xg))
  (Xc (Xz (pv 2))
  Xg))),?_⟩
 refine Yw (S:=(SC.add (SC.add SC.nil K Xa v_0 a_0) K Xa v_1 a_1)) (σ:=[some v_0,some v_1,none,none]) 0 ?_ (SC.i (SC.i SC.t h_0) h_1) hm q rfl
 unfold J1
 exact(Xx (K:=K) (r:=Xa) 2 (EvB.sh (Xe 1)) λa1 v2=>(Yk (K:=K) (J:=({oo:=λx4=>[],ss:=λx4=>[some v_0,some v_1,some x4.2,x4.1],sc:=λg5 x4=>(SC.add (SC.add (SC.add SC.nil K Xa v_0 a_0) K Xa v_1 a_1) K Xa x4.2 g5)}:Jn (Int) (Option V×V))) (λ_=>tg1 3) ((none),v2) (a1) (Xv (Xb (r:=Xa) 1 rfl (λ_ s=>s.l.r))) rfl rfl (λ_ s=>(SC.i (SC.i (SC.i SC.t s.l.l.r) s.l.r) s.r)) (λg6 x7 a8 v9=>(Xx (K:=K) (r:=Xa) 2 (EvB.sh (X9 (Xb (r:=Xa) 2 rfl (λ_ s=>s.l.r)) (Xb (r:=Xa) 0 rfl (λ_ s=>s.l.l.l.r)))) λa10 v11=>(Xw (J:=_) ((some v9),v11) (a10) rfl rfl (λ_ s=>(SC.i (SC.i (SC.i SC.t s.l.l.l.l.r) s.l.l.l.r) s.r))))) λg14 x15=>(XC (EvS.ev (Xl (r:=Xa) 2 rfl (λ_ s=>s.r))))))
theorem Vo:FnScope ["_law_drawing","_law_most","_law_count_here","_law_size"] ["_law_drawing","_law_most"] (Xk GF):=⟨rfl,rfl,rfl,by decide+kernel,rfl,by decide+kernel,by decide+kernel⟩
theorem EJ (D:Def K mg "_law_limit" GF ["_law_drawing","_law_most"])(g_count:Fn P w K mg base 1 "_law_count" ["_law_drawing"] (sp1 (rP2 (rV (rV Xa)) (rV (rP2 Xa Xa))) (oF Xa) Qw K))(g_power:Fn P w K mg base 1 "_law_power" ["_law_size","_law_count_here"] (sp2 Xa Xa (oF Xa) J1 K))(Z:Blt mg):Fn P w K mg base 2 "_law_limit" ["_law_drawing","_law_most"] (sp2 (rP2 (rV (rV Xa)) (rV (rP2 Xa Xa))) Xa (oF Xa) JZ K):=by
 refine Ys D Vo (λvs H Q E h=>?_) (λf cdv A outer s H vs Q E hr h=>?_)
 ·obtain⟨v_0,v_1,a_0,a_1,b,rfl,_⟩:=h;rfl
 obtain⟨v_0,v_1,a_0,a_1,b,rfl,h_0,h_1,hm,q⟩:=h
 have hu:=hu8 hr
 have hu1:=Yo hr
 refine⟨_,(Xc (Xq (i:=2) Vo.nd rfl (Or.inl rfl) (X5 g_count hr (by decide) (Xd (pv 0) Xf)))
  (Xc (Xq (i:=3) Vo.nd rfl (Or.inl rfl) Xh)
  (Xc (Vp PassesOwn.never (PW.pt (Z4 (Xu Ql (pv 3) Xh (XD _)) (Qv (Xu LO (X5 g_power hr (by decide) (Xd (Xs X0 (pv 3) Xh) (Xd (pv 2) Xf))) (pv 1) (XD _)))))
   (Xc (Xq (i:=3) Vo.nd rfl (Or.inl rfl) (Xs X0 (pv 3) Xh))
   Xg))
  (Xc (Xz (pv 3))
  Xg)))),?_⟩
 refine Yw (S:=(SC.add (SC.add SC.nil K (rP2 (rV (rV Xa)) (rV (rP2 Xa Xa))) v_0 a_0) K Xa v_1 a_1)) (σ:=[some v_0,some v_1,none,none]) 0 ?_ (SC.i (SC.i SC.t h_0) h_1) hm q rfl
 unfold JZ
 exact(Xx (K:=K) (r:=Xa) 2 (EvB.sh (Ev.toB (YH (Xb (r:=(rP2 (rV (rV Xa)) (rV (rP2 Xa Xa)))) 0 rfl (λ_ s=>s.l.r))))) λa1 v2=>(Xx (K:=K) (r:=Xa) 3 (EvB.sh (Xe 1)) λa5 v6=>(Vm (J:=({oo:=λx7=>[],ss:=λx7=>[some v_0,some v_1,some v2,some x7],sc:=λg8 x7=>(SC.add (SC.add (SC.add (SC.add SC.nil K (rP2 (rV (rV Xa)) (rV (rP2 Xa Xa))) v_0 a_0) K Xa v_1 a_1) K Xa v2 a1) K Xa x7 g8)}:Jn (Int) (V))) (8) (v6) (a5) rfl rfl (λ_ s=>(SC.i (SC.i (SC.i (SC.i SC.t s.l.l.l.r) s.l.l.r) s.l.r) s.r)) (λg9 x10=>(Zj (Xp (K:=K) (Zr (Xb (r:=Xa) 3 rfl (λ_ s=>s.r)) (Xe 6))) (Xp (K:=K) (LH (Ev.toB (X4 (XL (Xb (r:=Xa) 3 rfl (λ_ s=>s.r)) (Xe 1)) (Xb (r:=Xa) 2 rfl (λ_ s=>s.l.r)))) (Xb (r:=Xa) 1 rfl (λ_ s=>s.l.l.r)))))) (λg9 x10=>(Xx (K:=K) (r:=Xa) 3 (EvB.sh (XL (Xb (r:=Xa) 3 rfl (λ_ s=>s.r)) (Xe 1))) λa20 v21=>(Xw (J:=_) (v21) (a20) rfl rfl (λ_ s=>(SC.i (SC.i (SC.i (SC.i SC.t s.l.l.l.l.r) s.l.l.l.r) s.l.l.r) s.r))))) λg24 x25=>(XC (EvS.ev (Xl (r:=Xa) 3 rfl (λ_ s=>s.r)))))))
theorem Yu:FnScope ["_law_one","_law_other","_law_size","_law_found","_law_a","_law_row_here","_law_b","_law_first"] ["_law_one","_law_other"] (Xk Qz):=⟨rfl,rfl,rfl,by decide+kernel,rfl,by decide+kernel,by decide+kernel⟩
theorem Uu (D:Def K mg "_law_pairs_table" Qz ["_law_one","_law_other"])(Z:Blt mg):Fn P w K mg base 1 "_law_pairs_table" ["_law_one","_law_other"] (sp2 (rV (rV Xa)) (rV (rV Xa)) (oL (oL (oF Xa))) YK K):=by
 refine Ys D Yu (λvs H Q E h=>?_) (λf cdv A outer s H vs Q E hr h=>?_)
 ·obtain⟨v_0,v_1,a_0,a_1,b,rfl,_⟩:=h;rfl
 obtain⟨v_0,v_1,a_0,a_1,b,rfl,h_0,h_1,hm,q⟩:=h
 have hu:=hu8 hr
 have hu1:=Yo hr
 refine⟨_,(Xc (Xq (i:=2) Yu.nd rfl (Or.inl rfl) (Xn (Xi K rfl) rfl Z.b_len PySem.boot_len (Xd (pv 1) Xf)))
  (Xc (Xq (i:=3) Yu.nd rfl (Or.inl rfl) (XZ Xf))
  (Xc (X2 PassesOwn.never rfl (XH rfl Z.b_range (Xd (Xs YF (Xn (Xi K rfl) rfl Z.b_len PySem.boot_len (Xd (pv 0) Xf)) (pv 2)) Xf)) (Xo (i:=4) Yu.nd rfl (Or.inl rfl))
   (Xc (Xq (i:=5) Yu.nd rfl (Or.inl rfl) (XZ Xf))
   (Xc (X2 PassesOwn.never rfl (XH rfl Z.b_range (Xd (Xs YF (Xn (Xi K rfl) rfl Z.b_len PySem.boot_len (Xd (pv 0) Xf)) (pv 2)) Xf)) (Xo (i:=6) Yu.nd rfl (Or.inl rfl))
    (Xc (Xq (i:=7) Yu.nd rfl (Or.inl rfl) (Xy (Xj K rfl) (Xy (Xj K rfl) (pv 0) (Xs QT (pv 4) (pv 2)) (λ_ _=>rfl)) (Xs QT (pv 6) (pv 2)) (λ_ _=>rfl)))
    (Xc (Ye (Zt PySem.F.plainAttrs_list PySem.F.slot_list_append PySem.F.type_list_append XT (pv 5) (Xd (Xs X0 (Xs YF (pv 7) (pv 2)) (Xy (Xj K rfl) (Xy (Xj K rfl) (pv 1) (Xs Yb (pv 4) (pv 2)) (λ_ _=>rfl)) (Xs Yb (pv 6) (pv 2)) (λ_ _=>rfl))) Xf)))
    Xg)))
   (Xc (Ye (Zt PySem.F.plainAttrs_list PySem.F.slot_list_append PySem.F.type_list_append XT (pv 3) (Xd (pv 5) Xf)))
   Xg))))
  (Xc (Xz (pv 3))
  Xg)))),?_⟩
 refine Yw (S:=(SC.add (SC.add SC.nil K (rV (rV Xa)) v_0 a_0) K (rV (rV Xa)) v_1 a_1)) (σ:=[some v_0,some v_1,none,none,none,none,none,none]) 2 ?_ (SC.i (SC.i SC.t h_0) h_1) hm q rfl
 unfold YK
 exact(Xx (K:=K) (r:=Xa) 2 (EvB.sh (XA (Xb (r:=(rV (rV Xa))) 1 rfl (λ_ s=>s.r)))) λa1 v2=>(XS (K:=K) (o:=(oL (oL (oF Xa)))) 3 0 (Qm (o:=(oL (oF Xa)))) (Nat.le_of_ble_eq_true rfl) λa4 v5 C6=>(Yk (K:=K) (J:=({oo:=λx11=>[x11.2.2.2.2.2,[]],ss:=λx11=>[some v_0,some v_1,some v2,some x11.2.2.2.2.1,x11.1,x11.2.1,x11.2.2.1,x11.2.2.2.1],sc:=λg12 x11=>(SC.addO (SC.add (SC.add (SC.add SC.nil K (rV (rV Xa)) v_0 a_0) K (rV (rV Xa)) v_1 a_1) K Xa v2 a1) K (oL (oL (oF Xa))) x11.2.2.2.2.1 g12 x11.2.2.2.2.2)}:Jn ((List (List Int))) (Option V×Option V×Option V×Option V×V×List XF))) (λ_=>tg1 4) ((none),(none),(none),(none),v5,C6) (a4) (Xv (X9 (XA (Xb (r:=(rV (rV Xa))) 0 rfl (λ_ s=>s.l.l.l.r))) (Xb (r:=Xa) 2 rfl (λ_ s=>s.l.r)))) rfl rfl (λ_ s=>(SC.i (SC.i (SC.i (SC.i SC.t s.l.l.l.r) s.l.l.r) s.l.r) s.r)) (λg13 x14 a15 v16=>(XS (K:=K) (o:=(oL (oF Xa))) 5 1 (Qm (o:=(oF Xa))) (Nat.le_of_ble_eq_true rfl) λa17 v18 C19=>(Yk (K:=K) (J:=({oo:=λx24=>[x14.2.2.2.2.2,x24.2.2.2],ss:=λx24=>[some v_0,some v_1,some v2,some x14.2.2.2.2.1,some v16,some x24.2.2.1,x24.1,x24.2.1],sc:=λg25 x24=>(SC.addO (SC.add (SC.addO (SC.add (SC.add (SC.add SC.nil K (rV (rV Xa)) v_0 a_0) K (rV (rV Xa)) v_1 a_1) K Xa v2 a1) K (oL (oL (oF Xa))) x14.2.2.2.2.1 g13 x14.2.2.2.2.2) K Xa v16 a15) K (oL (oF Xa)) x24.2.2.1 g25 x24.2.2.2)}:Jn ((List Int)) (Option V×Option V×V×List XF))) (λ_=>tg1 6) ((x14.2.2.1),(x14.2.2.2.1),v18,C19) (a17) (Xv (X9 (XA (Xb (r:=(rV (rV Xa))) 0 rfl (λ_ s=>s.l.l.l.l.l.r))) (Xb (r:=Xa) 2 rfl (λ_ s=>s.l.l.l.r)))) rfl rfl (λ_ s=>(SC.i (SC.i (SC.i (SC.i (SC.i (SC.i SC.t s.l.l.l.l.l.r) s.l.l.l.l.r) s.l.l.l.r) s.l.l.r) s.l.r) s.r)) (λg26 x27 a28 v29=>(Xx (K:=K) (r:=Xa) 7 (EvB.sh (Xr (Xr (Xb (r:=(rV (rV Xa))) 0 rfl (λ_ s=>s.l.l.l.l.l.l.r)) (JU (Xb (r:=Xa) 4 rfl (λ_ s=>s.l.l.r)) (Xb (r:=Xa) 2 rfl (λ_ s=>s.l.l.l.l.r)))) (JU (Xb (r:=Xa) 6 rfl (λ_ s=>s.r)) (Xb (r:=Xa) 2 rfl (λ_ s=>s.l.l.l.l.r))))) λa30 v31=>(Zl (K:=K) (o:=(oF Xa)) (f:=λa54=>(Rs.ok (a54))) 5 1 rfl rfl rfl (λ_ s=>s.l.l.r) (EvS.ev (EvB.sh (XL (X9 (Xb (r:=Xa) 7 rfl (λ_ s=>s.r)) (Xb (r:=Xa) 2 rfl (λ_ s=>s.l.l.l.l.l.r))) (Xr (Xr (Xb (r:=(rV (rV Xa))) 1 rfl (λ_ s=>s.l.l.l.l.l.l.r)) (XU (Xb (r:=Xa) 4 rfl (λ_ s=>s.l.l.l.r)) (Xb (r:=Xa) 2 rfl (λ_ s=>s.l.l.l.l.l.r)))) (XU (Xb (r:=Xa) 6 rfl (λ_ s=>s.l.r)) (Xb (r:=Xa) 2 rfl (λ_ s=>s.l.l.l.l.l.r))))))) λa52 C53=>(Xw (J:=_) ((some v29),(some v31),x27.2.2.1,C53) ((g26++[a52])) rfl rfl (λ_ s=>(SC.i (SC.i (SC.i (SC.i (SC.i (SC.i SC.t s.l.l.l.l.l.l.l.l.r) s.l.l.l.l.l.l.l.r) s.l.l.l.l.l.l.r) s.l.l.l.l.l.r) s.l.l.l.l.r) s.r)))))) λg55 x56=>(Zl (K:=K) (o:=(oL (oF Xa))) (f:=λa59=>(Rs.ok (a59))) 3 0 rfl rfl rfl (λ_ s=>s.l.l.r) (Yd (o:=(oL (oF Xa))) 5 1 rfl rfl (λ_ s=>s.r)) λa57 C58=>(Xw (J:=_) ((some v16),(some x56.2.2.1),(x56.1),(x56.2.1),x14.2.2.2.2.1,C58) ((g13++[a57])) rfl rfl (λ_ s=>(SC.i (SC.i (SC.i (SC.i SC.t s.l.l.l.l.l.l.r) s.l.l.l.l.l.r) s.l.l.l.l.r) s.r))))))) λg61 x62=>(XC (Yd (o:=(oL (oL (oF Xa)))) 3 0 rfl rfl (λ_ s=>s.r))))))
theorem Zm:FnScope ["_law_one","_law_other","_law_size","_law_found","_law_a"] ["_law_one","_law_other"] (Xk Z3):=⟨rfl,rfl,rfl,by decide+kernel,rfl,by decide+kernel,by decide+kernel⟩
theorem Ko (D:Def K mg "_law_side_table" Z3 ["_law_one","_law_other"])(Z:Blt mg):Fn P w K mg base 1 "_law_side_table" ["_law_one","_law_other"] (sp2 (rV (rV Xa)) (rV (rV Xa)) (oL (oL (oF Xa))) Zi K):=by
 refine Ys D Zm (λvs H Q E h=>?_) (λf cdv A outer s H vs Q E hr h=>?_)
 ·obtain⟨v_0,v_1,a_0,a_1,b,rfl,_⟩:=h;rfl
 obtain⟨v_0,v_1,a_0,a_1,b,rfl,h_0,h_1,hm,q⟩:=h
 have hu:=hu8 hr
 have hu1:=Yo hr
 refine⟨_,(Xc (Xq (i:=2) Zm.nd rfl (Or.inr rfl) (Xn (Xi K rfl) rfl Z.b_len PySem.boot_len (Xd (pv 0) Xf)))
  (Xc (Xq (i:=3) Zm.nd rfl (Or.inl rfl) (XZ Xf))
  (Xc (X2 PassesOwn.never rfl (XH rfl Z.b_range (Xd (pv 2) Xf)) (Xo (i:=4) Zm.nd rfl (Or.inl rfl))
   (Xc (Ye (Zt PySem.F.plainAttrs_list PySem.F.slot_list_append PySem.F.type_list_append XT (pv 3) (Xd (Xs Ul (YO (X6 K rfl) rfl Z.b_list PyProof.Rows.boot_list (Xd (Xy (Xj K rfl) (pv 0) (pv 4) (λ_ _=>rfl)) Xf)) (Xs J6 (XZ (Xd (pv 4) Xf)) (Xn (Xi K rfl) rfl Z.b_len PySem.boot_len (Xd (pv 1) Xf)))) Xf)))
   Xg))
  (Xc (X2 PassesOwn.never rfl (XH rfl Z.b_range (Xd (Xn (Xi K rfl) rfl Z.b_len PySem.boot_len (Xd (pv 1) Xf)) Xf)) (Xo (i:=4) Zm.nd rfl (Or.inl rfl))
   (Xc (Ye (Zt PySem.F.plainAttrs_list PySem.F.slot_list_append PySem.F.type_list_append XT (pv 3) (Xd (Xs Ul (Xs J6 (XZ (Xd (Xs X0 (pv 4) (pv 2)) Xf)) (pv 2)) (YX (sc:=(Xk Z3)) (N0:=["_law_one","_law_other","_law_size","_law_found","_law_a"]) (tns:=["_law_b"]) (caps:=[(2,"_law_size")]) rfl (XO (K:=K) rfl (Xy (Xj K rfl) (pv 1) (pv 4) (λ_ _=>rfl))) (YI (by decide)) (λcl C s H ex E=>⟨Xo (i:=0) (show List.Nodup (["_law_b","_law_size"]:List Str) by decide+kernel) rfl (Or.inl rfl),Y0,(Xs X0 (pv 0) (pv 1))⟩))) Xf)))
   Xg))
  (Xc (Xz (pv 3))
  Xg))))),?_⟩
 refine Yw (S:=(SC.add (SC.add SC.nil K (rV (rV Xa)) v_0 a_0) K (rV (rV Xa)) v_1 a_1)) (σ:=[some v_0,some v_1,none,none,none]) 1 ?_ (SC.i (SC.i SC.t h_0) h_1) hm q rfl
 unfold Zi
 exact(Xx (K:=K) (r:=Xa) 2 (EvB.sh (XA (Xb (r:=(rV (rV Xa))) 0 rfl (λ_ s=>s.l.r)))) λa1 v2=>(XS (K:=K) (o:=(oL (oL (oF Xa)))) 3 0 (Qm (o:=(oL (oF Xa)))) (Nat.le_of_ble_eq_true rfl) λa4 v5 C6=>(Yk (K:=K) (J:=({oo:=λx8=>[x8.2.2],ss:=λx8=>[some v_0,some v_1,some v2,some x8.2.1,x8.1],sc:=λg9 x8=>(SC.addO (SC.add (SC.add (SC.add SC.nil K (rV (rV Xa)) v_0 a_0) K (rV (rV Xa)) v_1 a_1) K Xa v2 a1) K (oL (oL (oF Xa))) x8.2.1 g9 x8.2.2)}:Jn ((List (List Int))) (Option V×V×List XF))) (λ_=>tg1 4) ((none),v5,C6) (a4) (Xv (Xb (r:=Xa) 2 rfl (λ_ s=>s.l.r))) rfl rfl (λ_ s=>(SC.i (SC.i (SC.i (SC.i SC.t s.l.l.l.r) s.l.l.r) s.l.r) s.r)) (λg10 x11 a12 v13=>(Zl (K:=K) (o:=(oL (oF Xa))) (f:=λa27=>(Rs.ok (a27))) 3 0 rfl rfl rfl (λ_ s=>s.l.r) (V0 (Ev.ls (Z7 (EvB.ls (Xr (Xb (r:=(rV (rV Xa))) 0 rfl (λ_ s=>s.l.l.l.l.r)) (Xb (r:=Xa) 4 rfl (λ_ s=>s.r)))))) (Ev.ls (J5 (Ev.ls (Ze (Xt (Xl (r:=Xa) 4 rfl (λ_ s=>s.r)) Yt))) (XA (Xb (r:=(rV (rV Xa))) 1 rfl (λ_ s=>s.l.l.l.r)))))) λa25 C26=>(Xw (J:=_) ((some v13),x11.2.1,C26) ((g10++[a25])) rfl rfl (λ_ s=>(SC.i (SC.i (SC.i (SC.i SC.t s.l.l.l.l.l.r) s.l.l.l.l.r) s.l.l.l.r) s.r))))) λg28 x29=>(Yk (K:=K) (J:=({oo:=λx32=>[x32.2.2],ss:=λx32=>[some v_0,some v_1,some v2,some x32.2.1,x32.1],sc:=λg33 x32=>(SC.addO (SC.add (SC.add (SC.add SC.nil K (rV (rV Xa)) v_0 a_0) K (rV (rV Xa)) v_1 a_1) K Xa v2 a1) K (oL (oL (oF Xa))) x32.2.1 g33 x32.2.2)}:Jn ((List (List Int))) (Option V×V×List XF))) (λ_=>tg1 4) ((x29.1),x29.2.1,x29.2.2) (g28) (Xv (XA (Xb (r:=(rV (rV Xa))) 1 rfl (λ_ s=>s.l.l.r)))) rfl rfl (λ_ s=>(SC.i (SC.i (SC.i (SC.i SC.t s.l.l.l.r) s.l.l.r) s.l.r) s.r)) (λg34 x35 a36 v37=>(Zl (K:=K) (o:=(oL (oF Xa))) (f:=λa57=>(Rs.ok (a57))) 3 0 rfl rfl rfl (λ_ s=>s.l.r) (V0 (Ev.ls (J5 (Ev.ls (Ze (Xt (EvB.sh (XL (Xb (r:=Xa) 4 rfl (λ_ s=>s.r)) (Xb (r:=Xa) 2 rfl (λ_ s=>s.l.l.r)))) Yt))) (Xb (r:=Xa) 2 rfl (λ_ s=>s.l.l.r)))) (Ev.ls (Y3 (λ_=>tg1 0) (XI (Hc (EvS.ls (Xl (r:=(rV (rV Xa))) 1 rfl (λ_ s=>s.l.l.l.r))) (Xb (r:=Xa) 4 rfl (λ_ s=>s.r)))) (λC49 a50 v51=>(EvS.ev (EvB.sh (XL (Xb (r:=Xa) 0 rfl (λ_ s=>s.r)) (Xb (r:=Xa) 1 rfl (λ_ s=>s.l.l.l.r))))))))) λa55 C56=>(Xw (J:=_) ((some v37),x35.2.1,C56) ((g34++[a55])) rfl rfl (λ_ s=>(SC.i (SC.i (SC.i (SC.i SC.t s.l.l.l.l.l.r) s.l.l.l.l.r) s.l.l.l.r) s.r))))) λg58 x59=>(XC (Yd (o:=(oL (oL (oF Xa)))) 3 0 rfl rfl (λ_ s=>s.r)))))))
theorem Jy:FnScope ["_law_one","_law_other","_law_some","_law_spots","_law_pairs"] ["_law_one","_law_other","_law_some"] (Xk QX):=⟨rfl,rfl,rfl,by decide+kernel,rfl,by decide+kernel,by decide+kernel⟩
theorem CU (D:Def K mg "_law_tables" QX ["_law_one","_law_other","_law_some"])(g_ordered:Fn P w K mg base 1 "_law_ordered" ["_law_some","_law_count_here"] (sp2 (rV Xa) Xa (oL (oF Xa)) ZC K))(g_pairs_table:Fn P w K mg base 1 "_law_pairs_table" ["_law_one","_law_other"] (sp2 (rV (rV Xa)) (rV (rV Xa)) (oL (oL (oF Xa))) YK K))(g_relaid:Fn P w K mg base 1 "_law_relaid" ["_law_some","_law_spots"] (sp2 (rV (rV Xa)) (rV Xa) (oL (oL (oF Xa))) Z2 K))(g_side_table:Fn P w K mg base 1 "_law_side_table" ["_law_one","_law_other"] (sp2 (rV (rV Xa)) (rV (rV Xa)) (oL (oL (oF Xa))) Zi K))(Z:Blt mg):Fn P w K mg base 2 "_law_tables" ["_law_one","_law_other","_law_some"] (M0 (rV (rV Xa)) (rV (rV Xa)) (rV Xa) (oT3 (oF (rV (rV Xa))) (oF (rV (rV Xa))) (oL (oF Xa))) QP K):=by
 refine Ys D Jy (λvs H Q E h=>?_) (λf cdv A outer s H vs Q E hr h=>?_)
 ·obtain⟨v_0,v_1,v_2,a_0,a_1,a_2,b,rfl,_⟩:=h;rfl
 obtain⟨v_0,v_1,v_2,a_0,a_1,a_2,b,rfl,Cf,hw,h_0,h_1,h_2,hm,q⟩:=h
 have hu:=hu8 hr
 have hu1:=Yo hr
 refine⟨_,(Xc (Yj (Xu ZG (Xy (Xj K rfl) (pv 2) Xh (λ_ _=>rfl)) Xh (XD _))
   (Xc (Xq (i:=3) Jy.nd rfl (Or.inl rfl) (X5 g_ordered hr (by decide) (Xd (JG (Js K rfl) (pv 2) (VP Xh) VS) (Xd (Xn (Xi K rfl) rfl Z.b_len PySem.boot_len (Xd (pv 0) Xf)) Xf))))
   (Xc (Xz (ZD (Xd (pv 0) (Xd (X5 g_relaid hr (by decide) (Xd (pv 0) (Xd (pv 3) Xf))) (Xd (pv 3) Xf)))))
   Xg))
   Xg)
  (Xc (Yj (Xu ZG (Xy (Xj K rfl) (pv 2) Xh (λ_ _=>rfl)) Xh (XD _))
   (Xc (Xq (i:=4) Jy.nd rfl (Or.inl rfl) (X5 g_pairs_table hr (by decide) (Xd (pv 0) (Xd (pv 1) Xf))))
   (Xc (Xz (ZD (Xd (pv 4) (Xd (pv 0) (Xd (YX (sc:=(Xk QX)) (N0:=["_law_one","_law_other","_law_some","_law_spots","_law_pairs"]) (tns:=["_law_a"]) (caps:=[(1,"_law_other")]) rfl (XH rfl Z.b_range (Xd (Xn (Xi K rfl) rfl Z.b_len PySem.boot_len (Xd (pv 4) Xf)) Xf)) (YI (by decide)) (λcl C s H ex E=>⟨Xo (i:=0) (show List.Nodup (["_law_a","_law_other"]:List Str) by decide+kernel) rfl (Or.inl rfl),Y0,(Xs QT (pv 0) (Xn (Xi K rfl) rfl Z.b_len PySem.boot_len (Xd (pv 1) Xf)))⟩)) Xf)))))
   Xg))
   Xg)
  (Xc (Yj (Xu ZG (Xy (Xj K rfl) (pv 2) Xh (λ_ _=>rfl)) Xh (XD _))
   (Xc (Xq (i:=4) Jy.nd rfl (Or.inl rfl) (X5 g_pairs_table hr (by decide) (Xd (pv 0) (Xd (pv 1) Xf))))
   (Xc (Xz (ZD (Xd (pv 4) (Xd (pv 1) (Xd (YX (sc:=(Xk QX)) (N0:=["_law_one","_law_other","_law_some","_law_spots","_law_pairs"]) (tns:=["_law_a"]) (caps:=[(1,"_law_other")]) rfl (XH rfl Z.b_range (Xd (Xn (Xi K rfl) rfl Z.b_len PySem.boot_len (Xd (pv 4) Xf)) Xf)) (YI (by decide)) (λcl C s H ex E=>⟨Xo (i:=0) (show List.Nodup (["_law_a","_law_other"]:List Str) by decide+kernel) rfl (Or.inl rfl),Y0,(Xs Yb (pv 0) (Xn (Xi K rfl) rfl Z.b_len PySem.boot_len (Xd (pv 1) Xf)))⟩)) Xf)))))
   Xg))
   Xg)
  (Xc (Yj (Xu ZG (Xy (Xj K rfl) (pv 2) Xh (λ_ _=>rfl)) Xh (XD _))
   (Xc (Xz (ZD (Xd (pv 0) (Xd (X5 g_side_table hr (by decide) (Xd (pv 0) (Xd (pv 1) Xf))) (Xd (Vb rfl rfl rfl Z.b_list Z.b_range (Xd (Xn (Xi K rfl) rfl Z.b_len PySem.boot_len (Xd (pv 0) Xf)) Xf)) Xf)))))
   Xg)
   Xg)
  (Xc (Yj (Xu ZG (Xy (Xj K rfl) (pv 2) Xh (λ_ _=>rfl)) Xh (XD _))
   (Xc (Xz (ZD (Xd (pv 0) (Xd (pv 1) (Xd (Xs J6 (XZ (Xd (Xs Yb (Xy (Xj K rfl) (pv 2) Xh (λ_ _=>rfl)) (Xn (Xi K rfl) rfl Z.b_len PySem.boot_len (Xd (pv 1) Xf))) Xf)) (Xn (Xi K rfl) rfl Z.b_len PySem.boot_len (Xd (pv 0) Xf))) Xf)))))
   Xg)
   Xg)
  (Xc (Xz (ZD (Xd (pv 0) (Xd (pv 1) (Xd (YX (sc:=(Xk QX)) (N0:=["_law_one","_law_other","_law_some","_law_spots","_law_pairs"]) (tns:=["_law_a"]) (caps:=[(2,"_law_some"),(1,"_law_other")]) rfl (XH rfl Z.b_range (Xd (Xn (Xi K rfl) rfl Z.b_len PySem.boot_len (Xd (pv 0) Xf)) Xf)) (YI (by decide)) (λcl C s H ex E=>⟨Xo (i:=0) (show List.Nodup (["_law_a","_law_some","_law_other"]:List Str) by decide+kernel) rfl (Or.inl rfl),Y0,(Xs Yb (Xy (Xj K rfl) (pv 1) (Xs X0 Xh (pv 0)) (λ_ _=>rfl)) (Xn (Xi K rfl) rfl Z.b_len PySem.boot_len (Xd (pv 2) Xf)))⟩)) Xf)))))
  Xg)))))),?_⟩
 refine Mr (S:=(SC.add (SC.add (SC.add SC.nil K (rV (rV Xa)) v_0 a_0) K (rV (rV Xa)) v_1 a_1) K (rV Xa) v_2 a_2)) (σ:=[some v_0,some v_1,some v_2,none,none]) 1 ?_ hw (SC.i (SC.i (SC.i SC.t h_0) h_1) h_2) hm q rfl
 unfold QP
 exact(Jt (Xp (K:=K) (YL (Xr (Xb (r:=(rV Xa)) 2 rfl (λ_ s=>s.r)) (Xe 0)) (Xe 0))) (XS (K:=K) (o:=(oL (oF Xa))) 3 0 (X4 (Ev.toB (Vv (EvS.ls (Xl (r:=(rV Xa)) 2 rfl (λ_ s=>s.r))) (JD (K:=K) (Xe 5)) Jw)) (XA (Xb (r:=(rV (rV Xa))) 0 rfl (λ_ s=>s.l.l.r)))) (Nat.le_of_ble_eq_true rfl) λa6 v7 C8=>(QR (K:=K) 1 rfl (QO (EvS.ev (Xl (r:=(rV (rV Xa))) 0 rfl (λ_ s=>s.l.l.l.r))) (λ_=>(EvS.ev (Ev.sh (o:=(oL (oL (oF Xa)))) (r:=(rV (rV Xa))) (X4 (Xb (r:=(rV (rV Xa))) 0 rfl (λ_ s=>s.l.l.l.r)) (YC (o:=(oL (oF Xa))) 3 1 rfl rfl (λ_ s=>s.r)))))) λ_ _=>(Yd (o:=(oL (oF Xa))) 3 2 rfl rfl (λ_ s=>s.r))))) (Jt (Xp (K:=K) (YL (Xr (Xb (r:=(rV Xa)) 2 rfl (λ_ s=>s.r)) (Xe 0)) (Xe 1))) (Xx (K:=K) (r:=(rV (rV Xa))) 4 (Ev.sh (X4 (Xb (r:=(rV (rV Xa))) 0 rfl (λ_ s=>s.l.l.r)) (Xb (r:=(rV (rV Xa))) 1 rfl (λ_ s=>s.l.r)))) λa28 v29=>(QR (K:=K) 1 rfl (QO (EvS.ev (Xl (r:=(rV (rV Xa))) 4 rfl (λ_ s=>s.r))) (λ_=>(EvS.ev (Xl (r:=(rV (rV Xa))) 0 rfl (λ_ s=>s.l.l.l.r)))) λ_ _=>(Y3 (λ_=>tg1 0) (Xv (XA (Xb (r:=(rV (rV Xa))) 4 rfl (λ_ s=>s.r)))) (λC35 a36 v37=>(EvS.ev (EvB.sh (JU (Xb (r:=Xa) 0 rfl (λ_ s=>s.r)) (XA (Xb (r:=(rV (rV Xa))) 1 rfl (λ_ s=>s.l.l.l.r))))))))))) (Jt (Xp (K:=K) (YL (Xr (Xb (r:=(rV Xa)) 2 rfl (λ_ s=>s.r)) (Xe 0)) (Xe 2))) (Xx (K:=K) (r:=(rV (rV Xa))) 4 (Ev.sh (X4 (Xb (r:=(rV (rV Xa))) 0 rfl (λ_ s=>s.l.l.r)) (Xb (r:=(rV (rV Xa))) 1 rfl (λ_ s=>s.l.r)))) λa50 v51=>(QR (K:=K) 1 rfl (QO (EvS.ev (Xl (r:=(rV (rV Xa))) 4 rfl (λ_ s=>s.r))) (λ_=>(EvS.ev (Xl (r:=(rV (rV Xa))) 1 rfl (λ_ s=>s.l.l.r)))) λ_ _=>(Y3 (λ_=>tg1 0) (Xv (XA (Xb (r:=(rV (rV Xa))) 4 rfl (λ_ s=>s.r)))) (λC57 a58 v59=>(EvS.ev (EvB.sh (XU (Xb (r:=Xa) 0 rfl (λ_ s=>s.r)) (XA (Xb (r:=(rV (rV Xa))) 1 rfl (λ_ s=>s.l.l.l.r))))))))))) (Jt (Xp (K:=K) (YL (Xr (Xb (r:=(rV Xa)) 2 rfl (λ_ s=>s.r)) (Xe 0)) (Xe 3))) (QR (K:=K) 1 rfl (QO (EvS.ev (Xl (r:=(rV (rV Xa))) 0 rfl (λ_ s=>s.l.l.r))) (λ_=>(EvS.ev (Ev.sh (o:=(oL (oL (oF Xa)))) (r:=(rV (rV Xa))) (X4 (Xb (r:=(rV (rV Xa))) 0 rfl (λ_ s=>s.l.l.r)) (Xb (r:=(rV (rV Xa))) 1 rfl (λ_ s=>s.l.r)))))) λ_ _=>(Va (XA (Xb (r:=(rV (rV Xa))) 0 rfl (λ_ s=>s.l.l.r)))))) (Jt (Xp (K:=K) (YL (Xr (Xb (r:=(rV Xa)) 2 rfl (λ_ s=>s.r)) (Xe 0)) (Xe 4))) (QR (K:=K) 1 rfl (QO (EvS.ev (Xl (r:=(rV (rV Xa))) 0 rfl (λ_ s=>s.l.l.r))) (λ_=>(EvS.ev (Xl (r:=(rV (rV Xa))) 1 rfl (λ_ s=>s.l.r)))) λ_ _=>(J5 (Ev.ls (Ze (Xt (EvB.sh (XU (Xr (Xb (r:=(rV Xa)) 2 rfl (λ_ s=>s.r)) (Xe 1)) (XA (Xb (r:=(rV (rV Xa))) 1 rfl (λ_ s=>s.l.r))))) Yt))) (XA (Xb (r:=(rV (rV Xa))) 0 rfl (λ_ s=>s.l.l.r)))))) (QR (K:=K) 1 rfl (QO (EvS.ev (Xl (r:=(rV (rV Xa))) 0 rfl (λ_ s=>s.l.l.r))) (λ_=>(EvS.ev (Xl (r:=(rV (rV Xa))) 1 rfl (λ_ s=>s.l.r)))) λ_ _=>(Y3 (λ_=>tg1 0) (Xv (XA (Xb (r:=(rV (rV Xa))) 0 rfl (λ_ s=>s.l.l.r)))) (λC101 a102 v103=>(EvS.ev (EvB.sh (XU (Xr (Xb (r:=(rV Xa)) 1 rfl (λ_ s=>s.l.r)) (XL (Xe 5) (Xb (r:=Xa) 0 rfl (λ_ s=>s.r)))) (XA (Xb (r:=(rV (rV Xa))) 2 rfl (λ_ s=>s.l.l.r)))))))))))))))
theorem Fa:FnScope ["_law_one","_law_other","_law_images","_law_colour","_law_a","_law_b"] ["_law_one","_law_other","_law_images"] (Xk Hz):=⟨rfl,rfl,rfl,by decide+kernel,rfl,by decide+kernel,by decide+kernel⟩
theorem Ms (D:Def K mg "_law_due" Hz ["_law_one","_law_other","_law_images"])(Z:Blt mg):Fn P w K mg base 1 "_law_due" ["_law_one","_law_other","_law_images"] (sp3 (rV (rV Xa)) (rV (rV Xa)) (rV Xa) (oF XQ) KG K):=by
 refine Ys D Fa (λvs H Q E h=>?_) (λf cdv A outer s H vs Q E hr h=>?_)
 ·obtain⟨v_0,v_1,v_2,a_0,a_1,a_2,b,rfl,_⟩:=h;rfl
 obtain⟨v_0,v_1,v_2,a_0,a_1,a_2,b,rfl,h_0,h_1,h_2,hm,q⟩:=h
 have hu:=hu8 hr
 have hu1:=Yo hr
 refine⟨_,(Xc (Yj (Xu G7 (Xn (Xi K rfl) rfl Z.b_len PySem.boot_len (Xd (pv 2) Xf)) (Xn (Xi K rfl) rfl Z.b_len PySem.boot_len (Xd (pv 0) Xf)) (XD _))
   (Xc (Xz Qu)
   Xg)
   Xg)
  (Xc (X2 PassesOwn.never rfl (XO (K:=K) rfl (pv 2)) (Xo (i:=3) Fa.nd rfl (Or.inl rfl))
   (Xc (Yj (PW.pt (GA (Xu Ql (pv 3) Xh (XD _)) (Ux (Xu HF (pv 3) (Xn (Xi K rfl) rfl Z.b_len PySem.boot_len (Xd (pv 1) Xf)) (XD _)))))
    (Xc (Xz Qu)
    Xg)
    Xg)
   Xg))
  (Xc (X2 PassesOwn.never rfl (XH rfl Z.b_range (Xd (Xn (Xi K rfl) rfl Z.b_len PySem.boot_len (Xd (pv 0) Xf)) Xf)) (Xo (i:=4) Fa.nd rfl (Or.inl rfl))
   (Xc (X2 PassesOwn.never rfl (XH rfl Z.b_range (Xd (Xn (Xi K rfl) rfl Z.b_len PySem.boot_len (Xd (pv 0) Xf)) Xf)) (Xo (i:=5) Fa.nd rfl (Or.inl rfl))
    (Xc (Yj (Xu G7 (Xy (Xj K rfl) (pv 2) (Xy (Xj K rfl) (Xy (Xj K rfl) (pv 0) (pv 4) (λ_ _=>rfl)) (pv 5) (λ_ _=>rfl)) (λ_ _=>rfl)) (Xy (Xj K rfl) (Xy (Xj K rfl) (pv 1) (Xy (Xj K rfl) (pv 2) (pv 4) (λ_ _=>rfl)) (λ_ _=>rfl)) (Xy (Xj K rfl) (pv 2) (pv 5) (λ_ _=>rfl)) (λ_ _=>rfl)) (XD _))
     (Xc (Xz Qu)
     Xg)
     Xg)
    Xg))
   Xg))
  (Xc (Xz Qu)
  Xg)))),?_⟩
 refine Yw (S:=(SC.add (SC.add (SC.add SC.nil K (rV (rV Xa)) v_0 a_0) K (rV (rV Xa)) v_1 a_1) K (rV Xa) v_2 a_2)) (σ:=[some v_0,some v_1,some v_2,none,none,none]) 0 ?_ (SC.i (SC.i (SC.i SC.t h_0) h_1) h_2) hm q rfl
 unfold KG
 exact(ZM (Xp (K:=K) (VC (XA (Xb (r:=(rV Xa)) 2 rfl (λ_ s=>s.r))) (XA (Xb (r:=(rV (rV Xa))) 0 rfl (λ_ s=>s.l.l.r))))) (XC (EvS.ev (EvB.sh (Zn false)))) (Qs (K:=K) (J:=({oo:=λx6=>[],ss:=λx6=>[some v_0,some v_1,some v_2,x6,none,none],sc:=λg7 x6=>(SC.add (SC.add (SC.add SC.nil K (rV (rV Xa)) v_0 a_0) K (rV (rV Xa)) v_1 a_1) K (rV Xa) v_2 a_2)}:Jn (Unit) (Option V))) (λ_=>tg1 3) ((none)) () (XI (Xl (r:=(rV Xa)) 2 rfl (λ_ s=>s.r))) rfl rfl (λ_ s=>(SC.i (SC.i (SC.i SC.t s.l.l.r) s.l.r) s.r)) (λg8 x9 a10 v11=>(Qp (VE (Xp (K:=K) (Zr (Xb (r:=Xa) 3 rfl (λ_ s=>s.r)) (Xe 0))) (Xp (K:=K) (DV (Xb (r:=Xa) 3 rfl (λ_ s=>s.r)) (XA (Xb (r:=(rV (rV Xa))) 1 rfl (λ_ s=>s.l.l.r)))))) (XC (EvS.ev (EvB.sh (Zn false)))) (QC (Xw (J:=_) ((some v11)) () rfl rfl (λ_ s=>(SC.i (SC.i (SC.i SC.t s.l.l.l.r) s.l.l.r) s.l.r)))))) λg20 x21=>(Qs (K:=K) (J:=({oo:=λx24=>[],ss:=λx24=>[some v_0,some v_1,some v_2,x21,x24.1,x24.2],sc:=λg25 x24=>(SC.add (SC.add (SC.add SC.nil K (rV (rV Xa)) v_0 a_0) K (rV (rV Xa)) v_1 a_1) K (rV Xa) v_2 a_2)}:Jn (Unit) (Option V×Option V))) (λ_=>tg1 4) ((none),(none)) () (Xv (XA (Xb (r:=(rV (rV Xa))) 0 rfl (λ_ s=>s.l.l.r)))) rfl rfl (λ_ s=>(SC.i (SC.i (SC.i SC.t s.l.l.r) s.l.r) s.r)) (λg26 x27 a28 v29=>(FX (K:=K) (J:=({oo:=λx32=>[],ss:=λx32=>[some v_0,some v_1,some v_2,x21,some v29,x32],sc:=λg33 x32=>(SC.add (SC.add (SC.add (SC.add SC.nil K (rV (rV Xa)) v_0 a_0) K (rV (rV Xa)) v_1 a_1) K (rV Xa) v_2 a_2) K Xa v29 a28)}:Jn (Unit) (Option V))) (λ_=>tg1 5) ((x27.2)) () (Xv (XA (Xb (r:=(rV (rV Xa))) 0 rfl (λ_ s=>s.l.l.l.r)))) rfl rfl (λ_ s=>(SC.i (SC.i (SC.i (SC.i SC.t s.l.l.l.r) s.l.l.r) s.l.r) s.r)) (λg34 x35 a36 v37=>(Qp (Xp (K:=K) (VC (Xr (Xb (r:=(rV Xa)) 2 rfl (λ_ s=>s.l.l.r)) (Xr (Xr (Xb (r:=(rV (rV Xa))) 0 rfl (λ_ s=>s.l.l.l.l.r)) (Xb (r:=Xa) 4 rfl (λ_ s=>s.l.r))) (Xb (r:=Xa) 5 rfl (λ_ s=>s.r)))) (Xr (Xr (Xb (r:=(rV (rV Xa))) 1 rfl (λ_ s=>s.l.l.l.r)) (Xr (Xb (r:=(rV Xa)) 2 rfl (λ_ s=>s.l.l.r)) (Xb (r:=Xa) 4 rfl (λ_ s=>s.l.r)))) (Xr (Xb (r:=(rV Xa)) 2 rfl (λ_ s=>s.l.l.r)) (Xb (r:=Xa) 5 rfl (λ_ s=>s.r)))))) (XC (EvS.ev (EvB.sh (Zn false)))) (QC (Xw (J:=_) ((some v37)) () rfl rfl (λ_ s=>(SC.i (SC.i (SC.i (SC.i SC.t s.l.l.l.l.r) s.l.l.l.r) s.l.l.r) s.l.r)))))) λg57 x58=>(QC (Xw (J:=_) ((some v29),(x58)) () rfl rfl (λ_ s=>(SC.i (SC.i (SC.i SC.t s.l.l.l.r) s.l.l.r) s.l.r)))))) λg61 x62=>(XC (EvS.ev (EvB.sh (Zn true)))))))
theorem Yr:FnScope ["_law_drawing","_law_one","_law_other","_law_images","_law_meetings","_law_there","_law_numbers","_law_found","_law_new"] ["_law_drawing","_law_one","_law_other","_law_images"] (Xk Y8):=⟨rfl,rfl,rfl,by decide+kernel,rfl,by decide+kernel,by decide+kernel⟩
theorem Um (D:Def K mg "_law_carried_all" Y8 ["_law_drawing","_law_one","_law_other","_law_images"])(g_l_meets:Fn P w K mg base 2 "_law_meets" ["_law_drawing"] (sp1 (rP2 (rV (rV Xa)) (rV (rP2 Xa Xa))) (oL (oF (rP5 Xa Xa Xa Xa Xa))) Qb K))(g_colourings:Fn P w K mg base 6 "colourings" ["drawing","table"] (sp2 (rP2 (rV (rV Xa)) (rV (rP2 Xa Xa))) (rV (rV Xa)) (oL (oL (oF Xa))) YZ K))(g_copy:Fn P w K mg base 1 "_law_copy" ["_law_drawing"] (sp1 (rP2 (rV (rV Xa)) (rV (rP2 Xa Xa))) (oT2 (oL (oL (oF Xa))) (oL (oF (rP2 Xa Xa)))) VD K))(g_is_wholes:Fn P w K mg base 2 "_law_is_wholes" ["_law_found"] (sp1 (rV Xa) (oF XQ) Y4 K))(g_count:Fn P w K mg base 1 "_law_count" ["_law_drawing"] (sp1 (rP2 (rV (rV Xa)) (rV (rP2 Xa Xa))) (oF Xa) Qw K))(g_keeps:Fn P w K mg base 1 "_law_keeps" ["_law_meetings","_law_table","_law_colours"] (sp3 (rV (rP5 Xa Xa Xa Xa Xa)) (rV (rV Xa)) (rV Xa) (oF XQ) JW K))(Z:Blt mg):Fn P w K mg base 7 "_law_carried_all" ["_law_drawing","_law_one","_law_other","_law_images"] (sp4 (rP2 (rV (rV Xa)) (rV (rP2 Xa Xa))) (rV (rV Xa)) (rV (rV Xa)) (rV Xa) (oF XQ) Y6 K):=by
 refine Ys D Yr (λvs H Q E h=>?_) (λf cdv A outer s H vs Q E hr h=>?_)
 ·obtain⟨v_0,v_1,v_2,v_3,a_0,a_1,a_2,a_3,b,rfl,_⟩:=h;rfl
 obtain⟨v_0,v_1,v_2,v_3,a_0,a_1,a_2,a_3,b,rfl,h_0,h_1,h_2,h_3,hm,q⟩:=h
 have hu:=hu8 hr
 have hu1:=Yo hr
 refine⟨_,(Xc (Xq (i:=4) Yr.nd rfl (Or.inl rfl) (X5 g_l_meets hr (by decide) (Xd (pv 0) Xf)))
  (Xc (Xq (i:=5) Yr.nd rfl (Or.inl rfl) Ef)
  (Xc (X2 PassesOwn.never rfl (XO (K:=K) rfl (X5 g_colourings hr (by decide) (Xd (X5 g_copy hr (by decide) (Xd (pv 0) Xf)) (Xd (YX (sc:=(Xk Y8)) (N0:=["_law_drawing","_law_one","_law_other","_law_images","_law_meetings","_law_there","_law_numbers","_law_found","_law_new"]) (tns:=["_law_line"]) (caps:=[]) rfl (XO (K:=K) rfl (pv 2)) (YI (by decide)) (λcl C s H ex E=>⟨Xo (i:=0) (show List.Nodup (["_law_line"]:List Str) by decide+kernel) rfl (Or.inl rfl),Y0,(YO (X6 K rfl) rfl Z.b_list PyProof.Rows.boot_list (Xd (pv 0) Xf))⟩)) Xf)))) (Xo (i:=6) Yr.nd rfl (Or.inl rfl))
   (Xc (Yj (Jr (QD (X5 g_is_wholes hr (by decide) (Xd (pv 6) Xf))))
    (Xc (Xz Qu)
    Xg)
    Xg)
   (Xc (Bd hu1 (pv 5) (YO (Q4 K rfl) rfl Z.b_tuple PyProof.Rows.boot_tuple (Xd (pv 6) Xf)) Qu rfl)
   Xg)))
  (Xc (Xq (i:=7) Yr.nd rfl (Or.inl rfl) (X5 g_colourings hr (by decide) (Xd (X5 g_copy hr (by decide) (Xd (pv 0) Xf)) (Xd (YX (sc:=(Xk Y8)) (N0:=["_law_drawing","_law_one","_law_other","_law_images","_law_meetings","_law_there","_law_numbers","_law_found","_law_new"]) (tns:=["_law_line"]) (caps:=[]) rfl (XO (K:=K) rfl (pv 1)) (YI (by decide)) (λcl C s H ex E=>⟨Xo (i:=0) (show List.Nodup (["_law_line"]:List Str) by decide+kernel) rfl (Or.inl rfl),Y0,(YO (X6 K rfl) rfl Z.b_list PyProof.Rows.boot_list (Xd (pv 0) Xf))⟩)) Xf))))
  (Xc (Yj (PW.pt (GA (Jr (QD (Xn ZO rfl Z.b_isinstance PyProof.Rows.boot_isinstance (Xd (pv 7) (Xd (VW (v:=V.ty "list") rfl Z.b_list PyProof.Rows.boot_list rfl) Xf))))) (Ux (PW.pt (Z4 (Xu Ql (Xn (Xi K rfl) rfl Z.b_len PySem.boot_len (Xd (pv 7) Xf)) (Xn (Xi K rfl) rfl Z.b_len PySem.boot_len (Xd (pv 1) Xf)) (XD _)) (Qv (Xu GR (X5 g_count hr (by decide) (Xd (pv 0) Xf)) Xh (XD _))))))))
   (Xc (Xz Qu)
   Xg)
   Xg)
  (Xc (X2 PassesOwn.never rfl (XO (K:=K) rfl (pv 7)) (Xo (i:=6) Yr.nd rfl (Or.inl rfl))
   (Xc (JT 8 (Xk Y8) ["_law_drawing","_law_one","_law_other","_law_images","_law_meetings","_law_there","_law_numbers","_law_found","_law_new"] ["_law_colour"] [(3,"_law_images")] rfl Yr.nd rfl rfl (XO (K:=K) rfl (pv 6)) (YI (by decide)) (λcl C s H ex E=>⟨Xo (i:=0) (show List.Nodup (["_law_colour","_law_images"]:List Str) by decide+kernel) rfl (Or.inl rfl),Y0,(Xy (Xj K rfl) (pv 1) (pv 0) (λ_ _=>rfl))⟩))
   (Xc (Yj (PW.pt (GA (Jr (QD (X5 g_keeps hr (by decide) (Xd (pv 4) (Xd (pv 2) (Xd (pv 8) Xf)))))) (Ux (Mt (Cm hu1 (YO (Q4 K rfl) rfl Z.b_tuple PyProof.Rows.boot_tuple (Xd (pv 8) Xf)) (pv 5))))))
    (Xc (Xz Qu)
    Xg)
    Xg)
   Xg)))
  (Xc (Xz Qu)
  Xg))))))),?_⟩
 refine Yw (S:=(SC.add (SC.add (SC.add (SC.add SC.nil K (rP2 (rV (rV Xa)) (rV (rP2 Xa Xa))) v_0 a_0) K (rV (rV Xa)) v_1 a_1) K (rV (rV Xa)) v_2 a_2) K (rV Xa) v_3 a_3)) (σ:=[some v_0,some v_1,some v_2,some v_3,none,none,none,none,none]) 1 ?_ (SC.i (SC.i (SC.i (SC.i SC.t h_0) h_1) h_2) h_3) hm q rfl
 unfold Y6
 exact(Xx (K:=K) (r:=(rV (rP5 Xa Xa Xa Xa Xa))) 4 (Ev.sh (YH (Xb (r:=(rP2 (rV (rV Xa)) (rV (rP2 Xa Xa)))) 0 rfl (λ_ s=>s.l.l.l.r)))) λa1 v2=>(XS (K:=K) (o:=(oDT XQ)) 5 0 (Ee (r:=XQ)) (Nat.le_of_ble_eq_true rfl) λa5 v6 C7=>(Qs (K:=K) (J:=({oo:=λx18=>[x18.2.2],ss:=λx18=>[some v_0,some v_1,some v_2,some v_3,some v2,some x18.2.1,x18.1,none,none],sc:=λg19 x18=>(SC.addO (SC.add (SC.add (SC.add (SC.add (SC.add SC.nil K (rP2 (rV (rV Xa)) (rV (rP2 Xa Xa))) v_0 a_0) K (rV (rV Xa)) v_1 a_1) K (rV (rV Xa)) v_2 a_2) K (rV Xa) v_3 a_3) K (rV (rP5 Xa Xa Xa Xa Xa)) v2 a1) K (oDT XQ) x18.2.1 g19 x18.2.2)}:Jn ((List ((List Int)×Bool))) (Option V×V×List XF))) (λ_=>tg1 6) ((none),v6,C7) (a5) (XI (Ev.sh (X4 (Ev.toB (YH (Xb (r:=(rP2 (rV (rV Xa)) (rV (rP2 Xa Xa)))) 0 rfl (λ_ s=>s.l.l.l.l.l.r)))) (Ev.toB (Y3 (λ_=>tg1 0) (XI (Xl (r:=(rV (rV Xa))) 2 rfl (λ_ s=>s.l.l.l.r))) (λC11 a12 v13=>(Z7 (EvS.ls (Xl (r:=(rV Xa)) 0 rfl (λ_ s=>s.r)))))))))) rfl rfl (λ_ s=>(SC.i (SC.i (SC.i (SC.i (SC.i (SC.i SC.t s.l.l.l.l.l.r) s.l.l.l.l.r) s.l.l.l.r) s.l.l.r) s.l.r) s.r)) (λg20 x21 a22 v23=>(Qp (Qy (JX (K:=K) (Ev.toB (YH (Xb (r:=(rV Xa)) 6 rfl (λ_ s=>s.r)))))) (XC (EvS.ev (EvB.sh (Zn false)))) (Hb (K:=K) (r:=XQ) (f:=λa31=>(Rs.bind (Rs.ok (a31)) λx33=>(Rs.ok (Ctl.nx x33)))) 5 0 rfl rfl (λ_ s=>s.l.r) (EvB.sh (Zn true)) (UL (Xb (r:=(rV Xa)) 6 rfl (λ_ s=>s.r))) λa31 C32=>(QC (Xw (J:=_) ((some v23),x21.2.1,C32) (a31) rfl rfl (λ_ s=>(SC.i (SC.i (SC.i (SC.i (SC.i (SC.i SC.t s.l.l.l.l.l.l.l.r) s.l.l.l.l.l.l.r) s.l.l.l.l.l.r) s.l.l.l.l.r) s.l.l.l.r) s.r))))))) λg35 x36=>(Xx (K:=K) (r:=(rV (rV Xa))) 7 (Ev.sh (X4 (Ev.toB (YH (Xb (r:=(rP2 (rV (rV Xa)) (rV (rP2 Xa Xa)))) 0 rfl (λ_ s=>s.l.l.l.l.l.r)))) (Ev.toB (Y3 (λ_=>tg1 0) (XI (Xl (r:=(rV (rV Xa))) 1 rfl (λ_ s=>s.l.l.l.l.r))) (λC42 a43 v44=>(Z7 (EvS.ls (Xl (r:=(rV Xa)) 0 rfl (λ_ s=>s.r))))))))) λa37 v38=>(ZM (VE (Qy (JX (K:=K) (Qe "list" true (Vw K "list") (Xb (r:=(rV (rV Xa))) 7 rfl (λ_ s=>s.r))))) (Zj (Xp (K:=K) (Zr (XA (Xb (r:=(rV (rV Xa))) 7 rfl (λ_ s=>s.r))) (XA (Xb (r:=(rV (rV Xa))) 1 rfl (λ_ s=>s.l.l.l.l.l.r))))) (Xp (K:=K) (V8 (Ev.toB (YH (Xb (r:=(rP2 (rV (rV Xa)) (rV (rP2 Xa Xa)))) 0 rfl (λ_ s=>s.l.l.l.l.l.l.r)))) (Xe 0))))) (XC (EvS.ev (EvB.sh (Zn false)))) (Qs (K:=K) (J:=({oo:=λx60=>[x36.2.2],ss:=λx60=>[some v_0,some v_1,some v_2,some v_3,some v2,some x36.2.1,x60.1,some v38,x60.2],sc:=λg61 x60=>(SC.add (SC.addO (SC.add (SC.add (SC.add (SC.add (SC.add SC.nil K (rP2 (rV (rV Xa)) (rV (rP2 Xa Xa))) v_0 a_0) K (rV (rV Xa)) v_1 a_1) K (rV (rV Xa)) v_2 a_2) K (rV Xa) v_3 a_3) K (rV (rP5 Xa Xa Xa Xa Xa)) v2 a1) K (oDT XQ) x36.2.1 g35 x36.2.2) K (rV (rV Xa)) v38 a37)}:Jn (Unit) (Option V×Option V))) (λ_=>tg1 6) ((x36.1),(none)) () (XI (Xl (r:=(rV (rV Xa))) 7 rfl (λ_ s=>s.r))) rfl rfl (λ_ s=>(SC.i (SC.i (SC.i (SC.i (SC.i (SC.i (SC.i SC.t s.l.l.l.l.l.l.r) s.l.l.l.l.l.r) s.l.l.l.l.r) s.l.l.l.r) s.l.l.r) s.l.r) s.r)) (λg62 x63 a64 v65=>(Xx (K:=K) (r:=(rV Xa)) 8 (Ev.sh (Y3 (λ_=>tg1 0) (XI (Xl (r:=(rV Xa)) 6 rfl (λ_ s=>s.r))) (λC68 a69 v70=>(EvS.ev (EvB.sh (Xr (Xb (r:=(rV Xa)) 1 rfl (λ_ s=>s.l.l.l.l.l.r)) (Xb (r:=Xa) 0 rfl (λ_ s=>s.r)))))))) λa66 v67=>(Qp (VE (Qy (JX (K:=K) (Ev.toB (YW (Xb (r:=(rV (rP5 Xa Xa Xa Xa Xa))) 4 rfl (λ_ s=>s.l.l.l.l.r)) (Xb (r:=(rV (rV Xa))) 2 rfl (λ_ s=>s.l.l.l.l.l.l.r)) (Xb (r:=(rV Xa)) 8 rfl (λ_ s=>s.r)))))) (JX (K:=K) (BJ (UL (Xb (r:=(rV Xa)) 8 rfl (λ_ s=>s.r))) (YC (o:=(oDT XQ)) 5 0 rfl rfl (λ_ s=>s.l.l.l.r))))) (XC (EvS.ev (EvB.sh (Zn false)))) (QC (Xw (J:=_) ((some v65),(some v67)) () rfl rfl (λ_ s=>(SC.i (SC.i (SC.i (SC.i (SC.i (SC.i (SC.i SC.t s.l.l.l.l.l.l.l.l.r) s.l.l.l.l.l.l.l.r) s.l.l.l.l.l.l.r) s.l.l.l.l.l.r) s.l.l.l.l.r) s.l.l.l.r) s.l.l.r))))))) λg85 x86=>(XC (EvS.ev (EvB.sh (Zn true))))))))))
theorem ZE:FnScope ["_law_script","_law_drawing","_law_limit_here","_law_some","_law_first","_law_second","_law_one","_law_other","_law_images","_law_at","_law_lines","_law_others","_law_numbers","_law_found","_law_due_here"] ["_law_script"] (Xk Uf):=⟨rfl,rfl,rfl,by decide+kernel,rfl,by decide+kernel,by decide+kernel⟩
theorem Lw {f:Addr}{fd:FuncData}(F:Fun K "law" "law" Uf f fd)(g_drawn:Fn P w K mg base 3 "_law_drawn" ["_law_script","_law_place","_law_most"] (sp3 (rL Xa) Xa Xa (oT2 (oL (oL (oF Xa))) (oL (oF (rP2 Xa Xa)))) Q9 K))(g_row:Fn P w K mg base 2 "_law_row" ["_law_script","_law_place","_law_sizes"] (sp3 (rL Xa) Xa (rV Xa) (oL (oF Xa)) Up K))(g_good_table:Fn P w K mg base 3 "_law_good_table" ["_law_script","_law_place","_law_most"] (sp3 (rL Xa) Xa Xa (oL (oL (oF Xa))) Y1 K))(g_tables:Fn P w K mg base 2 "_law_tables" ["_law_one","_law_other","_law_some"] (M0 (rV (rV Xa)) (rV (rV Xa)) (rV Xa) (oT3 (oF (rV (rV Xa))) (oF (rV (rV Xa))) (oL (oF Xa))) QP K))(g_keeping:Fn P w K mg base 3 "keeping" ["one","other","images"] (sp3 (rV (rV Xa)) (rV (rV Xa)) (rV Xa) (oF XQ) ZB K))(g_due:Fn P w K mg base 1 "_law_due" ["_law_one","_law_other","_law_images"] (sp3 (rV (rV Xa)) (rV (rV Xa)) (rV Xa) (oF XQ) KG K))(g_limit:Fn P w K mg base 2 "_law_limit" ["_law_drawing","_law_most"] (sp2 (rP2 (rV (rV Xa)) (rV (rP2 Xa Xa))) Xa (oF Xa) JZ K))(g_carried_all:Fn P w K mg base 7 "_law_carried_all" ["_law_drawing","_law_one","_law_other","_law_images"] (sp4 (rP2 (rV (rV Xa)) (rV (rP2 Xa Xa))) (rV (rV Xa)) (rV (rV Xa)) (rV Xa) (oF XQ) Y6 K))(Z:Blt mg):FnOk P w K mg base CX0 8 f fd ["_law_script"] (sp1 (rL Xa) (oF XQ) GJ K):=by
 refine F.ok ZE (λvs H Q E h=>?_) (λcdv A outer s H vs Q E hr h=>?_)
 ·obtain⟨v_0,a_0,b,rfl,_⟩:=h;rfl
 obtain⟨v_0,a_0,b,rfl,h_0,hm,q⟩:=h
 have hu:=hu8 hr
 have hu1:=Yo hr
 refine⟨_,(Xc (Xq (i:=1) ZE.nd rfl (Or.inl rfl) (X5 g_drawn hr (by decide) (Xd (pv 0) (Xd Xh (Xd Xh Xf)))))
  (Xc (Xq (i:=2) ZE.nd rfl (Or.inl rfl) (Xn (KY rfl) rfl Z.b_min PyProof.Rows.boot_min (Xd Xh (Xd (X5 g_limit hr (by decide) (Xd (pv 1) (Xd Xh Xf))) Xf))))
  (Xc (Xq (i:=3) ZE.nd rfl (Or.inl rfl) (X5 g_row hr (by decide) (Xd (pv 0) (Xd Xh (Xd (Xs Ul (XZ (Xd Xh (Xd Xh (Xd Xh (Xd Xh (Xd Xh Xf)))))) (Xs J6 (XZ (Xd Xh Xf)) Xh)) Xf)))))
  (Xc (Xq (i:=4) ZE.nd rfl (Or.inl rfl) (X5 g_good_table hr (by decide) (Xd (pv 0) (Xd Xh (Xd (pv 2) Xf)))))
  (Xc (Xq (i:=5) ZE.nd rfl (Or.inl rfl) (X5 g_good_table hr (by decide) (Xd (pv 0) (Xd Xh (Xd (pv 2) Xf)))))
  (Xc (Vc (X5 g_tables hr (by decide) (Xd (pv 4) (Xd (pv 5) (Xd (pv 3) Xf)))) (Q0 rfl (XR (Xo (i:=6) ZE.nd rfl (Or.inl rfl)) (XR (Xo (i:=7) ZE.nd rfl (Or.inl rfl)) (XR (Xo (i:=8) ZE.nd rfl (Or.inl rfl)) Z6)))))
  (Xc (Yj (Xu ZG (Xy (Xj K rfl) (pv 3) Xh (λ_ _=>rfl)) Xh (XD _))
   (Xc (Xq (i:=9) ZE.nd rfl (Or.inl rfl) (Xs Yb (Xy (Xj K rfl) (pv 3) Xh (λ_ _=>rfl)) (Xn (Xi K rfl) rfl Z.b_len PySem.boot_len (Xd (pv 8) Xf))))
   (Xc (Vc (Xy (Xj K rfl) (XZ (Xd (Xs Yb (Xy (Xj K rfl) (pv 3) Xh (λ_ _=>rfl)) (Xn (Xi K rfl) rfl Z.b_len PySem.boot_len (Xd (pv 7) Xf))) (Xd (U7 Jx Xh) (Xd (Xn (Xi K rfl) rfl Z.b_len PySem.boot_len (Xd (pv 7) Xf)) (Xd (Xs X0 (Xy (Xj K rfl) (pv 8) (pv 9) (λ_ _=>rfl)) Xh) Xf))))) (Xy (Xj K rfl) (pv 3) Xh (λ_ _=>rfl)) (λ_ _=>rfl)) (FH (pv 8) (pv 9) Vq))
   Xg))
   Xg)
  (Xc (Yj (Xu ZG (Xy (Xj K rfl) (pv 3) Xh (λ_ _=>rfl)) Xh (XD _))
   (Xc (Xq (i:=8) ZE.nd rfl (Or.inl rfl) (Xs Ul (pv 8) (XZ (Xd Xh Xf))))
   Xg)
   Xg)
  (Xc (Yj (Xu ZG (Xy (Xj K rfl) (pv 3) Xh (λ_ _=>rfl)) Xh (XD _))
   (Xc (Xq (i:=8) ZE.nd rfl (Or.inl rfl) (JG (Js K rfl) (pv 8) (VP Xh) VS))
   Xg)
   Xg)
  (Xc (JT 10 (Xk Uf) ["_law_script","_law_drawing","_law_limit_here","_law_some","_law_first","_law_second","_law_one","_law_other","_law_images","_law_at","_law_lines","_law_others","_law_numbers","_law_found","_law_due_here"] ["_law_line"] [] rfl ZE.nd rfl rfl (XO (K:=K) rfl (pv 6)) (YI (by decide)) (λcl C s H ex E=>⟨Xo (i:=0) (show List.Nodup (["_law_line"]:List Str) by decide+kernel) rfl (Or.inl rfl),Y0,(YO (X6 K rfl) rfl Z.b_list PyProof.Rows.boot_list (Xd (pv 0) Xf))⟩))
  (Xc (JT 11 (Xk Uf) ["_law_script","_law_drawing","_law_limit_here","_law_some","_law_first","_law_second","_law_one","_law_other","_law_images","_law_at","_law_lines","_law_others","_law_numbers","_law_found","_law_due_here"] ["_law_line"] [] rfl ZE.nd rfl rfl (XO (K:=K) rfl (pv 7)) (YI (by decide)) (λcl C s H ex E=>⟨Xo (i:=0) (show List.Nodup (["_law_line"]:List Str) by decide+kernel) rfl (Or.inl rfl),Y0,(YO (X6 K rfl) rfl Z.b_list PyProof.Rows.boot_list (Xd (pv 0) Xf))⟩))
  (Xc (Xq (i:=12) ZE.nd rfl (Or.inl rfl) (YO (X6 K rfl) rfl Z.b_list PyProof.Rows.boot_list (Xd (pv 8) Xf)))
  (Xc (Xq (i:=13) ZE.nd rfl (Or.inl rfl) (X5 g_keeping hr (by decide) (Xd (pv 10) (Xd (pv 11) (Xd (pv 12) Xf)))))
  (Xc (Xq (i:=14) ZE.nd rfl (Or.inl rfl) (X5 g_due hr (by decide) (Xd (pv 6) (Xd (pv 7) (Xd (pv 8) Xf)))))
  (Xc (Yj (PW.pt (GA (Jr (QD (Xn ZO rfl Z.b_isinstance PyProof.Rows.boot_isinstance (Xd (pv 13) (Xd (VW (v:=V.ty "bool") rfl Z.b_bool PyProof.Rows.boot_bool rfl) Xf))))) (Ux (Xu G7 (pv 13) (pv 14) (XD _)))))
   (Xc (Xz Qu)
   Xg)
   Xg)
  (Xc (Yj (PW.pt (GA (Xu (Ce (LG (LG eq_int)) (Ii (by decide) hu)) (pv 10) (pv 6) (XD _)) (GA (Xu (Ce (LG (LG eq_int)) (Ii (by decide) hu)) (pv 11) (pv 7) (XD _)) (Ux (Xu (Ce (LG eq_int) (Ii (by decide) hu)) (pv 12) (pv 8) (XD _))))))
   (Xc (Xz Qu)
   Xg)
   Xg)
  (Xc (Xz (M2 (Hd (pv 14)) (DZ (X5 g_carried_all hr (by decide) (Xd (pv 1) (Xd (pv 6) (Xd (pv 7) (Xd (pv 8) Xf))))))))
  Xg))))))))))))))))),?_⟩
 refine Yw (S:=(SC.add SC.nil K (rL Xa) v_0 a_0)) (σ:=[some v_0,none,none,none,none,none,none,none,none,none,none,none,none,none,none]) 1 ?_ (SC.i SC.t h_0) hm q rfl
 unfold GJ
 exact(Xx (K:=K) (r:=(rP2 (rV (rV Xa)) (rV (rP2 Xa Xa)))) 1 (Ev.sh (YW (Xb (r:=(rL Xa)) 0 rfl (λ_ s=>s.r)) (Xe 0) (Xe 5))) λa1 v2=>(Xx (K:=K) (r:=Xa) 2 (EvB.sh (Ct (Xe 4) (Ev.toB (X4 (Xb (r:=(rP2 (rV (rV Xa)) (rV (rP2 Xa Xa)))) 1 rfl (λ_ s=>s.r)) (Xe 81))))) λa7 v8=>(Xx (K:=K) (r:=(rV Xa)) 3 (Ev.sh (YW (Xb (r:=(rL Xa)) 0 rfl (λ_ s=>s.l.l.r)) (Xe 3) (Ev.toB (V0 (Ev.ls (Ze (Xt (EvB.sh (Xe 6)) (Xt (EvB.sh (Xe 4)) (Xt (EvB.sh (Xe 4)) (Xt (EvB.sh (Xe 8)) (Xt (EvB.sh (Xe 16)) Yt))))))) (Ev.ls (J5 (Ev.ls (Ze (Xt (EvB.sh (Xe 24)) Yt))) (Xe 16))))))) λa14 v15=>(Xx (K:=K) (r:=(rV (rV Xa))) 4 (Ev.sh (YW (Xb (r:=(rL Xa)) 0 rfl (λ_ s=>s.l.l.l.r)) (Xe 1) (Xb (r:=Xa) 2 rfl (λ_ s=>s.l.r)))) λa38 v39=>(Xx (K:=K) (r:=(rV (rV Xa))) 5 (Ev.sh (YW (Xb (r:=(rL Xa)) 0 rfl (λ_ s=>s.l.l.l.l.r)) (Xe 2) (Xb (r:=Xa) 2 rfl (λ_ s=>s.l.l.r)))) λa44 v45=>(EC (K:=K) (r1:=(rV (rV Xa))) (r2:=(rV (rV Xa))) (o3:=(oL (oF Xa))) 6 7 8 0 (CG (Xl (r:=(rV (rV Xa))) 4 rfl (λ_ s=>s.l.r)) (Xl (r:=(rV (rV Xa))) 5 rfl (λ_ s=>s.r)) (Xl (r:=(rV Xa)) 3 rfl (λ_ s=>s.l.l.r))) (Nat.le_of_ble_eq_true rfl) λa54 v56 v57 v58 C55=>(Zd (J:=({oo:=λx64=>[x64.2.2],ss:=λx64=>[some v_0,some v2,some v8,some v15,some v39,some v45,some v56,some v57,some x64.2.1,x64.1,none,none,none,none,none],sc:=λg65 x64=>(SC.addO (SC.add (SC.add (SC.add (SC.add (SC.add (SC.add (SC.add (SC.add SC.nil K (rL Xa) v_0 a_0) K (rP2 (rV (rV Xa)) (rV (rP2 Xa Xa))) v2 a1) K Xa v8 a7) K (rV Xa) v15 a14) K (rV (rV Xa)) v39 a38) K (rV (rV Xa)) v45 a44) K (rV (rV Xa)) v56 a54.1) K (rV (rV Xa)) v57 a54.2.1) K (oL (oF Xa)) x64.2.1 g65 x64.2.2)}:Jn ((List Int)) (Option V×V×List XF))) (ZH (Fd:=FNd ({oo:=λx64=>[x64.2.2],ss:=λx64=>[some v_0,some v2,some v8,some v15,some v39,some v45,some v56,some v57,some x64.2.1,x64.1,none,none,none,none,none],sc:=λg65 x64=>(SC.addO (SC.add (SC.add (SC.add (SC.add (SC.add (SC.add (SC.add (SC.add SC.nil K (rL Xa) v_0 a_0) K (rP2 (rV (rV Xa)) (rV (rP2 Xa Xa))) v2 a1) K Xa v8 a7) K (rV Xa) v15 a14) K (rV (rV Xa)) v39 a38) K (rV (rV Xa)) v45 a44) K (rV (rV Xa)) v56 a54.1) K (rV (rV Xa)) v57 a54.2.1) K (oL (oF Xa)) x64.2.1 g65 x64.2.2)}:Jn ((List Int)) (Option V×V×List XF))) (Xp (K:=K) (YL (Xr (Xb (r:=(rV Xa)) 3 rfl (λ_ s=>s.l.l.l.l.l.r)) (Xe 2)) (Xe 0))) (Xx (K:=K) (r:=Xa) 9 (EvB.sh (XU (Xr (Xb (r:=(rV Xa)) 3 rfl (λ_ s=>s.l.l.l.l.l.r)) (Xe 4)) (XA (YC (o:=(oL (oF Xa))) 8 0 rfl rfl (λ_ s=>s.r))))) λa66 v67=>(Kc (K:=K) (o:=(oF Xa)) 8 0 rfl rfl (λ_ s=>s.l.r) (EvS.ev (EvB.sh (Xr (Ev.toB (Ze (Xt (EvB.sh (XU (Xr (Xb (r:=(rV Xa)) 3 rfl (λ_ s=>s.l.l.l.l.l.l.r)) (Xe 1)) (XA (Xb (r:=(rV (rV Xa))) 7 rfl (λ_ s=>s.l.l.r))))) (Xt (EvB.sh (Qq (Xe 1))) (Xt (EvB.sh (XA (Xb (r:=(rV (rV Xa))) 7 rfl (λ_ s=>s.l.l.r)))) (Xt (EvB.sh (XL (Xr (YC (o:=(oL (oF Xa))) 8 0 rfl rfl (λ_ s=>s.l.r)) (Xb (r:=Xa) 9 rfl (λ_ s=>s.r))) (Xe 1))) Yt)))))) (Xr (Xb (r:=(rV Xa)) 3 rfl (λ_ s=>s.l.l.l.l.l.l.r)) (Xe 1))))) (λ_=>(Xb (r:=Xa) 9 rfl (λ_ s=>s.r))) λa99 C100=>(Xw (J:=_) ((some v67),v58,C100) (a99) rfl rfl (λ_ s=>(SC.i (SC.i (SC.i (SC.i (SC.i (SC.i (SC.i (SC.i (SC.i SC.t s.l.l.l.l.l.l.l.l.l.l.r) s.l.l.l.l.l.l.l.l.l.r) s.l.l.l.l.l.l.l.l.r) s.l.l.l.l.l.l.l.r) s.l.l.l.l.l.l.r) s.l.l.l.l.l.r) s.l.l.l.l.r) s.l.l.l.r) s.r))))) (Xw (J:=_) ((none),v58,C55) (a54.2.2) rfl rfl (λ_ s=>(SC.i (SC.i (SC.i (SC.i (SC.i (SC.i (SC.i (SC.i (SC.i SC.t s.l.l.l.l.l.l.l.l.r) s.l.l.l.l.l.l.l.r) s.l.l.l.l.l.l.r) s.l.l.l.l.l.r) s.l.l.l.l.r) s.l.l.l.r) s.l.l.r) s.l.r) s.r)))) λg102 x101=>(Zd (J:=({oo:=λx108=>[x108.2],ss:=λx108=>[some v_0,some v2,some v8,some v15,some v39,some v45,some v56,some v57,some x108.1,x101.1,none,none,none,none,none],sc:=λg109 x108=>(SC.addO (SC.add (SC.add (SC.add (SC.add (SC.add (SC.add (SC.add (SC.add SC.nil K (rL Xa) v_0 a_0) K (rP2 (rV (rV Xa)) (rV (rP2 Xa Xa))) v2 a1) K Xa v8 a7) K (rV Xa) v15 a14) K (rV (rV Xa)) v39 a38) K (rV (rV Xa)) v45 a44) K (rV (rV Xa)) v56 a54.1) K (rV (rV Xa)) v57 a54.2.1) K (oL (oF Xa)) x108.1 g109 x108.2)}:Jn ((List Int)) (V×List XF))) (ZH (Fd:=FNd ({oo:=λx108=>[x108.2],ss:=λx108=>[some v_0,some v2,some v8,some v15,some v39,some v45,some v56,some v57,some x108.1,x101.1,none,none,none,none,none],sc:=λg109 x108=>(SC.addO (SC.add (SC.add (SC.add (SC.add (SC.add (SC.add (SC.add (SC.add SC.nil K (rL Xa) v_0 a_0) K (rP2 (rV (rV Xa)) (rV (rP2 Xa Xa))) v2 a1) K Xa v8 a7) K (rV Xa) v15 a14) K (rV (rV Xa)) v39 a38) K (rV (rV Xa)) v45 a44) K (rV (rV Xa)) v56 a54.1) K (rV (rV Xa)) v57 a54.2.1) K (oL (oF Xa)) x108.1 g109 x108.2)}:Jn ((List Int)) (V×List XF))) (Xp (K:=K) (YL (Xr (Xb (r:=(rV Xa)) 3 rfl (λ_ s=>s.l.l.l.l.l.r)) (Xe 3)) (Xe 0))) (XS (K:=K) (o:=(oL (oF Xa))) 8 0 (V0 (Gx (r:=Xa) 8 0 rfl rfl (λ_ s=>s.r)) (Ev.ls (Ze (Xt (EvB.sh (Xe 0)) Yt)))) (Nat.le_of_ble_eq_true rfl) λa110 v111 C112=>(Xw (J:=_) (v111,C112) (a110) rfl rfl (λ_ s=>(SC.i (SC.i (SC.i (SC.i (SC.i (SC.i (SC.i (SC.i (SC.i SC.t s.l.l.l.l.l.l.l.l.l.r) s.l.l.l.l.l.l.l.l.r) s.l.l.l.l.l.l.l.r) s.l.l.l.l.l.l.r) s.l.l.l.l.l.r) s.l.l.l.l.r) s.l.l.l.r) s.l.l.r) s.r)))) (Xw (J:=_) (x101.2.1,x101.2.2) (g102) rfl rfl (λ_ s=>(SC.i (SC.i (SC.i (SC.i (SC.i (SC.i (SC.i (SC.i (SC.i SC.t s.l.l.l.l.l.l.l.l.r) s.l.l.l.l.l.l.l.r) s.l.l.l.l.l.l.r) s.l.l.l.l.l.r) s.l.l.l.l.r) s.l.l.l.r) s.l.l.r) s.l.r) s.r)))) λg119 x118=>(Zd (J:=({oo:=λx125=>[x125.2],ss:=λx125=>[some v_0,some v2,some v8,some v15,some v39,some v45,some v56,some v57,some x125.1,x101.1,none,none,none,none,none],sc:=λg126 x125=>(SC.addO (SC.add (SC.add (SC.add (SC.add (SC.add (SC.add (SC.add (SC.add SC.nil K (rL Xa) v_0 a_0) K (rP2 (rV (rV Xa)) (rV (rP2 Xa Xa))) v2 a1) K Xa v8 a7) K (rV Xa) v15 a14) K (rV (rV Xa)) v39 a38) K (rV (rV Xa)) v45 a44) K (rV (rV Xa)) v56 a54.1) K (rV (rV Xa)) v57 a54.2.1) K (oL (oF Xa)) x125.1 g126 x125.2)}:Jn ((List Int)) (V×List XF))) (ZH (Fd:=FNd ({oo:=λx125=>[x125.2],ss:=λx125=>[some v_0,some v2,some v8,some v15,some v39,some v45,some v56,some v57,some x125.1,x101.1,none,none,none,none,none],sc:=λg126 x125=>(SC.addO (SC.add (SC.add (SC.add (SC.add (SC.add (SC.add (SC.add (SC.add SC.nil K (rL Xa) v_0 a_0) K (rP2 (rV (rV Xa)) (rV (rP2 Xa Xa))) v2 a1) K Xa v8 a7) K (rV Xa) v15 a14) K (rV (rV Xa)) v39 a38) K (rV (rV Xa)) v45 a44) K (rV (rV Xa)) v56 a54.1) K (rV (rV Xa)) v57 a54.2.1) K (oL (oF Xa)) x125.1 g126 x125.2)}:Jn ((List Int)) (V×List XF))) (Xp (K:=K) (YL (Xr (Xb (r:=(rV Xa)) 3 rfl (λ_ s=>s.l.l.l.l.l.r)) (Xe 3)) (Xe 1))) (XS (K:=K) (o:=(oL (oF Xa))) 8 0 (Vv (Gx (r:=Xa) 8 0 rfl rfl (λ_ s=>s.r)) (JD (K:=K) (Xe 1)) Jw) (Nat.le_of_ble_eq_true rfl) λa127 v128 C129=>(Xw (J:=_) (v128,C129) (a127) rfl rfl (λ_ s=>(SC.i (SC.i (SC.i (SC.i (SC.i (SC.i (SC.i (SC.i (SC.i SC.t s.l.l.l.l.l.l.l.l.l.r) s.l.l.l.l.l.l.l.l.r) s.l.l.l.l.l.l.l.r) s.l.l.l.l.l.l.r) s.l.l.l.l.l.r) s.l.l.l.l.r) s.l.l.l.r) s.l.l.r) s.r)))) (Xw (J:=_) (x118.1,x118.2) (g119) rfl rfl (λ_ s=>(SC.i (SC.i (SC.i (SC.i (SC.i (SC.i (SC.i (SC.i (SC.i SC.t s.l.l.l.l.l.l.l.l.r) s.l.l.l.l.l.l.l.r) s.l.l.l.l.l.l.r) s.l.l.l.l.l.r) s.l.l.l.l.r) s.l.l.l.r) s.l.l.r) s.l.r) s.r)))) λg135 x134=>(Xx (K:=K) (r:=(rV (rV Xa))) 10 (Ev.sh (Y3 (λ_=>tg1 0) (XI (Xl (r:=(rV (rV Xa))) 6 rfl (λ_ s=>s.l.l.r))) (λC138 a139 v140=>(Z7 (EvS.ls (Xl (r:=(rV Xa)) 0 rfl (λ_ s=>s.r))))))) λa136 v137=>(Xx (K:=K) (r:=(rV (rV Xa))) 11 (Ev.sh (Y3 (λ_=>tg1 0) (XI (Xl (r:=(rV (rV Xa))) 7 rfl (λ_ s=>s.l.l.r))) (λC145 a146 v147=>(Z7 (EvS.ls (Xl (r:=(rV Xa)) 0 rfl (λ_ s=>s.r))))))) λa143 v144=>(Xx (K:=K) (r:=(rV Xa)) 12 (Ev.sh (Z7 (Gx (r:=Xa) 8 0 rfl rfl (λ_ s=>s.l.l.r)))) λa150 v151=>(Xx (K:=K) (r:=XQ) 13 (EvB.sh (Ev.toB (YW (Xb (r:=(rV (rV Xa))) 10 rfl (λ_ s=>s.l.l.r)) (Xb (r:=(rV (rV Xa))) 11 rfl (λ_ s=>s.l.r)) (Xb (r:=(rV Xa)) 12 rfl (λ_ s=>s.r))))) λa153 v154=>(Xx (K:=K) (r:=XQ) 14 (EvB.sh (Ev.toB (YW (Xb (r:=(rV (rV Xa))) 6 rfl (λ_ s=>s.l.l.l.l.l.l.r)) (Xb (r:=(rV (rV Xa))) 7 rfl (λ_ s=>s.l.l.l.l.l.r)) (YC (o:=(oL (oF Xa))) 8 0 rfl rfl (λ_ s=>s.l.l.l.l.r))))) λa159 v160=>(ZM (VE (Qy (JX (K:=K) (Qe "bool" true (Vw K "bool") (Xb (r:=XQ) 13 rfl (λ_ s=>s.l.r))))) (Xp (K:=K) (VC (Xb (r:=XQ) 13 rfl (λ_ s=>s.l.r)) (Xb (r:=XQ) 14 rfl (λ_ s=>s.r))))) (XC (EvS.ev (EvB.sh (Zn false)))) (ZM (VE (Xp (K:=K) (GV (Xb (r:=(rV (rV Xa))) 10 rfl (λ_ s=>s.l.l.l.l.r)) (Xb (r:=(rV (rV Xa))) 6 rfl (λ_ s=>s.l.l.l.l.l.l.l.r)))) (VE (Xp (K:=K) (GV (Xb (r:=(rV (rV Xa))) 11 rfl (λ_ s=>s.l.l.l.r)) (Xb (r:=(rV (rV Xa))) 7 rfl (λ_ s=>s.l.l.l.l.l.l.r)))) (Xp (K:=K) (GV (Xb (r:=(rV Xa)) 12 rfl (λ_ s=>s.l.l.r)) (YC (o:=(oL (oF Xa))) 8 0 rfl rfl (λ_ s=>s.l.l.l.l.l.r)))))) (XC (EvS.ev (EvB.sh (Zn false)))) (XC (EvS.ev (EvB.sh (I0 (F2 (Xb (r:=XQ) 14 rfl (λ_ s=>s.r))) (Ev.toB (FZ (Xb (r:=(rP2 (rV (rV Xa)) (rV (rP2 Xa Xa)))) 1 rfl (λ_ s=>s.l.l.l.l.l.l.l.l.l.l.l.l.r)) (Xb (r:=(rV (rV Xa))) 6 rfl (λ_ s=>s.l.l.l.l.l.l.l.r)) (Xb (r:=(rV (rV Xa))) 7 rfl (λ_ s=>s.l.l.l.l.l.l.r)) (YC (o:=(oL (oF Xa))) 8 0 rfl rfl (λ_ s=>s.l.l.l.l.l.r))))))))))))))))))))))))
end
theorem BP {K:PySem.W.Frag}{mg:Str->Option Value}{h:Heap}(X:K.In h)(G:h.Ns mainGlobals mg){x p0:Str}{st:Stmt}{f:Addr}{oc:Value}{od an:Option Addr}{osl:Array (Option Value)}{kV doc pm cdv ct:Value}(hb:∀(kV doc pm:Value) (an:Option Addr) (cdv ct u0:Value),bindArgs (PySem.W.fnOf x x (Zb st) (YT st) (Xk st) .none kV doc pm an cdv ct) ⟨[u0],[]⟩=pure ([p0].zip [u0]))(a:PySem.W.nsIn K mainGlobals x=some (some (.ref f)))(l:K.lookup f=some ⟨oc,od, .func (PySem.W.fnOf x x (Zb st) (YT st) (Xk st) .none kV doc pm an cdv ct),osl⟩)(c:PySem.W.codeIn K cdv x=true)(k:PySem.W.keepIn K (.ref f)=true):Def K mg x st [p0]:=⟨f,_,QJ l c k,(QJ l c k).binds λ_ _ _ _ _ _ us hl=>(by obtain⟨_,rfl⟩:=Ly hl;exact hb ..),PySem.W.mg_of X G a⟩
theorem Gm {K:PySem.W.Frag}{mg:Str->Option Value}{h:Heap}(X:K.In h)(G:h.Ns mainGlobals mg){x p0 p1:Str}{st:Stmt}{f:Addr}{oc:Value}{od an:Option Addr}{osl:Array (Option Value)}{kV doc pm cdv ct:Value}(hb:∀(kV doc pm:Value) (an:Option Addr) (cdv ct u0 u1:Value),bindArgs (PySem.W.fnOf x x (Zb st) (YT st) (Xk st) .none kV doc pm an cdv ct) ⟨[u0,u1],[]⟩=pure ([p0,p1].zip [u0,u1]))(a:PySem.W.nsIn K mainGlobals x=some (some (.ref f)))(l:K.lookup f=some ⟨oc,od, .func (PySem.W.fnOf x x (Zb st) (YT st) (Xk st) .none kV doc pm an cdv ct),osl⟩)(c:PySem.W.codeIn K cdv x=true)(k:PySem.W.keepIn K (.ref f)=true):Def K mg x st [p0,p1]:=⟨f,_,QJ l c k,(QJ l c k).binds λ_ _ _ _ _ _ us hl=>(by obtain⟨_,_,rfl⟩:=Ma hl;exact hb ..),PySem.W.mg_of X G a⟩
theorem DN {K:PySem.W.Frag}{mg:Str->Option Value}{h:Heap}(X:K.In h)(G:h.Ns mainGlobals mg){x p0 p1 p2:Str}{st:Stmt}{f:Addr}{oc:Value}{od an:Option Addr}{osl:Array (Option Value)}{kV doc pm cdv ct:Value}(hb:∀(kV doc pm:Value) (an:Option Addr) (cdv ct u0 u1 u2:Value),bindArgs (PySem.W.fnOf x x (Zb st) (YT st) (Xk st) .none kV doc pm an cdv ct) ⟨[u0,u1,u2],[]⟩=pure ([p0,p1,p2].zip [u0,u1,u2]))(a:PySem.W.nsIn K mainGlobals x=some (some (.ref f)))(l:K.lookup f=some ⟨oc,od, .func (PySem.W.fnOf x x (Zb st) (YT st) (Xk st) .none kV doc pm an cdv ct),osl⟩)(c:PySem.W.codeIn K cdv x=true)(k:PySem.W.keepIn K (.ref f)=true):Def K mg x st [p0,p1,p2]:=⟨f,_,QJ l c k,(QJ l c k).binds λ_ _ _ _ _ _ us hl=>(by obtain⟨_,_,_,rfl⟩:=Mc hl;exact hb ..),PySem.W.mg_of X G a⟩
theorem Nu {K:PySem.W.Frag}{mg:Str->Option Value}{h:Heap}(X:K.In h)(G:h.Ns mainGlobals mg){x p0 p1 p2 p3:Str}{st:Stmt}{f:Addr}{oc:Value}{od an:Option Addr}{osl:Array (Option Value)}{kV doc pm cdv ct:Value}(hb:∀(kV doc pm:Value) (an:Option Addr) (cdv ct u0 u1 u2 u3:Value),bindArgs (PySem.W.fnOf x x (Zb st) (YT st) (Xk st) .none kV doc pm an cdv ct) ⟨[u0,u1,u2,u3],[]⟩=pure ([p0,p1,p2,p3].zip [u0,u1,u2,u3]))(a:PySem.W.nsIn K mainGlobals x=some (some (.ref f)))(l:K.lookup f=some ⟨oc,od, .func (PySem.W.fnOf x x (Zb st) (YT st) (Xk st) .none kV doc pm an cdv ct),osl⟩)(c:PySem.W.codeIn K cdv x=true)(k:PySem.W.keepIn K (.ref f)=true):Def K mg x st [p0,p1,p2,p3]:=⟨f,_,QJ l c k,(QJ l c k).binds λ_ _ _ _ _ _ us hl=>(by obtain⟨_,_,_,_,rfl⟩:=LU hl;exact hb ..),PySem.W.mg_of X G a⟩
theorem Nv {K:PySem.W.Frag}{mg:Str->Option Value}{h:Heap}(X:K.In h)(G:h.Ns mainGlobals mg){x p0 p1 p2 p3 p4:Str}{st:Stmt}{f:Addr}{oc:Value}{od an:Option Addr}{osl:Array (Option Value)}{kV doc pm cdv ct:Value}(hb:∀(kV doc pm:Value) (an:Option Addr) (cdv ct u0 u1 u2 u3 u4:Value),bindArgs (PySem.W.fnOf x x (Zb st) (YT st) (Xk st) .none kV doc pm an cdv ct) ⟨[u0,u1,u2,u3,u4],[]⟩=pure ([p0,p1,p2,p3,p4].zip [u0,u1,u2,u3,u4]))(a:PySem.W.nsIn K mainGlobals x=some (some (.ref f)))(l:K.lookup f=some ⟨oc,od, .func (PySem.W.fnOf x x (Zb st) (YT st) (Xk st) .none kV doc pm an cdv ct),osl⟩)(c:PySem.W.codeIn K cdv x=true)(k:PySem.W.keepIn K (.ref f)=true):Def K mg x st [p0,p1,p2,p3,p4]:=⟨f,_,QJ l c k,(QJ l c k).binds λ_ _ _ _ _ _ us hl=>(by obtain⟨_,_,_,_,_,rfl⟩:=MV hl;exact hb ..),PySem.W.mg_of X G a⟩
theorem L1 {l:PySem.W.OpenLaw}{w:World}{K:PySem.W.Frag}{h:Heap}{mg:Str->Option Value}{fa f:Addr}{tk0:Tok}(X:K.In h)(G:h.Ns mainGlobals mg)(hfa:mg "law" =some (.ref fa)){od an:Option Addr}{sl:Array (Option Value)}{oc kV dc pm cd ct:Value}
  (D1:Def K mg "spot" Bw ["drawing","passage"])
  (D2:Def K mg "arcs" BW ["drawing"])
  (D3:Def K mg "arc_count" Qn ["drawing"])
  (D4:Def K mg "arcs_of_walk" ZA ["walk"])
  (D5:Def K mg "arcs_of_ways" Z5 ["walk","first"])
  (D6:Def K mg "meets" Gv ["drawing"])
  (D7:Def K mg "all_colours" ZI ["numbers","size"])
  (D8:Def K mg "ties" DT ["drawing"])
  (D9:Def K mg "all_held" QW ["table","colours","asked"])
  (D10:Def K mg "colourings" ZY ["drawing","table"])
  (D11:Def K mg "refuse_too_much" Zv ["size","count"])
  (D12:Def K mg "longer_by_arc" ZN ["lists","table","asked"])
  (D13:Def K mg "first_breach" Z8 ["one","other","images"])
  (D14:Def K mg "equation_broken" Zu ["one","other","images","a","b"])
  (D15:Def K mg "keeping" VA ["one","other","images"])
  (D16:Def K mg "_law_cell" Ci ["_law_script","_law_place"])
  (D17:Def K mg "_law_mix" Im ["_law_cell_here","_law_k"])
  (D18:Def K mg "_law_row" HR ["_law_script","_law_place","_law_sizes"])
  (D19:Def K mg "_law_mixed" GC ["_law_names","_law_some"])
  (D20:Def K mg "_law_any" Es ["_law_names","_law_some","_law_rings"])
  (D21:Def K mg "_law_plaited" VO ["_law_names","_law_signs","_law_some","_law_strands"])
  (D22:Def K mg "_law_drawn" UW ["_law_script","_law_place","_law_most"])
  (D23:Def K mg "_law_copy" FK ["_law_drawing"])
  (D24:Def K mg "_law_is_whole" JS ["_law_one"])
  (D25:Def K mg "_law_is_wholes" Jg ["_law_found"])
  (D26:Def K mg "_law_cell_of" Ua ["_law_way","_law_size","_law_factor","_law_a","_law_b"])
  (D27:Def K mg "_law_common" U1 ["_law_one","_law_other"])
  (D28:Def K mg "_law_made" FQ ["_law_way","_law_size","_law_factor"])
  (D29:Def K mg "_law_ordered" V3 ["_law_some","_law_count_here"])
  (D30:Def K mg "_law_relaid" Vn ["_law_some","_law_spots"])
  (D31:Def K mg "_law_good_table" QK ["_law_script","_law_place","_law_most"])
  (D32:Def K mg "_law_arcs" UY ["_law_walks"])
  (D33:Def K mg "_law_spot" UZ ["_law_walks","_law_passage"])
  (D34:Def K mg "_law_meets" V9 ["_law_drawing"])
  (D35:Def K mg "_law_count" Kj ["_law_drawing"])
  (D36:Def K mg "_law_keeps" G3 ["_law_meetings","_law_table","_law_colours"])
  (D37:Def K mg "_law_power" Go ["_law_size","_law_count_here"])
  (D38:Def K mg "_law_limit" GF ["_law_drawing","_law_most"])
  (D39:Def K mg "_law_pairs_table" Qz ["_law_one","_law_other"])
  (D40:Def K mg "_law_side_table" Z3 ["_law_one","_law_other"])
  (D41:Def K mg "_law_tables" QX ["_law_one","_law_other","_law_some"])
  (D42:Def K mg "_law_due" Hz ["_law_one","_law_other","_law_images"])
  (D43:Def K mg "_law_carried_all" Y8 ["_law_drawing","_law_one","_law_other","_law_images"])
  (a:PySem.W.nsIn K mainGlobals "law" =some (some (.ref f)))(l0:K.lookup f=some ⟨oc,od, .func (PySem.W.fnOf "law" "law" (Zb Uf) (YT Uf) (Xk Uf) .none kV dc pm an cd ct),sl⟩)(c:PySem.W.codeIn K cd "law" =true)(k:PySem.W.keepIn K (.ref f)=true)
  (z1:PySem.W.nsIn K mainGlobals "abs" =some none)
  (z2:PySem.W.nsIn K mainGlobals "all" =some none)
  (z3:PySem.W.nsIn K mainGlobals "bool" =some none)
  (z4:PySem.W.nsIn K mainGlobals "enumerate" =some none)
  (z5:PySem.W.nsIn K mainGlobals "int" =some none)
  (z6:PySem.W.nsIn K mainGlobals "isinstance" =some none)
  (z7:PySem.W.nsIn K mainGlobals "len" =some none)
  (z8:PySem.W.nsIn K mainGlobals "list" =some none)
  (z9:PySem.W.nsIn K mainGlobals "max" =some none)
  (z10:PySem.W.nsIn K mainGlobals "min" =some none)
  (z11:PySem.W.nsIn K mainGlobals "range" =some none)
  (z12:PySem.W.nsIn K mainGlobals "sum" =some none)
  (z13:PySem.W.nsIn K mainGlobals "tuple" =some none)
  (w0:PySem.W.nsIn K mainGlobals "MOST_LISTS" =some (some (.int 65536 tk0)))
  :∃fd:FuncData,(∀(s:Shared) (v:Value),BindsTo s fd ⟨[v],[]⟩ [("_law_script",v)])/\∀base:Heap,K.In base->base.Ns mainGlobals mg->FnOk l.prog w K mg base CX0 8 fa fd ["_law_script"] (sp1 (rL Xa) (oF XQ) GJ K):=by
 have e:=hfa.symm.trans (PySem.W.mg_of X G a)
 cases e
 have N:∀{x:Str},PySem.W.nsIn K mainGlobals x=some none->mg x=none:=λz=>PySem.W.mg_none_of X G z
 have Z:Blt mg:=⟨N z1,N z2,N z3,N z4,N z5,N z6,N z7,N z8,N z9,N z10,N z11,N z12,N z13,⟨_,PySem.W.mg_of X G w0,_,rfl⟩⟩
 refine⟨PySem.W.fnOf "law" "law" (Zb Uf) (YT Uf) (Xk Uf) .none kV dc pm an cd ct,λs v=>.of_eq rfl,λbase _ _=>?_⟩
 have g_cell:=H9 (P:=l.prog) (w:=w) (base:=base) D16 Z
 have g_mix:=Mf (P:=l.prog) (w:=w) (base:=base) D17 Z
 have g_row:=Mj (P:=l.prog) (w:=w) (base:=base) D18 g_cell g_mix Z
 have g_plaited:=DL (P:=l.prog) (w:=w) (base:=base) D21 Z
 have g_any:=Mu (P:=l.prog) (w:=w) (base:=base) D20 Z
 have g_mixed:=EH (P:=l.prog) (w:=w) (base:=base) D19 Z
 have g_drawn:=Ep (P:=l.prog) (w:=w) (base:=base) D22 g_row g_plaited g_any g_mixed Z
 have g_common:=Bt (P:=l.prog) (w:=w) (base:=base) D27 Z
 have g_cell_of:=Dn (P:=l.prog) (w:=w) (base:=base) D26 Z
 have g_made:=Iv (P:=l.prog) (w:=w) (base:=base) D28 g_common g_cell_of Z
 have g_relaid:=CQ (P:=l.prog) (w:=w) (base:=base) D30 Z
 have g_ordered:=DJ (P:=l.prog) (w:=w) (base:=base) D29 Z
 have g_good_table:=U2 (P:=l.prog) (w:=w) (base:=base) D31 g_row g_made g_relaid g_ordered Z
 have g_pairs_table:=Uu (P:=l.prog) (w:=w) (base:=base) D39 Z
 have g_side_table:=Ko (P:=l.prog) (w:=w) (base:=base) D40 Z
 have g_tables:=CU (P:=l.prog) (w:=w) (base:=base) D41 g_ordered g_pairs_table g_relaid g_side_table Z
 have g_equation_broken:=JB (P:=l.prog) (w:=w) (base:=base) D14 Z
 have g_first_breach:=VX (P:=l.prog) (w:=w) (base:=base) D13 g_equation_broken Z
 have g_all_colours:=Uo (P:=l.prog) (w:=w) (base:=base) D7 Z
 have g_keeping:=De (P:=l.prog) (w:=w) (base:=base) D15 g_first_breach g_all_colours Z
 have g_due:=Ms (P:=l.prog) (w:=w) (base:=base) D42 Z
 have g_count:=EO (P:=l.prog) (w:=w) (base:=base) D35 Z
 have g_power:=EU (P:=l.prog) (w:=w) (base:=base) D37 Z
 have g_limit:=EJ (P:=l.prog) (w:=w) (base:=base) D38 g_count g_power Z
 have g_l_arcs:=Co (P:=l.prog) (w:=w) (base:=base) D32 Z
 have g_l_spot:=BY (P:=l.prog) (w:=w) (base:=base) D33 Z
 have g_l_meets:=DF (P:=l.prog) (w:=w) (base:=base) D34 g_l_arcs g_l_spot Z
 have g_arcs_of_walk:=Uc (P:=l.prog) (w:=w) (base:=base) D4 Z
 have g_arc_count:=Kx (P:=l.prog) (w:=w) (base:=base) D3 g_arcs_of_walk Z
 have g_refuse_too_much:=JI (P:=l.prog) (w:=w) (base:=base) D11 Z
 have g_arcs_of_ways:=VL (P:=l.prog) (w:=w) (base:=base) D5 g_arcs_of_walk Z
 have g_arcs:=Ig (P:=l.prog) (w:=w) (base:=base) D2 g_arcs_of_walk g_arcs_of_ways Z
 have g_spot:=Hy (P:=l.prog) (w:=w) (base:=base) D1 Z
 have g_meets:=EE (P:=l.prog) (w:=w) (base:=base) D6 g_arcs g_spot Z
 have g_ties:=IW (P:=l.prog) (w:=w) (base:=base) D8 g_meets Z
 have g_all_held:=Gn (P:=l.prog) (w:=w) (base:=base) D9 Z
 have g_longer_by_arc:=Vh (P:=l.prog) (w:=w) (base:=base) D12 g_all_held Z
 have g_colourings:=U9 (P:=l.prog) (w:=w) (base:=base) D10 g_arc_count g_refuse_too_much g_ties g_longer_by_arc Z
 have g_copy:=IZ (P:=l.prog) (w:=w) (base:=base) D23 Z
 have g_is_whole:=GB (P:=l.prog) (w:=w) (base:=base) D24 Z
 have g_is_wholes:=KL (P:=l.prog) (w:=w) (base:=base) D25 g_is_whole Z
 have g_keeps:=E5 (P:=l.prog) (w:=w) (base:=base) D36 Z
 have g_carried_all:=Um (P:=l.prog) (w:=w) (base:=base) D43 g_l_meets g_colourings g_copy g_is_wholes g_count g_keeps Z
 exact Lw (P:=l.prog) (w:=w) (base:=base) (QJ (st:=Uf) l0 c k) g_drawn g_row g_good_table g_tables g_keeping g_due g_limit g_carried_all Z
theorem Ny {l:PySem.W.OpenLaw}{q:Program}{loose:List Str}{XP:(Str->Option Value)->Heap->Prop}{YP:World->Heap->Prop}{d:DefRec}{K:Params->PySem.W.Frag}(hn:l.most=some 63)(hdf:d.params.defaults=[])
  (hY:∀(w:World) (h:Heap),YP w h->(K w.params).In h)
  (F:∀(w:World) (mg:Str->Option Value) (fa:Addr) (h:Heap),(K w.params).In h->h.Ns mainGlobals mg->mg d.name=some (.ref fa)->
   ∃fd:FuncData,(∀(s:Shared) (u:Value),BindsTo s fd ⟨[u],[]⟩ [("_law_script",u)])/\∀base:Heap,(K w.params).In base->base.Ns mainGlobals mg->FnOk l.prog w (K w.params) mg base CX0 8 fa fd ["_law_script"] (sp1 (rL Xa) (oF XQ) GJ (K w.params))):
  PySem.W.WalkO q loose XP YP l.row.toRowW d [] (λf vs=>PySem.call f vs):=
 L2.HH (n:=63) (k:=8) (x:="_law_script") (CX:=λ_=>CX0) (sp:=λw=>sp1 (rL Xa) (oF XQ) GJ (K w.params)) hn (by decide) hdf ⟨rfl,by decide,by decide⟩ hY F (λ_ _ a ns hl _ hS=>⟨.ref a,ns,true,rfl,⟨a,_,rfl,hS,GQ ns⟩,Ez ns hl,λv C H' w m ho=>ho.2⟩) λ_ _ _ _ _ z=>z
end My
open PySem PySem.W PyProof.Rows
set_option maxRecDepth 100000 in
set_option maxHeartbeats 0 in
theorem PySem.Challenge.cw_plait_k58_whole_images_of_colours_holds : PySem.Challenge.rw_plait_k58_whole_images_of_colours.Holds := by
  w_on; o_law; k_head; (case hw => w_witness2)
  k_fill
  refine My.Ny (l := PySem.Challenge.rw_plait_k58_whole_images_of_colours) rfl rfl (fun w h Y => PySem.W.kIn_of Y) ?F
  case F =>
    intro w mg fa h KX G hmg
    refine' My.L1 KX G hmg (My.Gm KX G (by intros; rfl) ?a1 ?l1 ?c1 ?k1) (My.BP KX G (by intros; rfl) ?a2 ?l2 ?c2 ?k2) (My.BP KX G (by intros; rfl) ?a3 ?l3 ?c3 ?k3) (My.BP KX G (by intros; rfl) ?a4 ?l4 ?c4 ?k4) (My.Gm KX G (by intros; rfl) ?a5 ?l5 ?c5 ?k5) (My.BP KX G (by intros; rfl) ?a6 ?l6 ?c6 ?k6) (My.Gm KX G (by intros; rfl) ?a7 ?l7 ?c7 ?k7) (My.BP KX G (by intros; rfl) ?a8 ?l8 ?c8 ?k8) (My.DN KX G (by intros; rfl) ?a9 ?l9 ?c9 ?k9) (My.Gm KX G (by intros; rfl) ?a10 ?l10 ?c10 ?k10) (My.Gm KX G (by intros; rfl) ?a11 ?l11 ?c11 ?k11) (My.DN KX G (by intros; rfl) ?a12 ?l12 ?c12 ?k12) (My.DN KX G (by intros; rfl) ?a13 ?l13 ?c13 ?k13) (My.Nv KX G (by intros; rfl) ?a14 ?l14 ?c14 ?k14) (My.DN KX G (by intros; rfl) ?a15 ?l15 ?c15 ?k15) (My.Gm KX G (by intros; rfl) ?a16 ?l16 ?c16 ?k16) (My.Gm KX G (by intros; rfl) ?a17 ?l17 ?c17 ?k17) (My.DN KX G (by intros; rfl) ?a18 ?l18 ?c18 ?k18) (My.Gm KX G (by intros; rfl) ?a19 ?l19 ?c19 ?k19) (My.DN KX G (by intros; rfl) ?a20 ?l20 ?c20 ?k20) (My.Nu KX G (by intros; rfl) ?a21 ?l21 ?c21 ?k21) (My.DN KX G (by intros; rfl) ?a22 ?l22 ?c22 ?k22) (My.BP KX G (by intros; rfl) ?a23 ?l23 ?c23 ?k23) (My.BP KX G (by intros; rfl) ?a24 ?l24 ?c24 ?k24) (My.BP KX G (by intros; rfl) ?a25 ?l25 ?c25 ?k25) (My.Nv KX G (by intros; rfl) ?a26 ?l26 ?c26 ?k26) (My.Gm KX G (by intros; rfl) ?a27 ?l27 ?c27 ?k27) (My.DN KX G (by intros; rfl) ?a28 ?l28 ?c28 ?k28) (My.Gm KX G (by intros; rfl) ?a29 ?l29 ?c29 ?k29) (My.Gm KX G (by intros; rfl) ?a30 ?l30 ?c30 ?k30) (My.DN KX G (by intros; rfl) ?a31 ?l31 ?c31 ?k31) (My.BP KX G (by intros; rfl) ?a32 ?l32 ?c32 ?k32) (My.Gm KX G (by intros; rfl) ?a33 ?l33 ?c33 ?k33) (My.BP KX G (by intros; rfl) ?a34 ?l34 ?c34 ?k34) (My.BP KX G (by intros; rfl) ?a35 ?l35 ?c35 ?k35) (My.DN KX G (by intros; rfl) ?a36 ?l36 ?c36 ?k36) (My.Gm KX G (by intros; rfl) ?a37 ?l37 ?c37 ?k37) (My.Gm KX G (by intros; rfl) ?a38 ?l38 ?c38 ?k38) (My.Gm KX G (by intros; rfl) ?a39 ?l39 ?c39 ?k39) (My.Gm KX G (by intros; rfl) ?a40 ?l40 ?c40 ?k40) (My.DN KX G (by intros; rfl) ?a41 ?l41 ?c41 ?k41) (My.DN KX G (by intros; rfl) ?a42 ?l42 ?c42 ?k42) (My.Nu KX G (by intros; rfl) ?a43 ?l43 ?c43 ?k43) ?a44 ?l44 ?c44 ?k44 ?z1 ?z2 ?z3 ?z4 ?z5 ?z6 ?z7 ?z8 ?z9 ?z10 ?z11 ?z12 ?z13 ?w0
    (case a1 => k_is); (case l1 => k_is); (case c1 => k_is); (case k1 => k_is); (case a2 => k_is); (case l2 => k_is); (case c2 => k_is); (case k2 => k_is); (case a3 => k_is); (case l3 => k_is); (case c3 => k_is); (case k3 => k_is); (case a4 => k_is); (case l4 => k_is); (case c4 => k_is); (case k4 => k_is); (case a5 => k_is); (case l5 => k_is); (case c5 => k_is); (case k5 => k_is); (case a6 => k_is); (case l6 => k_is); (case c6 => k_is); (case k6 => k_is); (case a7 => k_is); (case l7 => k_is); (case c7 => k_is); (case k7 => k_is); (case a8 => k_is); (case l8 => k_is); (case c8 => k_is); (case k8 => k_is); (case a9 => k_is); (case l9 => k_is); (case c9 => k_is); (case k9 => k_is); (case a10 => k_is); (case l10 => k_is); (case c10 => k_is); (case k10 => k_is); (case a11 => k_is); (case l11 => k_is); (case c11 => k_is); (case k11 => k_is); (case a12 => k_is); (case l12 => k_is); (case c12 => k_is); (case k12 => k_is); (case a13 => k_is); (case l13 => k_is); (case c13 => k_is); (case k13 => k_is); (case a14 => k_is); (case l14 => k_is); (case c14 => k_is); (case k14 => k_is); (case a15 => k_is); (case l15 => k_is); (case c15 => k_is); (case k15 => k_is); (case a16 => k_is); (case l16 => k_is); (case c16 => k_is); (case k16 => k_is); (case a17 => k_is); (case l17 => k_is); (case c17 => k_is); (case k17 => k_is); (case a18 => k_is); (case l18 => k_is); (case c18 => k_is); (case k18 => k_is); (case a19 => k_is); (case l19 => k_is); (case c19 => k_is); (case k19 => k_is); (case a20 => k_is); (case l20 => k_is); (case c20 => k_is); (case k20 => k_is); (case a21 => k_is); (case l21 => k_is); (case c21 => k_is); (case k21 => k_is); (case a22 => k_is); (case l22 => k_is); (case c22 => k_is); (case k22 => k_is); (case a23 => k_is); (case l23 => k_is); (case c23 => k_is); (case k23 => k_is); (case a24 => k_is); (case l24 => k_is); (case c24 => k_is); (case k24 => k_is); (case a25 => k_is); (case l25 => k_is); (case c25 => k_is); (case k25 => k_is); (case a26 => k_is); (case l26 => k_is); (case c26 => k_is); (case k26 => k_is); (case a27 => k_is); (case l27 => k_is); (case c27 => k_is); (case k27 => k_is); (case a28 => k_is); (case l28 => k_is); (case c28 => k_is); (case k28 => k_is); (case a29 => k_is); (case l29 => k_is); (case c29 => k_is); (case k29 => k_is); (case a30 => k_is); (case l30 => k_is); (case c30 => k_is); (case k30 => k_is); (case a31 => k_is); (case l31 => k_is); (case c31 => k_is); (case k31 => k_is); (case a32 => k_is); (case l32 => k_is); (case c32 => k_is); (case k32 => k_is); (case a33 => k_is); (case l33 => k_is); (case c33 => k_is); (case k33 => k_is); (case a34 => k_is); (case l34 => k_is); (case c34 => k_is); (case k34 => k_is); (case a35 => k_is); (case l35 => k_is); (case c35 => k_is); (case k35 => k_is); (case a36 => k_is); (case l36 => k_is); (case c36 => k_is); (case k36 => k_is); (case a37 => k_is); (case l37 => k_is); (case c37 => k_is); (case k37 => k_is); (case a38 => k_is); (case l38 => k_is); (case c38 => k_is); (case k38 => k_is); (case a39 => k_is); (case l39 => k_is); (case c39 => k_is); (case k39 => k_is); (case a40 => k_is); (case l40 => k_is); (case c40 => k_is); (case k40 => k_is); (case a41 => k_is); (case l41 => k_is); (case c41 => k_is); (case k41 => k_is); (case a42 => k_is); (case l42 => k_is); (case c42 => k_is); (case k42 => k_is); (case a43 => k_is); (case l43 => k_is); (case c43 => k_is); (case k43 => k_is); (case a44 => k_is); (case l44 => k_is); (case c44 => k_is); (case k44 => k_is); (case z1 => k_is); (case z2 => k_is); (case z3 => k_is); (case z4 => k_is); (case z5 => k_is); (case z6 => k_is); (case z7 => k_is); (case z8 => k_is); (case z9 => k_is); (case z10 => k_is); (case z11 => k_is); (case z12 => k_is); (case z13 => k_is); (case w0 => k_is)
