import PyProof.Rows.All
import Wide.All
import OpenK.AllK
import Wide.FinOn
import Lean
import PyProof.EqAt
import PyProof.EqKinds
import PyProof.TupleCall
import PySem.Challenge.RW_plait_k78_sizes_refused
set_option Elab.async false
set_option linter.all false
set_option maxRecDepth 100000
namespace PySem.W.Fast
def tw5017144426350683350:=0
def tw12486419778784266609:=0
def tw16037089618751070150:=0
def tw6790488579374596172:=0
def tw16840123861565610407:=0
def tw2951260718388800457:=0
def tw2342972241073466219:=0
def tw12288719885724738634:=0
def tw3103080566055353943:=0
def tw13106004253139647144:=0
def tw7540899714223641546:=0
def tw6349247554001104949:=0
def tw3488500982061928107:=0
def tw7010294770577718513:=0
def tw7985729082069976196:=0
def tw10969640693762843922:=0
def tw8067446481646849682:=0
def tw16268357511686431554:=0
def tw8167585124768960831:=0
def tw2213512199557254290:=0
def tw12443373096399266247:=0
def tw7888712156335453326:=0
def tw7606047104401858372:=0
def tw1324057432677363558:=0
def tw16794261298290953646:=0
def tw965770814488679498:=0
def tw6998258966734993529:=0
def tw8139718905607938288:=0
def tw3923814168582146317:=0
def tw9560183430361965788:=0
def tw11160009794553281262:=0
def tw5325646422748303551:=0
def tw989396278245450939:=0
def tw6137159770336609388:=0
def tw16626861684766603004:=0
def tw1103565231088880617:=0
def tw6595349146190646681:=0
def tw11909722284878794508:=0
def tw272223016775844870:=0
def tw5078966040374685110:=0
def tw2755902749214612079:=0
def tw12619191588535616946:=0
def tw3505899651886088604:=0
def tw12173195431033930778:=0
def tw6435133799471485359:=0
def tw10526898838677119506:=0
def tw17066847074276445117:=0
def tw14654856066992745862:=0
def tw3034796277314015432:=0
def tw13868102295766080570:=0
def tw17878433252945295631:=0
def tw1809857723888389549:=0
def tw6151248398449833436:=0
def tw16818040173135859128:=0
def tw2614192234032294315:=0
def tw150909815778199002:=0
def tw1355294347367487748:=0
def tw3343425360529330280:=0
def tw4580070659179535923:=0
def tw6958619785926587721:=0
def tw9875966439571343942:=0
def tw17426645517853202035:=0
def tw7515876445214749799:=0
def tw15293117912794606032:=0
def tw2387350936678183596:=0
def tw1922009206281542715:=0
def tw8254411507964313924:=0
def tw10545349479467306962:=0
def tw18355173160456055410:=0
def tw5817559790904059493:=0
def tw11353476656872108454:=0
def tw1038047402437104112:=0
def tw11805932816675561040:=0
def tw750072402282226675:=0
def tw5205024860359987882:=0
def tw16908059998539616195:=0
def tw18440632170578070349:=0
def tw8057205342750739516:=0
def tw4236495696113226051:=0
def tw3553213776820630624:=0
def tw13587540047706964460:=0
def tw13067866912777130438:=0
def tw11574594877771646396:=0
def tw15322546802592525616:=0
def tw498993722350809777:=0
def tw2668645789284116744:=0
def tw8126348296828600603:=0
def tw5800671651090549995:=0
def tw9325578690207490292:=0
def tw4576043409726417719:=0
def tw16561490174948065490:=0
def tw1057878613789871479:=0
def tw1357120988744636536:=0
def tw4785298780178384197:=0
def tw8648418898993034120:=0
def tw15662009829528967254:=0
def tw9849561729613249350:=0
def tw1362482392823502034:=0
def tw15167396414810997679:=0
def tw10612376898510017458:=0
def tw17179910355575705906:=0
def tw5899990927655838918:=0
def tw14084648397306312518:=0
def tw16417197651791695779:=0
def tw10936624824044482709:=0
def tw2691451119994035835:=0
def tw5821894939506358483:=0
def tw7567250118697983747:=0
def tw14700940847318836960:=0
def tw14838222402918595188:=0
def tw5679726887951776368:=0
def tw11912721703585278005:=0
def tw11432672061332091441:=0
def tw13890594235093098398:=0
def tw3820282440209816735:=0
def tw2437158007793369451:=0
def tw916527404527680528:=0
def tw14773260585784946837:=0
def tw1760509957225355371:=0
def tw15348573195476796453:=0
def tw2181605445196503955:=0
def tw6222930584890555822:=0
def tw11357066413626627815:=0
def tw4542251627858635555:=0
def tw15245768400092150449:=0
def tw7789277441068840059:=0
def tw10525012881137641311:=0
def tw16079865947667500130:=0
def tw6125309878794583378:=0
def tw1926065737852296475:=0
def tw12072120098370912624:=0
def tw8289924961040613656:=0
def tw2586899579479072041:=0
def tw16329234054931877781:=0
def tw11548247761272321999:=0
def tw9429404462544471898:=0
def tw18053428320283098531:=0
def tw13628252293679150060:=0
def tw12376977315001475592:=0
def tw14923147065176430048:=0
def tw10444655094807109697:=0
def tw14482407192559791826:=0
def tw12132800220757413817:=0
def tw6568864756160911788:=0
def tw5914497969293683694:=0
def tw13527856504493222938:=0
def tw15588276785947284210:=0
def tw9018938973425979408:=0
def tw5093498880279882627:=0
def tw13799139625888251927:=0
def tw10791648176373473757:=0
def tw492229514850794662:=0
def tw4532622520646489272:=0
def tw17875774140328532167:=0
def tw9009114665629541930:=0
def tw15489169950989666887:=0
def tw12092267047003577139:=0
def tw6973015505775731038:=0
def tw11767490585851536810:=0
def tw15920812461505390048:=0
def tw11189359732261713151:=0
def tw12801465206031274753:=0
def tw7387752631572278188:=0
def tw13316333970474167063:=0
def tw6390928656496409857:=0
def tw17463880198763832965:=0
def tw15172342037740230498:=0
def tw3986940657515359545:=0
def tw18056185680889902755:=0
def tw15450583979240787476:=0
def tw15470186505693457791:=0
def tw4241324913720609975:=0
def tw6136944754523592290:=0
def tw7965730803378943882:=0
def tw5383594730870893016:=0
def tw13775054562452487632:=0
def tw771900571666065468:=0
def tw11921024702695181579:=0
def tw5699135856687508119:=0
def tw12403929798527585094:=0
def tw17033604223110559492:=0
def tw12485160735913969793:=0
def tw17572162553234747661:=0
def tw11081991501039145253:=0
def tw18218841001672659642:=0
def tw8173704870233236340:=0
def tw15074654542166462961:=0
def tw13839320140968105226:=0
def tw18310828352803383506:=0
def tw6432312192834464640:=0
def tw3761447735024427021:=0
def tw14702267033542289728:=0
def tw16931678317476911814:=0
def tw5698363005106499448:=0
def tw11519143406393786898:=0
def tw15832936963042288946:=0
def tw2913932298050379724:=0
def tw18206216966765620577:=0
def tw17517971970262047187:=0
def tw11835649793153213897:=0
def tw6897330592027198976:=0
def tw1627559141798989191:=0
def tw10165593832929698668:=0
def tw1004527793216766462:=0
def tw3172972274616322157:=0
def tw10749923755124102663:=0
def tw6560767032120628940:=0
def tw13326687220453543110:=0
def tw1898843519516136755:=0
def tw6781586918115610779:=0
def tw728473649082789839:=0
def tw13110681609531205560:=0
def tw15929157718471796738:=0
def tw5848992796770359012:=0
def tw7794624781410430848:=0
def tw6122500930024864102:=0
def tw16350925603835089212:=0
def tw8214201905296276100:=0
def tw11147227504715136827:=0
def tw17184319757008548177:=0
def tw3340790320576272538:=0
def tw17411142139982202106:=0
def tw16317622939781628727:=0
def tw12516116463045712763:=0
def tw9165050911913633937:=0
def tw3366884289957916669:=0
def tw12530550186356583085:=0
def tw12103264722387531728:=0
def tw3639015997264578825:=0
def tw13269414728157803516:=0
def tw3499527985045557822:=0
def tw14035075184850305380:=0
def tw3219474052132891157:=0
def tw1314071312413653240:=0
def tw1081059848325091053:=0
def tw7911880161007717483:=0
def tw5801661711036307709:=0
def tw867213289347330243:=0
def tw7990831685886940042:=0
def tw8566961544941983354:=0
def tw1261153576791867373:=0
def tw16384329001287283673:=0
def tw6253173506890949428:=0
def tw6392367517327120421:=0
def tw8555408594996590:=0
def tw11609652272385103151:=0
def tw5903185701355688409:=0
def tw6224239817820658737:=0
def tw4158732795259900195:=0
def tw4243644862703579475:=0
def tw16471496935822547975:=0
def tw8657498551262063454:=0
def tw9974778077015483101:=0
def tw17946064709931659043:=0
def tw12148133347812271468:=0
def tw18373126647864518727:=0
def tw9225565742472323250:=0
def tw221436674831752327:=0
def tw4387653118621994865:=0
def tw7476585750608706001:=0
def tw5231436418550446677:=0
def tw1516660391437865378:=0
def tw17828553631780492746:=0
def tw12469804915309448368:=0
def tw5166114374296422263:=0
def tw14967631879103601250:=0
def tw3621032193629610988:=0
def tw10077684042492967153:=0
def tw1091536848848996039:=0
def tw13782392854558171103:=0
def tw13837880974329002746:=0
def tw8038527512568911419:=0
def tw14846372770305699473:=0
def tw7144734158250236001:=0
def tw9249847322908216457:=0
def tw4490137777592181107:=0
def tw8378509492614611030:=0
def tw11509510318373490343:=0
def tw7307514044283515804:=0
def tw11980975313907065779:=0
def tw11452665302212580588:=0
def tw4697336076504879618:=0
def tw14798873126105778353:=0
def tw2948910241759940369:=0
def tw9065475839621771848:=0
def tw10740907134071542931:=0
def tw7596040991013918377:=0
def tw7534518333642415035:=0
def tw4863812749009922311:=0
def tw14287907326112365574:=0
def tw6147218951372421332:=0
def tw11425539218581586774:=0
def tw4050056051653850571:=0
def tw908425945951928400:=0
def tw17315066040442936625:=0
def tw1354307520106530635:=0
def tw16988175233058204850:=0
def tw4033074948284485375:=0
def tw8147247745343276597:=0
def tw18164203086020465910:=0
def tw8337198730176525930:=0
def tw14059198406435428643:=0
def tw3105121728967369184:=0
def tw9336150391870156510:=0
def tw5084350791173036132:=0
def tw4961524858185357027:=0
def tw1729190397738827010:=0
def tw15071941951795867946:=0
def tw8412358120752561245:=0
def tw5526455762596962704:=0
def tw8742954533304765901:=0
def tw15870497547362874907:=0
def tw12468327508542042904:=0
def tw14673209160870824075:=0
def tw5238808591654232819:=0
def tw2798064051048091834:=0
def tw489291983810650668:=0
def tw10598380239297869209:=0
def tw9695326091600520159:=0
def tw8378392082578342530:=0
def tw2364596666843155076:=0
def tw8470439194708240781:=0
def tw10591582216428034246:=0
def tw1602023547178454107:=0
def tw15320902281231560559:=0
def tw13034281505332883491:=0
def tw678789895138972971:=0
def tw1793526458611805951:=0
def tw3700779475553745228:=0
def tw9050194748245369207:=0
def tw17983532384771762679:=0
end PySem.W.Fast
set_option maxHeartbeats 4000000
namespace L2
open PySem PySem.Spec PyProof.Rows
noncomputable abbrev Key:=Sum Int Str
noncomputable def Be:Key->Value->Bool
 | .inl k,v=>Value.isInt k v
 | .inr x,v=>Value.isStrOf x v
noncomputable def SZ (w:World):Key->Int
 | .inl k=>hashInt k
 | .inr x=>hashStr w x
theorem Yj:∀{k:Key}{v:Value},Be k v=true->(∃i t,k=Sum.inl i/\v=Value.int i t)∨(∃x t,k=Sum.inr x/\v=Value.str x t)
 | .inl i,v,h=>by
  obtain⟨t,e⟩:=Value.isInt_shape (k:=i) (v:=v) h
  exact .inl ⟨i,t,rfl,e⟩
 | .inr x,v,h=>by
  obtain⟨t,e⟩:=Value.isStrOf_shape (x:=x) (v:=v) h
  exact .inr ⟨x,t,rfl,e⟩
theorem EW (i:Int)(t:Tok):Be (.inl i) (.int i t)=true:=by simp[Be,Value.isInt]
theorem HX (x:Str)(t:Tok):Be (.inr x) (.str x t)=true:=by simp[Be,Value.isStrOf]
theorem O4 (a b:Int):decide ((Sum.inl a:Key)=Sum.inl b)=(a==b):=by
 by_cases e:a=b
 ·subst e;simp
 ·have h:¬(Sum.inl a:Key)=Sum.inl b:=λq=>e (Sum.inl.inj q)
  rw[decide_eq_false h]
  exact(beq_eq_false_iff_ne.mpr e).symm
theorem Pq (a b:Str):decide ((Sum.inr a:Key)=Sum.inr b)=decide (a=b):=by
 by_cases e:a=b
 ·subst e;simp
 ·have h:¬(Sum.inr a:Key)=Sum.inr b:=λq=>e (Sum.inr.inj q)
  rw[decide_eq_false h,decide_eq_false e]
theorem OY (a:Int)(b:Str):decide ((Sum.inl a:Key)=Sum.inr b)=false:=decide_eq_false (λq=>nomatch q)
theorem O5 (a:Str)(b:Int):decide ((Sum.inr a:Key)=Sum.inl b)=false:=decide_eq_false (λq=>nomatch q)
noncomputable def YN (prog:Program)(w:World):PySem.KeyKind prog w Key where
 is:=Be
 hash:=SZ w
 inj:=λv a b ha hb=>by
  rcases Yj ha with⟨i,t,rfl,rfl⟩ | ⟨x,t,rfl,rfl⟩
  ·rcases Yj hb with⟨j,u,rfl,e⟩ | ⟨y,u,rfl,e⟩
   ·injection e with e1 _;rw[e1]
   ·exact nomatch e
  ·rcases Yj hb with⟨j,u,rfl,e⟩ | ⟨y,u,rfl,e⟩
   ·exact nomatch e
   ·injection e with e1 _;rw[e1]
 byValue:=λk v h=>by
  rcases Yj h with⟨i,t,rfl,rfl⟩ | ⟨x,t,rfl,rfl⟩<;> rfl
 pyHash:=λhv h=>by
  rcases Yj hv with⟨i,t,rfl,rfl⟩ | ⟨x,t,rfl,rfl⟩
  ·exact wpAny_pyHash_int h
  ·exact wpAny_pyHash_str h
 eqBool:=λhu hv h=>by
  rcases Yj hu with⟨i,t,rfl,rfl⟩ | ⟨x,t,rfl,rfl⟩
  ·rcases Yj hv with⟨j,u,rfl,rfl⟩ | ⟨y,u,rfl,rfl⟩
   ·rw[O4] at h;exact wpAny_eqBool_int h
   ·rw[OY] at h;exact SeqAt.EqAt.int_str i t y u _ _ _ _ h
  ·rcases Yj hv with⟨j,u,rfl,rfl⟩ | ⟨y,u,rfl,rfl⟩
   ·rw[O5] at h;exact SeqAt.EqAt.str_int x t j u _ _ _ _ h
   ·rw[Pq] at h;exact wpAny_eqBool_str h
 «strs»:=λk x t v h=>by
  rcases Yj h with⟨i,u,rfl,e⟩ | ⟨y,u,rfl,e⟩
  ·exact nomatch e
  ·injection e with e1 _
   subst e1
   cases v<;> rfl
theorem F5 (prog:Program)(w:World)(i:Int)(t:Tok):(YN prog w).is (.inl i) (.int i t)=true:=EW i t
theorem FV (prog:Program)(w:World)(x:Str)(t:Tok):(YN prog w).is (.inr x) (.str x t)=true:=HX x t
inductive V where
 |non |bl (b:Bool) |int (i:Int) |str (x:Str) |byt (b:Array UInt8) |flt (b:UInt64) |ref (a:Addr) |ty (n:String)
 deriving DecidableEq
noncomputable def X9:V->Value->Prop
 | .non,u=>u=Value.none
 | .bl b,u=>u=Value.bool b
 | .int i,u=>∃ t,u=Value.int i t
 | .str x,u=>∃ t,u=Value.str x t
 | .byt b,u=>∃ t,u=Value.bytes b t
 | .flt b,u=>∃ t,u=Value.float b t
 | .ref a,u=>u=Value.ref a
 | .ty n,u=>u=Value.type n
noncomputable abbrev X5:List V->List Value->Prop:=Paired X9
theorem X5.length {xs:List V}{us:List Value}(r:X5 xs us):xs.length=us.length:=Paired.length r
theorem X5.get:∀{xs:List V}{us:List Value}{i:Nat}{x:V},X5 xs us->xs[i]?=some x->∃u,us[i]?=some u/\X9 x u
 |_,_,_,_, .nil,e=>by simp at e
 |_,_,0,_, .cons r _,e=>by simp at e;subst e;exact⟨_,rfl,r⟩
 |_,_,i+1,x, .cons _ t,e=>by
  obtain⟨u,h1,h2⟩:=X5.get (i:=i) (x:=x) t (by simpa using e)
  exact⟨u,by simpa using h1,h2⟩
theorem X5.set {x:V}{u:Value}(r:X9 x u):∀{xs:List V}{us:List Value} (i:Nat),X5 xs us->X5 (xs.set i x) (us.set i u)
 |_,_,_, .nil=>.nil
 |_,_,0, .cons _ t=>.cons r t
 |_,_,i+1, .cons q t=>.cons q (X5.set r i t)
theorem X5.append:∀{xs ys:List V}{us ws:List Value},X5 xs us->X5 ys ws->X5 (xs++ys) (us++ws):=λp s=>by
 induction p with
 |nil=>exact s
 |cons r _ ih=>exact .cons r ih
theorem X5.take:∀{xs:List V}{us:List Value} (n:Nat),X5 xs us->X5 (xs.take n) (us.take n)
 |_,_,0,_=>.nil
 |_,_,_+1, .nil=>.nil
 |_,_,n+1, .cons r t=>.cons r (X5.take n t)
theorem X5.drop:∀{xs:List V}{us:List Value} (n:Nat),X5 xs us->X5 (xs.drop n) (us.drop n)
 |_,_,0,r=>r
 |_,_,_+1, .nil=>.nil
 |_,_,n+1, .cons _ t=>X5.drop n t
noncomputable def OS:Option V->Option Value->Prop
 |some v,some u=>X9 v u
 |none,none=>True
 |_,_=>False
noncomputable def KV {κ:Type}:List (κ×V)->List (κ×Value)->Prop:=Paired λ(p:κ×V) (q:κ×Value)=>p.1=q.1/\X9 p.2 q.2
noncomputable def kV:Key->V
 | .inl i=>.int i
 | .inr x=>.str x
inductive HO where
 /-- a list -/
 |lst (xs:List V)
 /-- a tuple (never changes) -/
 |tup (xs:List V)
 /-- a dict whose keys are ints and texts; one whose keys are tuples of ints and texts (the empty one is both) -/
 |dK (kvs:List (Key×V)) |dT (kvs:List (List Key×V))
 /-- a set of ints: its members, its size -/
 |set (S:Int->Bool) (n:Nat)
 /-- an instance of the class at C, its dict at dx, its attributes -/
 |ins (C dx:Addr) (fs:List (Str×V))
 /-- the dict of the instance at x -/
 |own (x:Addr)
 /-- the dict of an exception -/
 |xd (fs:List (Str×V))
 /-- a bound method, f of x -/
 |met (f x:Addr)
 /-- a range object lo, lo + 1, .. below hi -/
 |rng (lo hi:Int)
 /-- a thing that is known to the object (the script; a dict while a loop walks it): read, never written while it is so -/
 |frz (o:Obj) (u:HO)
 /-- a code object's table -/
 |tbl (ps:Array Value)
 /-- any other thing, by what is true of its one object (a def of one's own: SetO a S n:=HO.ext λh=>..) -/
 |ext (φ:Heap->Prop)
noncomputable abbrev Hp:=Addr->Option HO
noncomputable def upd (H:Hp)(a:Addr)(o:HO):Hp:=λb=>if b=a then some o else H b
theorem Yk {H:Hp}{a:Addr}{o:HO}:upd H a o a=some o:=by unfold upd;rw[if_pos rfl]
theorem XF {H:Hp}{a b:Addr}{o:HO}(h:b≠a):upd H a o b=H b:=by unfold upd;rw[if_neg h]
theorem R4 {H:Hp}{a b:Addr}{o u:HO}(h:H a=some o)(h':H b=some u)(d:o≠u):a≠b:=by
 intro e;subst e;rw[h] at h';exact d (Option.some.inj h')
theorem XU {H:Hp}{a b:Addr}{o:HO}(h:H a=some o)(h':H b=none):a≠b:=by
 intro e;subst e;rw[h] at h';cases h'
noncomputable def Ka (h:Heap)(a:Addr)(items:Array Value):Prop:=∃ o,h.get? a=some o/\(o.cls= .type "tuple" /\o.dict=none)/\∃n,o.data= .seq items n
theorem Ka.t {h:Heap}{a:Addr}{items:Array Value}(x:Ka h a items):IsTup h a items:=let ⟨o,ho,c,r⟩:=x;⟨o,ho,c.1,r⟩
theorem Ka.new (h:Heap)(items:Array Value):Ka (h.push {cls:=.type "tuple",data:=.seq items}) h.objs.size items:=⟨_,Heap.get?_push_size _ rfl,⟨rfl,rfl⟩,_,rfl⟩
section
variable (P:Program)(w:World)
noncomputable def ZA (H:Hp)(h:Heap)(a:Addr):HO->Prop
 | .lst xs=>xs.length<=sizeLine/\∃(its:List Value) (n:Nat),X5 xs its/\h.get? a=some {cls:=.type "list",data:=.seq its.toArray n}
 | .tup xs=>xs.length<=sizeLine/\∃its:List Value,X5 xs its/\Ka h a its.toArray
 | .dK kvs=>kvs.length<=sizeLine/\(a==sysModules)=false/\∃vs,KV kvs vs/\h.DictOf (YN P w) a vs
 | .dT kvs=>kvs.length<=sizeLine/\(a==sysModules)=false/\∃xs:List (List Key×Addr×Value),
   Paired (λ(p:List Key×V) (q:List Key×Addr×Value)=>p.1=q.1/\H q.2.1=some (.tup (p.1.map kV))/\X9 p.2 q.2.2) kvs xs/\
   ∃o es ep,h.get? a=some o/\o.ExactDict/\o.data= .dict es ep/\es.toList=xs.map (entryOfKey (tupleKind (YN P w)))/\(xs.map (·.1)).Nodup
 | .set S n=>h.SetOf (intKind P w) a S n
 | .ins C dx fs=>H dx=some (.own a)/\fs.length<=1000/\dx≠a/\h.get? a=some (PySem.W.instObj C dx)/\
   ∃mA,h.Ns1 dx mA/\(∀f,OS (fs.lookup f) (mA f))/\PySem.Within mA (fs.map (·.1))
 | .own _=>∃ o,h.get? a=some o
 | .xd fs=>∃ mA,h.Ns1 a mA/\∀f,OS (fs.lookup f) (mA f)
 | .rng lo hi=>∃ t u v,h.get? a=some {cls:=.type "range",data:=.fields #[.int lo t, .int hi u, .int 1 v]}
 | .frz o u=>h.get? a=some o/\ZA H h a u
 | .tbl ps=>h.get? a=some {cls:=.none,data:=.fields ps}
 | .met f x=>h.get? a=some (PySem.W.methodObj (.ref f) (.ref x))
 | .ext φ=>φ h/\(∃o,h.get? a=some o)/\∀h1 h2:Heap,φ h1->(∀o,h1.get? a=some o->h2.get? a=some o)->φ h2
noncomputable def HOk (H:Hp)(h:Heap):Prop:=∀ a o,H a=some o->ZA P w H h a o
end
section
variable {P:Program}{w:World}{H H':Hp}{h h':Heap}{a:Addr}{o:HO}
theorem ZA.lt (x:ZA P w H h a o):a<h.objs.size:=by
 cases o with
 |lst xs=>obtain⟨_,_,_,_,e⟩:=x;exact Heap.lt_size e
 |tup xs=>obtain⟨_,_,_,p⟩:=x;exact p.t.lt
 |dK kvs=>obtain⟨_,_,_,_,o,_,_,e,_⟩:=x;exact Heap.lt_size e
 |dT kvs=>obtain⟨_,_,_,_,o,_,_,e,_⟩:=x;exact Heap.lt_size e
 |set S n=>obtain⟨o,_,_,_,e,_⟩:=x;exact Heap.lt_size e
 |ins C dx fs=>obtain⟨_,_,_,e,_⟩:=x;exact Heap.lt_size e
 |own y=>obtain⟨_,e⟩:=x;exact Heap.lt_size e
 |xd fs=>obtain⟨_,⟨_,_,_,e,_⟩,_⟩:=x;exact Heap.lt_size e
 |rng lo hi=>obtain⟨_,_,_,e⟩:=x;exact Heap.lt_size e
 |frz ob u=>obtain⟨e,_⟩:=x;exact Heap.lt_size e
 |tbl ps=>exact Heap.lt_size (show h.get? a=some _ from x)
 |met f y=>exact Heap.lt_size (show h.get? a=some _ from x)
 |ext φ=>obtain⟨_,⟨_,e⟩,_⟩:=x;exact Heap.lt_size e
theorem Paired.mapP {α β:Type}{F G:α->β->Prop}:∀{l₁:List α}{l₂:List β},Paired F l₁ l₂->(∀a b,F a b->G a b)->Paired G l₁ l₂:=λp f=>by
 induction p with
 |nil=>exact .nil
 |cons r _ ih=>exact .cons (f _ _ r) ih
theorem ZA.stay (x:ZA P w H h a o)(k:∀b u,(b=a∨H b=some (.own a))->h.get? b=some u->h'.get? b=some u)
  (ho:∀b,H b=some (.own a)->H' b=some (.own a))(ht:∀b xs,H b=some (.tup xs)->H' b=some (.tup xs)):ZA P w H' h' a o:=by
 induction o with
 |lst xs=>obtain⟨z,its,n,r,e⟩:=x;exact⟨z,its,n,r,k _ _ (.inl rfl) e⟩
 |tup xs=>obtain⟨z,its,r,ob,e,c⟩:=x;exact⟨z,its,r,ob,k _ _ (.inl rfl) e,c⟩
 |dK kvs=>obtain⟨z,y,vs,r,ob,es,ep,e,c⟩:=x;exact⟨z,y,vs,r,ob,es,ep,k _ _ (.inl rfl) e,c⟩
 |dT kvs=>
  obtain⟨z,y,xs,r,ob,es,ep,e,c⟩:=x
  exact⟨z,y,xs,Paired.mapP r λp q z=>⟨z.1,ht _ _ z.2.1,z.2.2⟩,ob,es,ep,k _ _ (.inl rfl) e,c⟩
 |set S n=>obtain⟨ob,es,ep,t,e,c⟩:=x;exact⟨ob,es,ep,t,k _ _ (.inl rfl) e,c⟩
 |ins C dx fs=>
  obtain⟨d,z,ne,e,mA,⟨od,es,ep,e2,c⟩,r⟩:=x
  exact⟨ho _ d,z,ne,k _ _ (.inl rfl) e,mA,⟨od,es,ep,k _ _ (.inr d) e2,c⟩,r⟩
 |own y=>obtain⟨ob,e⟩:=x;exact⟨ob,k _ _ (.inl rfl) e⟩
 |xd fs=>obtain⟨mA,⟨od,es,ep,e,c⟩,r⟩:=x;exact⟨mA,⟨od,es,ep,k _ _ (.inl rfl) e,c⟩,r⟩
 |rng lo hi=>obtain⟨t,u,v,e⟩:=x;exact⟨t,u,v,k _ _ (.inl rfl) e⟩
 |frz ob u ih=>obtain⟨e,q⟩:=x;exact⟨k _ _ (.inl rfl) e,ih q⟩
 |tbl ps=>
  have e:h.get? a=some {cls:=.none,data:=.fields ps}:=x
  show h'.get? a=some {cls:=.none,data:=.fields ps}
  exact k a _ (.inl rfl) e
 |met f y=>
  have e:h.get? a=some (PySem.W.methodObj (.ref f) (.ref y)):=x
  show h'.get? a=some (PySem.W.methodObj (.ref f) (.ref y))
  exact k a _ (.inl rfl) e
 |ext φ=>obtain⟨p,⟨o,e⟩,st⟩:=x;exact⟨st _ _ p λo q=>k _ _ (.inl rfl) q,⟨o,k _ _ (.inl rfl) e⟩,st⟩
theorem HOk.lt (x:HOk P w H h)(e:H a=some o):a<h.objs.size:=(x a o e).lt
theorem HOk.fresh (x:HOk P w H h)(e:h.objs.size<=a):H a=none:=by
 cases q:H a with
 |none=>rfl
 |some u=>exact absurd (Nat.lt_of_lt_of_le (x.lt q) e) (Nat.lt_irrefl _)
theorem HOk.kept (x:HOk P w H h)(k:∀b u,h.get? b=some u->h'.get? b=some u):HOk P w H h':=λa o e=>
 (x a o e).stay (λb u _ q=>k b u q) (λ_ q=>q) λ_ _ q=>q
theorem HOk.laid (x:HOk P w H h)(k:∀b u,h.get? b=some u->h'.get? b=some u)(hp:h.objs.size<=a)(new:ZA P w (upd H a o) h' a o):HOk P w (upd H a o) h':=λb u e=>by
 have hn:=x.fresh hp
 by_cases hb:b=a
 ·subst hb;rw[Yk] at e;cases e;exact new
 ·rw[XF hb] at e
  exact(x b u e).stay (λc v _ q=>k c v q) (λc q=>by rw[XF (XU q hn)];exact q) λc xs q=>by rw[XF (XU q hn)];exact q
end
noncomputable def Rd (H:Hp)(a:Addr)(u:HO):Prop:=H a=some u∨∃o,H a=some (.frz o u)
theorem Rd.ok {P:Program}{w:World}{H:Hp}{h:Heap}{a:Addr}{u:HO}(r:Rd H a u)(x:HOk P w H h):ZA P w H h a u:=by
 rcases r with r | ⟨o,r⟩
 ·exact x a u r
 ·obtain⟨_,q⟩:=x a _ r
  exact q
noncomputable def Mut:Option HO->Prop
 |some (.lst _)=>True
 |some (.dK _)=>True
 |some (.dT _)=>True
 |some (.set _ _)=>True
 |some (.ins _ _ _)=>True
 |some (.ext _)=>True
 |_=>False
section
variable {P:Program}{w:World}{H:Hp}{h h':Heap}{x e:Addr}{o':HO}
theorem HOk.write (ok:HOk P w H h)(mu:Mut (H x))(he:e=x∨H e=some (.own x))(k:∀b u,b≠e->h.get? b=some u->h'.get? b=some u)(heo:∃u,h'.get? e=some u)
  (new:ZA P w (upd H x o') h' x o'):HOk P w (upd H x o') h':=λb u q=>by
 have nown:∀c y,H c=some (.own y)->c≠x:=λc y r z=>by subst z;rw[r] at mu;exact mu
 have ntup:∀c xs,H c=some (.tup xs)->c≠x:=λc xs r z=>by subst z;rw[r] at mu;exact mu
 by_cases hb:b=x
 ·subst hb;rw[Yk] at q;cases q;exact new
 ·rw[XF hb] at q
  by_cases hbe:b=e
  ·have q':H b=some (.own x):=by
    rcases he with z |z
    ·exact absurd (hbe.trans z) hb
    ·rw[hbe];exact z
   rw[q] at q';cases q'
   obtain⟨v,hv⟩:=heo
   exact⟨v,by rw[hbe];exact hv⟩
  ·refine(ok b u q).stay (λc v hc r=>k c v ?_ r) (λc r=>by rw[XF (nown c b r)];exact r) λc xs r=>by rw[XF (ntup c xs r)];exact r
   rcases hc with rfl |hc
   ·exact hbe
   ·rintro rfl
    rcases he with z |z
    ·exact nown c b hc z
    ·rw[hc] at z;cases z;exact hb rfl
end
structure Un (fs ex:List Addr)(H H':Hp)(h h':Heap):Prop where
 keep:∀b o,h.get? b=some o->H b=none->b∉fs->b∉ex->h'.get? b=some o
 slot:∀b o,h.get? b=some o->H b=none->b∈fs->b∉ex->∃sl,h'.get? b=some {o with slots:=sl}
 free:∀b o,h.get? b=some o->H b=none->b∉ex->H' b=none
 there:∀b o,h.get? b=some o->b∉ex->∃o',h'.get? b=some o'
 tups:∀b xs,H b=some (.tup xs)->H' b=some (.tup xs)
 frzs:∀b o u,H b=some (.frz o u)->H' b=some (.frz o u)
 tbls:∀b ps,H b=some (.tbl ps)->∃more,H' b=some (.tbl (ps++more))
section
variable {fs fs' ex ex':List Addr}{H H1 H2:Hp}{h h1 h2 h':Heap}{a x e:Addr}{o:HO}
theorem Un.any (u:Un fs ex H H1 h h1){b:Addr}{ob:Obj}(q:h.get? b=some ob)(n:H b=none)(hx:b∉ex):∃sl,h1.get? b=some {ob with slots:=sl}:=by
 by_cases hb:b∈fs
 ·exact u.slot b ob q n hb hx
 ·exact⟨ob.slots,u.keep b ob q n hb hx⟩
theorem Un.kept (k:∀b u,h.get? b=some u->h'.get? b=some u):Un fs ex H H h h':=
 ⟨λb ob q _ _ _=>k b ob q,λb ob q _ _ _=>⟨ob.slots,k b ob q⟩,λ_ _ _ n _=>n,λb ob q _=>⟨ob,k b ob q⟩,λ_ _ q=>q,λ_ _ _ q=>q,λ_ ps q=>⟨#[],by rw[q];simp⟩⟩
theorem Un.refl:Un fs ex H H h h:=Un.kept λ_ _ q=>q
theorem Un.laid (k:∀b u,h.get? b=some u->h'.get? b=some u)(hp:h.objs.size<=a)(hn:H a=none):Un fs ex H (upd H a o) h h' where
 keep:=λb u q _ _ _=>k b u q
 slot:=λb u q _ _ _=>⟨u.slots,k b u q⟩
 free:=λb u q n _=>by rw[XF (Nat.ne_of_lt (Nat.lt_of_lt_of_le (Heap.lt_size q) hp))];exact n
 there:=λb u q _=>⟨u,k b u q⟩
 tups:=λb xs q=>by rw[XF (XU q hn)];exact q
 frzs:=λb u xs q=>by rw[XF (XU q hn)];exact q
 tbls:=λb ps q=>⟨#[],by rw[XF (XU q hn),q];simp⟩
theorem Un.write (mu:Mut (H x))(he:e=x∨H e=some (.own x))(k:∀b u,b≠e->h.get? b=some u->h'.get? b=some u)(heo:∃u,h'.get? e=some u):Un fs ex H (upd H x o) h h':=by
 have hx:∀b,H b=none->b≠x:=λb n z=>by subst z;rw[n] at mu;exact mu
 have hb:∀b,H b=none->b≠e:=λb n z=>by
  subst z
  rcases he with r |r
  ·exact hx b n r
  ·rw[n] at r;cases r
 have hm:∀b u,H b=some u->¬Mut (some u)->b≠x:=λb u q nm z=>by subst z;rw[q] at mu;exact nm mu
 refine⟨λb u q n _ _=>k b u (hb b n) q,λb u q n _ _=>⟨u.slots,k b u (hb b n) q⟩,λb u q n _=>by rw[XF (hx b n)];exact n,λb u q _=>?_,
  λb xs q=>by rw[XF (hm b _ q λz=>z)];exact q,λb u xs q=>by rw[XF (hm b _ q λz=>z)];exact q,λb ps q=>⟨#[],by rw[XF (hm b _ q λz=>z),q];simp⟩⟩
 by_cases hbe:b=e
 ·subst hbe;exact heo
 ·exact⟨u,k b u hbe q⟩
end
noncomputable def trk (h:Heap)(H:Hp):List Addr:=(List.range h.objs.size).filter λa=>(H a).isSome
noncomputable def Ir (h:Heap)(H:Hp):Heap:=PySem.W.hideAll h (trk h H)
theorem He (h:Heap)(H:Hp):(Ir h H).objs.size=h.objs.size:=PySem.W.hideAll_size _ _
theorem DF {h:Heap}{H:Hp}{b:Addr}{o:Obj}(e:h.get? b=some o)(n:H b=none):(Ir h H).get? b=some o:=
 PySem.W.hideAll_get _ e λhm=>by
  have q:(H b).isSome=true:=(List.mem_filter.mp hm).2
  rw[n] at q;simp at q
theorem B7 {h:Heap}{H:Hp}{b:Addr}{o:Obj}(e:(Ir h H).get? b=some o):h.get? b=some o/\H b=none:=by
 have e':h.get? b=some o:=PySem.W.of_hideAll (trk h H) e
 refine⟨e',?_⟩
 cases q:H b with
 |none=>rfl
 |some x=>
  have hm:b∈trk h H:=List.mem_filter.mpr ⟨List.mem_range.mpr (Heap.lt_size e'),by simp[q]⟩
  have z:(Ir h H).get? b=none:=PySem.W.hideAll_none (trk h H) hm
  rw[z] at e;cases e
noncomputable def Oe (g h:Heap)(L:Addr):List (Addr×Obj):=(List.range h.objs.size).filterMap λa=>if a=L∨(g.get? a).isSome=true then none else(h.get? a).map λo=>(a,o)
noncomputable def Zu (g h:Heap)(L d:Addr):List (Addr×Obj):=(Oe g h L).filter λp=>decide (p.1≠d)
structure Mod (K:PySem.W.Frag)(mg:Str->Option Value)(base:Heap):Prop where
 kin:K.In base
 glob:base.Ns mainGlobals mg
 blt:∃mb,base.Ns builtinsNs mb/\∀x:Str,x≠ "__name__" ->mb x=bootBuiltins x
 nolimit:base.NoLimit
structure Cx where
 prog:Program
 w:World
 K:PySem.W.Frag
 mg:Str->Option Value
 base:Heap
 A:Around
 N:List Str
 s₀:Shared
 H₀:Hp
 env:Env
 outer:List Env
 stack:List Env
 ex:List Addr
 fn:Str->Bool
 calm:Bool
 pn:List (Addr×Obj)
 xe:Value->Shared->Prop
noncomputable def frs (l:List Env):List Addr:=l.filterMap (·.frame)
noncomputable abbrev Cx.fs (X:Cx):List Addr:=frs X.outer
noncomputable def Vis (sc:Scope)(x:Str):Prop:=sc.names.lookup x=some .local∨sc.names.lookup x=some .cell∨sc.names.lookup x=some .free
noncomputable def Loc (sc:Scope)(x:Str):Prop:=sc.names.lookup x=some .local∨sc.names.lookup x=some .cell
noncomputable def S8 (env:Env)(h:Heap)(m:Str->Option Value)(x:Str)(u:Value):Prop:=
 (env.kindOf x=some .local/\m x=some u)∨((env.kindOf x=some .cell∨env.kindOf x=some .free)/\∃c,env.cells.lookup x=some c/\h.IsCell c (some u))
structure Cx.Ok (X:Cx):Prop where
 mod:Mod X.K X.mg X.base
 kind:X.env.scope.kind= .function
 glob:X.env.globals=mainGlobals
 blt:X.env.builtins=builtinsNs
 above:X.s₀.heap.objs.size<=X.env.locals
 inj:∀x y c,X.env.cells.lookup x=some c->X.env.cells.lookup y=some c->x=y
 has:∀x,(X.env.kindOf x=some .cell∨X.env.kindOf x=some .free)->∃c,X.env.cells.lookup x=some c
 cab:∀x c,X.fn x=true->X.env.cells.lookup x=some c->X.s₀.heap.objs.size<=c
 hd:X.calm=true->X.A.handled=none
 frames:X.A.frames=some X.stack
 stk:X.stack=X.outer∨(X.stack=X.env::X.outer/\X.env.frame=some X.env.locals)
 exf:∀b∈X.ex,b≠X.env.locals/\∀x c,X.env.cells.lookup x=some c->c≠b
 bs:∀b o,X.base.get? b=some o->X.s₀.heap.get? b=some o/\X.H₀ b=none
 bsz:X.base.objs.size<=X.s₀.heap.objs.size
 noex:∀b o,X.base.get? b=some o->b∉X.ex
 exfs:∀b∈X.ex,b∉X.fs
 funs:X.s₀.heap.FunFrames X.base X.outer
 frf:∀b∈X.fs,X.H₀ b=none
structure Inv (X:Cx)(pins:List (Addr×Obj))(σ:List (Option V))(H:Hp)(s:Shared):Prop where
 ok:X.Ok
 os:s.os=X.s₀.os
 bare:AllBare s.gens
 base:Un X.fs X.ex X.H₀ H X.s₀.heap s.heap
 loc:∃m,s.heap.Ns X.env.locals m/\∀(i:Nat) (x:Str) (v:V),X.N[i]?=some x->σ[i]?=some (some v)->Vis X.env.scope x->∃u,X9 v u/\S8 X.env s.heap m x u
 cell:∀x c,X.env.cells.lookup x=some c->∃v,s.heap.IsCell c v
 free:H X.env.locals=none
 freeC:∀x c,X.env.cells.lookup x=some c->H c=none
 pin:∀p∈X.pn++pins,s.heap.get? p.1=some p.2/\H p.1=none/\p.1≠X.env.locals/\p.1∉X.fs/\∀v,p.2.data≠ .cell v
 hok:HOk X.prog X.w H s.heap
 len:σ.length=X.N.length
section
variable {X:Cx}{pins:List (Addr×Obj)}{σ:List (Option V)}{H H':Hp}{s:Shared}{h':Heap}
theorem Cx.Ok.nofr (ok:X.Ok){b:Addr}{o:Obj}(e:X.base.get? b=some o):b∉X.fs:=λhb=>by
 have:=(ok.funs.mem hb).1
 rw[e] at this;cases this
theorem Inv.bs (I:Inv X pins σ H s):∀b o,X.base.get? b=some o->s.heap.get? b=some o/\H b=none:=λb o e=>
 ⟨I.base.keep b o (I.ok.bs b o e).1 (I.ok.bs b o e).2 (I.ok.nofr e) (I.ok.noex b o e),I.base.free b o (I.ok.bs b o e).1 (I.ok.bs b o e).2 (I.ok.noex b o e)⟩
theorem Inv.bk (I:Inv X pins σ H s):∀b o,X.base.get? b=some o->s.heap.get? b=some o:=λb o e=>(I.bs b o e).1
theorem Inv.mod (I:Inv X pins σ H s):Mod X.K X.mg X.base:=I.ok.mod
theorem Inv.kIn (I:Inv X pins σ H s):X.K.In s.heap:=I.ok.mod.kin.keeps I.bk
theorem Inv.lt (I:Inv X pins σ H s):X.env.locals<s.heap.objs.size:=let ⟨_,hn,_⟩:=I.loc;hn.lt
theorem Inv.sz (I:Inv X pins σ H s):X.s₀.heap.objs.size<=s.heap.objs.size:=Nat.le_trans I.ok.above (Nat.le_of_lt I.lt)
theorem Inv.nofs (I:Inv X pins σ H s){a:Addr}(h:s.heap.objs.size<=a):a∉X.fs:=λhb=>by
 obtain⟨_,o,ho,_⟩:=I.ok.funs.mem hb
 exact absurd (Nat.lt_of_lt_of_le (Heap.lt_size ho) (Nat.le_trans I.sz h)) (Nat.lt_irrefl _)
theorem Inv.cne (I:Inv X pins σ H s):∀x c,X.env.cells.lookup x=some c->c≠X.env.locals:=λx c e z=>by
 obtain⟨v,o,ho,hd⟩:=I.cell x c e
 obtain⟨m,⟨o',es,ep,ho',hd',_⟩,_⟩:=I.loc
 rw[z,ho'] at ho;cases ho;rw[hd'] at hd;cases hd
theorem Inv.funs (I:Inv X pins σ H s):s.heap.FunFrames X.base X.outer:=by
 have all:∀(l:List Env),(∀b∈frs l,b∈X.fs)->X.s₀.heap.FunFrames X.base l->s.heap.FunFrames X.base l:=by
  intro l
  induction l with
  |nil=>intro _ _;trivial
  |cons env r ih=>
   intro hs hl
   obtain⟨hk,⟨L,o,hf,hn,ho,hd⟩,hr⟩:=hl
   have hL:L∈X.fs:=hs L (by unfold frs;rw[List.filterMap_cons,hf];exact List.mem_cons_self)
   obtain⟨sl,e⟩:=I.base.slot L o ho (I.ok.frf L hL) hL λz=>I.ok.exfs L z hL
   exact⟨hk,⟨L,_,hf,hn,e,hd⟩,ih (λb hb=>hs b (by unfold frs;rw[List.filterMap_cons,hf];exact List.mem_cons_of_mem _ hb)) hr⟩
 exact all X.outer (λ_ hb=>hb) I.ok.funs
theorem Inv.stack (I:Inv X pins σ H s):s.heap.FunFrames X.base X.stack:=by
 rcases I.ok.stk with e | ⟨e,hf⟩
 ·rw[e];exact I.funs
 ·rw[e]
  obtain⟨m,hn,_⟩:=I.loc
  refine .cons (by rw[I.ok.kind];decide) hf hn ?_ I.funs
  exact Heap.get?_none_of_le (Nat.le_trans I.ok.bsz I.ok.above)
theorem Inv.stkSub (I:Inv X pins σ H s):∀b∈frs X.stack,b∈X.env.locals::X.fs:=λb hb=>by
 rcases I.ok.stk with e | ⟨e,hf⟩
 ·rw[e] at hb;exact List.mem_cons_of_mem _ hb
 ·rw[e] at hb
  unfold frs at hb
  rw[List.filterMap_cons,hf] at hb
  exact hb
theorem Inv.stkFree (I:Inv X pins σ H s):∀b∈frs X.stack,H b=none:=λb hb=>by
 rcases List.mem_cons.mp (I.stkSub b hb) with e |hb
 ·rw[e];exact I.free
 ·obtain⟨_,o,ho,_⟩:=I.ok.funs.mem hb
  exact I.base.free b o ho (I.ok.frf b hb) λz=>I.ok.exfs b z hb
theorem Inv.step {g':Array GenState}{t':Nat}{d':Drawn}{ch:List Addr}(I:Inv X pins σ H s)
  (hch:∀b∈ch,(b∈X.ex∨X.s₀.heap.objs.size<=b)/\b≠X.env.locals/\(∀x c,X.env.cells.lookup x=some c->c≠b)/\∀p∈X.pn++pins,p.1≠b)
  (keep:∀b o,b≠X.env.locals->b∉X.fs->b∉ch->s.heap.get? b=some o->H b=none->h'.get? b=some o)
  (slot:∀b o,b≠X.env.locals->b∈X.fs->b∉ch->s.heap.get? b=some o->H b=none->∃sl,h'.get? b=some {o with slots:=sl})(free:∀b o,b∉ch->s.heap.get? b=some o->H b=none->H' b=none)
  (there:∀b o,b∉ch->s.heap.get? b=some o->∃o',h'.get? b=some o')
  (tups:∀b xs,H b=some (.tup xs)->H' b=some (.tup xs))(frzs:∀b o u,H b=some (.frz o u)->H' b=some (.frz o u))(tbls:∀b ps,H b=some (.tbl ps)->∃more,H' b=some (.tbl (ps++more)))
  (ns:∀m,s.heap.Ns X.env.locals m->h'.Ns X.env.locals m)(hok:HOk X.prog X.w H' h')(hg:AllBare g'):
  Inv X pins σ H' {s with heap:=h',gens:=g',drawn:=d',toks:=t'}:=by
 have neL:∀b o,X.s₀.heap.get? b=some o->b≠X.env.locals:=λb o e=>Nat.ne_of_lt (Nat.lt_of_lt_of_le (Heap.lt_size e) I.ok.above)
 have neC:∀b o,X.s₀.heap.get? b=some o->b∉X.ex->b∉ch:=λb o e hx hb=>by
  rcases(hch b hb).1 with z |z
  ·exact hx z
  ·exact absurd (Nat.lt_of_lt_of_le (Heap.lt_size e) z) (Nat.lt_irrefl _)
 have cellK:∀x c,X.env.cells.lookup x=some c->∀v,s.heap.IsCell c v->h'.IsCell c v:=λx c e v ⟨o,ho,hd⟩=>by
  have nch:c∉ch:=λz=>(hch c z).2.2.1 x c e rfl
  by_cases hc:c∈X.fs
  ·obtain⟨sl,q⟩:=slot c o (I.cne x c e) hc nch ho (I.freeC x c e)
   exact⟨_,q,hd⟩
  ·exact⟨o,keep c o (I.cne x c e) hc nch ho (I.freeC x c e),hd⟩
 refine⟨I.ok,I.os,hg,⟨λb o e n hb hx=>?_,λb o e n hb hx=>?_,λb o e n hx=>?_,λb o e hx=>?_,λb xs e=>tups b xs (I.base.tups b xs e),λb o xs e=>frzs b o xs (I.base.frzs b o xs e),λb ps e=>?_⟩,?_,λx c e=>?_,?_,λx c e=>?_,λp hp=>?_,hok,I.len⟩
 ·exact keep b o (neL b o e) hb (neC b o e hx) (I.base.keep b o e n hb hx) (I.base.free b o e n hx)
 ·obtain⟨sl,e1⟩:=I.base.slot b o e n hb hx
  obtain⟨sl',e2⟩:=slot b _ (neL b o e) hb (neC b o e hx) e1 (I.base.free b o e n hx)
  exact⟨sl',e2⟩
 ·obtain⟨o',e1⟩:=I.base.there b o e hx
  exact free b o' (neC b o e hx) e1 (I.base.free b o e n hx)
 ·obtain⟨o',e1⟩:=I.base.there b o e hx
  exact there b o' (neC b o e hx) e1
 ·obtain⟨m1,e1⟩:=I.base.tbls b ps e
  obtain⟨m2,e2⟩:=tbls b _ e1
  exact⟨m1++m2,by rw[e2,Array.append_assoc]⟩
 ·obtain⟨m,hn,hl⟩:=I.loc
  refine⟨m,ns m hn,λi x v e1 e2 e3=>?_⟩
  obtain⟨u,r,l⟩:=hl i x v e1 e2 e3
  refine⟨u,r,?_⟩
  rcases l with l | ⟨k,c,e,z⟩
  ·exact .inl l
  ·exact .inr ⟨k,c,e,cellK x c e _ z⟩
 ·obtain⟨v,z⟩:=I.cell x c e
  exact⟨v,cellK x c e v z⟩
 ·obtain⟨m,⟨o,_,_,ho,_⟩,_⟩:=I.loc
  exact free _ o (λz=>(hch _ z).2.1 rfl) ho I.free
 ·obtain⟨v,o,ho,hd⟩:=I.cell x c e
  exact free c o (λz=>(hch c z).2.2.1 x c e rfl) ho (I.freeC x c e)
 ·obtain⟨e,n,ne,nf,d⟩:=I.pin p hp
  have nch:p.1∉ch:=λz=>(hch p.1 z).2.2.2 p hp rfl
  exact⟨keep p.1 p.2 ne nf nch e n,free p.1 p.2 nch e n,ne,nf,d⟩
theorem Inv.un {t':Nat}(I:Inv X pins σ H s)(u:Un X.fs [] H H' s.heap h')(hok:HOk X.prog X.w H' h'):Inv X pins σ H' {s with heap:=h',toks:=t'}:=by
 obtain⟨m,⟨o,es,ep,ho,r⟩,_⟩:=id I.loc
 obtain⟨sl,hL⟩:=u.any ho I.free (by simp)
 exact I.step (g':=s.gens) (d':=s.drawn) (ch:=[]) (λ_ z=>nomatch z) (λb o _ hb _ e n=>u.keep b o e n hb (by simp)) (λb o _ hb _ e n=>u.slot b o e n hb (by simp)) (λb o _ e n=>u.free b o e n (by simp)) (λb o _ e=>u.there b o e (by simp)) u.tups u.frzs u.tbls (λm' hm=>by
  obtain⟨o',es',ep',ho',r'⟩:=hm
  rw[ho] at ho';cases ho'
  exact⟨_,es',ep',hL,r'⟩) hok I.bare
theorem Inv.call {g':Array GenState}{t':Nat}{d':Drawn}{ch:List Addr}(I:Inv X pins σ H s)(u:Un (frs X.stack) ch H H' s.heap h')(hok:HOk X.prog X.w H' h')(hg:AllBare g')
  (hch:∀b∈ch,(b∈X.ex∨X.s₀.heap.objs.size<=b)/\b≠X.env.locals/\(∀x c,X.env.cells.lookup x=some c->c≠b)/\∀p∈X.pn++pins,p.1≠b):
  Inv X pins σ H' {s with heap:=h',gens:=g',drawn:=d',toks:=t'}:=by
 obtain⟨m,⟨o,es,ep,ho,r⟩,_⟩:=id I.loc
 obtain⟨sl,hL⟩:=u.any ho I.free λz=>(hch _ z).2.1 rfl
 exact I.step (ch:=ch) hch (λb o hL hb hc e n=>u.keep b o e n (λz=>(List.mem_cons.mp (I.stkSub b z)).elim hL hb) hc) (λb o _ _ hc e n=>u.any e n hc) (λb o hc e n=>u.free b o e n hc) (λb o hc e=>u.there b o e hc) u.tups u.frzs u.tbls (λm' hm=>by
  obtain⟨o',es',ep',ho',r'⟩:=hm
  rw[ho] at ho';cases ho'
  exact⟨_,es',ep',hL,r'⟩) hok hg
theorem Inv.turned {t':Nat}{it:Addr}(I:Inv X pins σ H s)(k:∀b o,b≠it->s.heap.get? b=some o->h'.get? b=some o)(hn:H it=none)(hL:it≠X.env.locals)
  (h1:it∈X.ex∨X.s₀.heap.objs.size<=it)(h2:∀x c,X.env.cells.lookup x=some c->c≠it)(h3:∀p∈X.pn++pins,p.1≠it):Inv X pins σ H {s with heap:=h',toks:=t'}:=by
 have nit:∀b u,H b=some u->b≠it:=λb u e z=>by rw[z,hn] at e;cases e
 refine I.step (g':=s.gens) (d':=s.drawn) (ch:=[it]) (λb hb=>?_) (λb o _ _ hc e _=>k b o (λz=>hc (by simp[z])) e) (λb o _ _ hc e _=>⟨o.slots,k b o (λz=>hc (by simp[z])) e⟩) (λ_ _ _ _ n=>n)
  (λb o hc e=>⟨o,k b o (λz=>hc (by simp[z])) e⟩) (λ_ _ e=>e) (λ_ _ _ e=>e) (λb ps e=>⟨#[],by rw[e];simp⟩) (λm hm=>?_) (λb u e=>?_) I.bare
 ·have e:b=it:=by simpa using hb
  subst e
  exact⟨h1,hL,h2,h3⟩
 ·obtain⟨o,es,ep,ho,r⟩:=hm
  exact⟨o,es,ep,k _ o (Ne.symm hL) ho,r⟩
 ·refine(I.hok b u e).stay (λc v hc q=>k c v ?_ q) (λ_ q=>q) λ_ _ q=>q
  rcases hc with z |z
  ·rw[z];exact nit b u e
  ·exact nit c _ z
theorem Inv.tok (I:Inv X pins σ H s)(t:Nat):Inv X pins σ H {s with toks:=t}:=I.un (h':=s.heap) (t':=t) Un.refl I.hok
theorem Inv.kept {t':Nat}(I:Inv X pins σ H s)(k:∀b u,s.heap.get? b=some u->h'.get? b=some u):Inv X pins σ H {s with heap:=h',toks:=t'}:=I.un (Un.kept k) (I.hok.kept k)
theorem Inv.laid {a:Addr}{o:HO}{t':Nat}(I:Inv X pins σ H s)(k:∀b u,s.heap.get? b=some u->h'.get? b=some u)(hp:s.heap.objs.size<=a)(new:ZA X.prog X.w (upd H a o) h' a o):
  Inv X pins σ (upd H a o) {s with heap:=h',toks:=t'}:=I.un (Un.laid k hp (I.hok.fresh hp)) (I.hok.laid k hp new)
theorem Inv.write {x e:Addr}{o:HO}{t':Nat}(I:Inv X pins σ H s)(mu:Mut (H x))(he:e=x∨H e=some (.own x))(k:∀b u,b≠e->s.heap.get? b=some u->h'.get? b=some u)(heo:∃u,h'.get? e=some u)
  (new:ZA X.prog X.w (upd H x o) h' x o):Inv X pins σ (upd H x o) {s with heap:=h',toks:=t'}:=I.un (Un.write mu he k heo) (I.hok.write mu he k heo new)
theorem Inv.weak {σ':List (Option V)}(I:Inv X pins σ H s)(hl:σ'.length=σ.length)(w:∀(i:Nat) v,σ'[i]?=some (some v)->σ[i]?=some (some v)):Inv X pins σ' H s:=
 ⟨I.ok,I.os,I.bare,I.base,let ⟨m,hn,hl'⟩:=I.loc;⟨m,hn,λi x v e1 e2 e3=>hl' i x v e1 (w i v e2) e3⟩,I.cell,I.free,I.freeC,I.pin,I.hok,hl.trans I.len⟩
theorem Inv.pins_of {pins':List (Addr×Obj)}(I:Inv X pins σ H s)(h:∀p∈pins',s.heap.get? p.1=some p.2/\H p.1=none/\p.1≠X.env.locals/\p.1∉X.fs/\∀v,p.2.data≠ .cell v):Inv X pins' σ H s:=
 ⟨I.ok,I.os,I.bare,I.base,I.loc,I.cell,I.free,I.freeC,λp hp=>(List.mem_append.mp hp).elim (λz=>I.pin p (List.mem_append_left _ z)) (h p),I.hok,I.len⟩
theorem Cb {N:List Str}(hN:N.Nodup){i j:Nat}{x:Str}(a:N[i]?=some x)(b:N[j]?=some x):i=j:=by
 obtain⟨h1,e1⟩:=List.getElem?_eq_some_iff.mp a
 obtain⟨h2,e2⟩:=List.getElem?_eq_some_iff.mp b
 exact(List.getElem_inj hN).mp (e1.trans e2.symm)
theorem G2 {M:Model}{A:Around}{E:Value->Shared->Prop}{i:Nat}{x:Str}{v:V}{u:Value}{Q:Unit->Shared->Prop}(I:Inv X pins σ H s)(hN:X.N.Nodup)(hi:X.N[i]?=some x)(hx:Loc X.env.scope x)(r:X9 v u)
  (h:∀s',Inv X pins (σ.set i (some v)) H s'->(∃a,Heap.SameBut a s.heap s'.heap/\(a=X.env.locals∨X.env.cells.lookup x=some a))->Q () s')(hf:X.fn x=true∨X.env.scope.names.lookup x=some .local:=by first |exact .inl rfl |exact .inr rfl |assumption):wpAny M A (storeName X.env x u) Q E s:=by
 obtain⟨m,hn,hl⟩:=id I.loc
 have hcls:(X.env.scope.kind== .class || (X.env.scope.kind== .module&&X.env.locals !=X.env.globals))=false:=by rw[I.ok.kind];rfl
 have hiσ:i<σ.length:=by rw[I.len];exact(List.getElem?_eq_some_iff.mp hi).1
 have cne:=I.cne
 have tracked:∀{a:Addr}{h':Heap},(∃o,s.heap.get? a=some o/\H a=none)->Heap.SameBut a s.heap h'->HOk X.prog X.w H h':=fun {a h'} ha hs b ob e=>by
  obtain⟨_,_,hfree⟩:=ha
  refine(I.hok b ob e).stay (λc w' hc q=>(hs.2 c ?_).trans q) (λ_ q=>q) λ_ _ q=>q
  rintro rfl
  rcases hc with rfl |hc
  ·rw[hfree] at e;cases e
  ·rw[hfree] at hc;cases hc
 rcases hx with hk |hk
 ·refine wpAny_storeName_local hk hn (λh' hn' hs=>?_) hcls
  obtain⟨oL,_,_,hoL,_⟩:=id hn
  refine h _ ⟨I.ok,I.os,I.bare,⟨λb o e n hb hx=>?_,λb o e n hb hx=>?_,I.base.free,λb o e hx=>?_,I.base.tups,I.base.frzs,I.base.tbls⟩,⟨_,hn',λj y v' e1 e2 e3=>?_⟩,λy c e=>?_,I.free,I.freeC,λp hp=>?_,tracked ⟨oL,hoL,I.free⟩ hs,by simpa using I.len⟩ ⟨_,hs, .inl rfl⟩
  ·exact(hs.2 b (Nat.ne_of_lt (Nat.lt_of_lt_of_le (Heap.lt_size e) I.ok.above))).trans (I.base.keep b o e n hb hx)
  ·obtain⟨sl,e1⟩:=I.base.slot b o e n hb hx
   exact⟨sl,(hs.2 b (Nat.ne_of_lt (Nat.lt_of_lt_of_le (Heap.lt_size e) I.ok.above))).trans e1⟩
  ·obtain⟨o',e1⟩:=I.base.there b o e hx
   exact⟨o',(hs.2 b (Nat.ne_of_lt (Nat.lt_of_lt_of_le (Heap.lt_size e) I.ok.above))).trans e1⟩
  ·by_cases hj:j=i
   ·subst hj
    rw[hi] at e1;cases e1
    rw[List.getElem?_set_self hiσ] at e2
    cases e2
    exact⟨u,r, .inl ⟨hk,by simp⟩⟩
   ·rw[List.getElem?_set_ne (Ne.symm hj)] at e2
    obtain⟨u',r',q⟩:=hl j y v' e1 e2 e3
    refine⟨u',r',?_⟩
    rcases q with⟨k,e⟩ | ⟨k,c,e,z⟩
    ·refine .inl ⟨k,?_⟩
     have:y≠x:=λe=>hj (Cb hN e1 (e▸hi))
     simp[this,e]
    ·exact .inr ⟨k,c,e,z.sameBut hs (cne y c e)⟩
  ·obtain⟨w',z⟩:=I.cell y c e
   exact⟨w',z.sameBut hs (cne y c e)⟩
  ·obtain⟨e,n,ne,nf,d⟩:=I.pin p hp
   exact⟨(hs.2 p.1 ne).trans e,n,ne,nf,d⟩
 ·have hfn:X.fn x=true:=by
   rcases hf with z |z
   ·exact z
   ·rw[z] at hk;cases hk
  obtain⟨c,hc⟩:=I.ok.has x (.inl hk)
  obtain⟨w',z⟩:=I.cell x c hc
  refine wpAny_storeName_cell I.ok.kind hk hc z (λh' hc' hs=>?_)
  obtain⟨oc,hoc,hocd⟩:=id z
  refine h {s with heap:=h'} ⟨I.ok,I.os,I.bare,⟨λb o e n hb hx=>?_,λb o e n hb hx=>?_,I.base.free,λb o e hx=>?_,I.base.tups,I.base.frzs,I.base.tbls⟩,⟨m,hn.sameBut hs (Ne.symm (cne x c hc)),λj y v' e1 e2 e3=>?_⟩,λy c' e=>?_,I.free,I.freeC,λp hp=>?_,tracked ⟨oc,hoc,I.freeC x c hc⟩ hs,by simpa using I.len⟩ ⟨c,hs, .inr hc⟩
  ·exact(hs.2 b (Nat.ne_of_lt (Nat.lt_of_lt_of_le (Heap.lt_size e) (I.ok.cab x c hfn hc)))).trans (I.base.keep b o e n hb hx)
  ·obtain⟨sl,e1⟩:=I.base.slot b o e n hb hx
   exact⟨sl,(hs.2 b (Nat.ne_of_lt (Nat.lt_of_lt_of_le (Heap.lt_size e) (I.ok.cab x c hfn hc)))).trans e1⟩
  ·obtain⟨o',e1⟩:=I.base.there b o e hx
   exact⟨o',(hs.2 b (Nat.ne_of_lt (Nat.lt_of_lt_of_le (Heap.lt_size e) (I.ok.cab x c hfn hc)))).trans e1⟩
  ·by_cases hj:j=i
   ·subst hj
    rw[hi] at e1;cases e1
    rw[List.getElem?_set_self hiσ] at e2
    cases e2
    exact⟨u,r, .inr ⟨.inl hk,c,hc,hc'⟩⟩
   ·rw[List.getElem?_set_ne (Ne.symm hj)] at e2
    obtain⟨u',r',q⟩:=hl j y v' e1 e2 e3
    refine⟨u',r',?_⟩
    rcases q with q | ⟨k,c',e,z'⟩
    ·exact .inl q
    ·refine .inr ⟨k,c',e,z'.sameBut hs ?_⟩
     rintro rfl
     exact hj (Cb hN e1 (I.ok.inj _ _ _ e hc▸hi))
  ·by_cases hcc:c'=c
   ·subst hcc;exact⟨_,hc'⟩
   ·obtain⟨w2,z2⟩:=I.cell y c' e
    exact⟨w2,z2.sameBut hs hcc⟩
  ·obtain⟨e,n,ne,nf,d⟩:=I.pin p hp
   refine⟨(hs.2 p.1 ?_).trans e,n,ne,nf,d⟩
   intro q
   rw[q,hoc] at e
   have q':oc=p.2:=Option.some.inj e
   exact d w' (by rw[←q'];exact hocd)
theorem Qw {M:Model}{A:Around}{E:Value->Shared->Prop}{i:Nat}{x:Str}{v:V}{u:Value}{Q:Unit->Shared->Prop}(I:Inv X pins σ H s)(hN:X.N.Nodup)(hi:X.N[i]?=some x)(hx:Loc X.env.scope x)(r:X9 v u)
  (h:∀s',Inv X pins (σ.set i (some v)) H s'->Q () s')(hf:X.fn x=true∨X.env.scope.names.lookup x=some .local:=by first |exact .inl rfl |exact .inr rfl |assumption):wpAny M A (storeName X.env x u) Q E s:=
 G2 I hN hi hx r (λs' I' _=>h s' I') hf
theorem Inv.call' {s':Shared}{ch:List Addr}(I:Inv X pins σ H s)(ho:s'.os=s.os)(u:Un (frs X.stack) ch H H' s.heap s'.heap)(hok:HOk X.prog X.w H' s'.heap)(hg:AllBare s'.gens)
  (hch:∀b∈ch,(b∈X.ex∨X.s₀.heap.objs.size<=b)/\b≠X.env.locals/\(∀x c,X.env.cells.lookup x=some c->c≠b)/\∀p∈X.pn++pins,p.1≠b):Inv X pins σ H' s':=by
 obtain⟨h',g',d',t',o'⟩:=s'
 have e:o'=s.os:=ho
 subst e
 exact I.call (g':=g') (t':=t') (d':=d') u hok hg hch
end
noncomputable abbrev XK:=Value->Option Addr->Hp->Prop
noncomputable abbrev St:=List (Option V)
noncomputable abbrev VK:=V->Hp->Prop
noncomputable abbrev TE:=St->Hp->VK->Prop
noncomputable abbrev TT:=St->Hp->(Bool->Hp->Prop)->Prop
noncomputable abbrev TA:=St->Hp->(List V->Hp->Prop)->Prop
structure Ends where
 nx:St->Hp->Prop
 rt:VK
 bk:St->Hp->Prop:=λ_ _=>False
 ct:St->Hp->Prop:=λ_ _=>False
noncomputable abbrev TS:=Ends->St->Hp->Prop
noncomputable def EP (X:Cx)(pins:List (Addr×Obj))(σ:St)(Q:VK)(u:Value)(s':Shared):Prop:=∃ v H',Inv X pins σ H' s'/\X9 v u/\Q v H'
noncomputable def TP (X:Cx)(pins:List (Addr×Obj))(σ:St)(Q:Bool->Hp->Prop)(b:Bool)(s':Shared):Prop:=∃ H',Inv X pins σ H' s'/\Q b H'
noncomputable def AP (X:Cx)(pins:List (Addr×Obj))(σ:St)(Q:List V->Hp->Prop)(us:List Value)(s':Shared):Prop:=∃ vs H',Inv X pins σ H' s'/\X5 vs us/\Q vs H'
noncomputable def SP (X:Cx)(pins:List (Addr×Obj))(D:Ends)(f:Flow)(s':Shared):Prop:=
 match f with
 | .next=>∃ σ' H',Inv X pins σ' H' s'/\D.nx σ' H'
 | .brk=>∃ σ' H',Inv X pins σ' H' s'/\D.bk σ' H'
 | .cont=>∃ σ' H',Inv X pins σ' H' s'/\D.ct σ' H'
 | .ret u=>∃ v σ' H',Inv X pins σ' H' s'/\X9 v u/\D.rt v H'
noncomputable def PE (X:Cx)(e:Expr)(t:TE):Prop:=
 ∀(pins:List (Addr×Obj)) (s:Shared) (σ:St) (H:Hp) (Q:VK),Inv X pins σ H s->t σ H Q->wpAny (model X.prog X.w) X.A (eval e X.env) (EP X pins σ Q) X.xe s
noncomputable def PT (X:Cx)(e:Expr)(t:TT):Prop:=
 ∀(pins:List (Addr×Obj)) (s:Shared) (σ:St) (H:Hp) (Q:Bool->Hp->Prop),Inv X pins σ H s->t σ H Q->wpAny (model X.prog X.w) X.A (isTrue e X.env (eval e X.env)) (TP X pins σ Q) X.xe s
noncomputable def PW (X:Cx)(e:Expr)(t:TT):Prop:=
 ∀(whole:Sem Value) (pins:List (Addr×Obj)) (s:Shared) (σ:St) (H:Hp) (Q:Bool->Hp->Prop),Inv X pins σ H s->t σ H Q->wpAny (model X.prog X.w) X.A (isTrue e X.env whole) (TP X pins σ Q) X.xe s
theorem PW.pt {X:Cx}{e:Expr}{t:TT}(h:PW X e t):PT X e t:=h _
noncomputable def PA (X:Cx)(es:List Expr)(t:TA):Prop:=
 ∀(pos:Pos) (pins:List (Addr×Obj)) (s:Shared) (σ:St) (H:Hp) (Q:List V->Hp->Prop),Inv X pins σ H s->t σ H Q->wpAny (model X.prog X.w) X.A (spliced (backTo pos (starEach es X.env))) (AP X pins σ Q) X.xe s
noncomputable def PS (X:Cx)(st:Stmt)(t:TS):Prop:=
 ∀(pins:List (Addr×Obj)) (s:Shared) (σ:St) (H:Hp) (D:Ends),Inv X pins σ H s->t D σ H->wpAny (model X.prog X.w) X.A (exec st X.env) (SP X pins D) X.xe s
noncomputable def PSs (X:Cx)(st:List Stmt)(t:TS):Prop:=
 ∀(pins:List (Addr×Obj)) (s:Shared) (σ:St) (H:Hp) (D:Ends),Inv X pins σ H s->t D σ H->wpAny (model X.prog X.w) X.A (execs st X.env) (SP X pins D) X.xe s
theorem thn {α:Type}{t:Sem α}{Q Q':α->Shared->Prop}{M:Model}{A:Around}{E:Value->Shared->Prop}{s:Shared}(h:wpAny M A t Q E s)(hQ:∀a s,Q a s->Q' a s):wpAny M A t Q' E s:=wpAny_mono h hQ λ_ _ x=>x
section
variable {X:Cx}
noncomputable def JQ (i:Nat):TE:=λσ H Q=>∃ v,σ[i]?=some (some v)/\Q v H
noncomputable def tC (v:V):TE:=λ_ H Q=>Q v H
theorem Po {i:Nat}{x:Str}{pos:Pos}(hN:X.N[i]?=some x)(hv:Vis X.env.scope x)(hd:(x==("__debug__":Str))=false:=by decide)(hcd:(x==("__classdict__":Str))=false:=by decide):PE X (.Name x pos) (JQ i):=by
 intro pins s σ H Q I h
 obtain⟨v,e,h⟩:=h
 obtain⟨m,hn,hl⟩:=I.loc
 obtain⟨u,r,l⟩:=hl i x v hN e hv
 have fin:EP X pins σ Q u s:=⟨v,H,I,r,h⟩
 rcases l with⟨hk,hm⟩ | ⟨hk,c,hc,hcell⟩
 ·exact wpAny_Name (wpAny_loadName_local I.ok.kind hk hn hm fin) hd
 ·rcases hk with hk |hk
  ·exact wpAny_Name (wpAny_loadName_cell I.ok.kind hk hc hcell fin) hd
  ·exact wpAny_Name (wpAny_loadName_free I.ok.kind hk hc hcell fin hcd) hd
theorem Xg {i j pos}:PE X (.Constant (.int i) j pos) (tC (.int i)):=λ_ _ _ H _ I h=>wpAny_Constant_int ⟨.int i,H,I.tok _,⟨_,rfl⟩,h⟩
theorem VT {b j pos}:PE X (.Constant (.bool b) j pos) (tC (.bl b)):=λ_ _ _ H _ I h=>Constant_bool ⟨.bl b,H,I,rfl,h⟩
theorem Z1 {j pos}:PE X (.Constant .none j pos) (tC .non):=λ_ _ _ H _ I h=>Constant_none ⟨.non,H,I,rfl,h⟩
theorem CC {x j pos}:PE X (.Constant (.str x) j pos) (tC (.str x)):=λ_ _ _ H _ I h=>Calls.Constant_str ⟨.str x,H,I.tok _,⟨_,rfl⟩,h⟩
noncomputable def Gl (X:Cx)(x:Str):Prop:=X.env.kindOf x=some .globalImplicit
theorem KD {E:Value->Shared->Prop}{pins:List (Addr×Obj)}{s:Shared}{σ:St}{H:Hp}{x:Str}{u:Value}{pos:Pos}{Q:Value->Shared->Prop}(I:Inv X pins σ H s)(hg:Gl X x)(hm:X.mg x=some u)(h:Q u s)
  (hd:(x==("__debug__":Str))=false:=by decide):wpAny (model X.prog X.w) X.A (eval (.Name x pos) X.env) Q E s:=
 Calls.Name_function_global I.ok.kind hg (Calls.loadGlobal_global (by rw[I.ok.glob];exact I.mod.glob.keeps I.bk) hm h) hd
theorem Kg {E:Value->Shared->Prop}{pins:List (Addr×Obj)}{s:Shared}{σ:St}{H:Hp}{x:Str}{u:Value}{pos:Pos}{Q:Value->Shared->Prop}(I:Inv X pins σ H s)(hg:Gl X x)(hm:X.mg x=none)(hv:bootBuiltins x=some u)(h:Q u s)
  (hn:x≠ "__name__":=by decide)(hd:(x==("__debug__":Str))=false:=by decide):wpAny (model X.prog X.w) X.A (eval (.Name x pos) X.env) Q E s:=by
 obtain⟨mb,h1,h2⟩:=I.mod.blt
 exact Calls.Name_function_global I.ok.kind hg (Calls.loadGlobal_builtin (by rw[I.ok.glob];exact I.mod.glob.keeps I.bk) hm (by rw[I.ok.blt];exact h1.keeps I.bk) ((h2 x hn).trans hv) h) hd
theorem Dh {x:Str}{v:V}{u:Value}{pos:Pos}(hg:Gl X x)(hm:X.mg x=some u)(r:X9 v u)(hd:(x==("__debug__":Str))=false:=by decide):PE X (.Name x pos) (tC v):=
 λ_ _ _ H _ I h=>KD I hg hm ⟨v,H,I,r,h⟩ hd
variable {a b:Expr}{ta tb:TE}{pos:Pos}
noncomputable def PC (X:Cx)(op:CmpOp)(a b:Expr)(t:TE):Prop:=
 ∀(pins:List (Addr×Obj)) (s:Shared) (σ:St) (H:Hp) (Q:VK),Inv X pins σ H s->t σ H Q->
  wpAny (model X.prog X.w) X.A (eval a X.env) (λv s₁=>wpAny (model X.prog X.w) X.A (eval b X.env) (λu s₂=>wpAny (model X.prog X.w) X.A (compareOp op v u) (EP X pins σ Q) X.xe s₂) X.xe s₁) X.xe s
theorem IY (b:Expr){op:CmpOp}(h:op≠ .In)(h2:op≠ .NotIn):behindInMarks op b=false:=by
 have e1:(op==CmpOp.In)=false:=by cases op<;> first |rfl |exact absurd rfl h
 have e2:(op==CmpOp.NotIn)=false:=by cases op<;> first |rfl |exact absurd rfl h2
 cases b<;> simp[behindInMarks,e1,e2]
noncomputable def tB (t:TE):TT:=λσ H Q=>t σ H λx H1=>∃ c,x= .bl c/\Q c H1
theorem LZ {op:CmpOp}{t:TE}(h:PC X op a b t)(h1:behindInMarks op b=false:=by first |exact IY _ (by decide) (by decide) |rfl):PE X (.Compare a [op] [b] pos) t:=λpins s σ H Q I hw=>wpAny_Compare1 (h pins s σ H Q I hw) h1
theorem Kj {e:Expr}{t:TE}(h:PE X e t)(he:∀whole,isTrue e X.env whole=(do let v ←whole;standAt e.pos;holding [v] (truthy v)):=by intro _;rfl):PT X e (tB t):=by
 intro pins s σ H Q I hw
 refine isTrue_plain (thn (h pins s σ H _ I hw) λv s1 r9=>?_) (he _)
 obtain⟨x,H1,I1,r1,q1⟩:=r9
 obtain⟨d,rfl,q⟩:=q1
 cases r1
 exact wpAny_truthy_bool ⟨H1,I1,q⟩
variable {tA tB':TT}{Zu:List Expr}
noncomputable def RP (t u:TT):TT:=λσ H Q=>t σ H λc H1=>if c=true then u σ H1 Q else Q false H1
noncomputable def tOr (t u:TT):TT:=λσ H Q=>t σ H λc H1=>if c=true then Q true H1 else u σ H1 Q
noncomputable def RS (t:TT):TT:=λσ H Q=>t σ H λc H1=>Q (!c) H1
theorem B4 (ha:PT X a tA):PW X (.BoolOp .And [a] pos) tA:=by
 intro wh pins s σ H Q I h
 refine isTrue_and (thn (ha pins s σ H Q I h) λc s1 e=>?_)
 cases c with
 |true=>exact isTrue_and_nil e
 |false=>exact e
theorem L9 (ha:PT X a tA):PW X (.BoolOp .Or [a] pos) tA:=by
 intro wh pins s σ H Q I h
 refine isTrue_or (thn (ha pins s σ H Q I h) λc s1 e=>?_)
 cases c with
 |false=>exact isTrue_or_nil e
 |true=>exact e
theorem Ms (ha:PT X a tA)(hb:PW X (.BoolOp .And (b::Zu) pos) tB'):PW X (.BoolOp .And (a::b::Zu) pos) (RP tA tB'):=by
 intro wh pins s σ H Q I h
 refine isTrue_and (thn (ha pins s σ H _ I h) λc s1 r9=>?_)
 obtain⟨H1,I1,q1⟩:=r9
 cases c with
 |true=>exact hb wh pins s1 σ H1 Q I1 q1
 |false=>exact⟨H1,I1,q1⟩
theorem Ll (ha:PT X a tA)(hb:PW X (.BoolOp .Or (b::Zu) pos) tB'):PW X (.BoolOp .Or (a::b::Zu) pos) (tOr tA tB'):=by
 intro wh pins s σ H Q I h
 refine isTrue_or (thn (ha pins s σ H _ I h) λc s1 r9=>?_)
 obtain⟨H1,I1,q1⟩:=r9
 cases c with
 |true=>exact⟨H1,I1,q1⟩
 |false=>exact hb wh pins s1 σ H1 Q I1 q1
theorem L5 (ha:PT X a tA):PT X (.UnaryOp .Not a pos) (RS tA):=by
 intro pins s σ H Q I h
 exact isTrue_not (ha pins s σ H (λc H1=>Q (!c) H1) I h)
noncomputable def NF (ta tb:TE):TE:=λσ H Q=>ta σ H λx H1=>∃ c,x= .bl c/\if c=true then tb σ H1 Q else Q (.bl false) H1
theorem Ma {op}{t:TE}(h:PE X a t):PE X (.BoolOp op [a] pos) t:=λpins s σ H Q I hw=>BoolOp_one (h pins s σ H Q I hw)
theorem Mf (ha:PE X a ta)(hb:PE X (.BoolOp .And (b::Zu) pos) tb):PE X (.BoolOp .And (a::b::Zu) pos) (NF ta tb):=by
 intro pins s σ H Q I h
 refine BoolOp_and (thn (ha pins s σ H _ I h) λv s1 r9=>?_)
 obtain⟨x,H1,I1,r1,q1⟩:=r9
 obtain⟨c,rfl,q1⟩:=q1
 cases r1
 refine wpAny_truthy_bool ?_
 cases c with
 |true=>exact hb pins s1 σ H1 Q I1 q1
 |false=>exact⟨.bl false,H1,I1,rfl,q1⟩
noncomputable def tIf (t:TT)(ta tb:TE):TE:=λσ H Q=>t σ H λc H1=>if c=true then ta σ H1 Q else tb σ H1 Q
theorem Du {c:Expr}(hc:PT X c tA)(ha:PE X a ta)(hb:PE X b tb):PE X (.IfExp c a b pos) (tIf tA ta tb):=by
 intro pins s σ H Q I h
 refine wpAny_IfExp (thn (hc pins s σ H _ I h) λd s1 r9=>?_)
 obtain⟨H1,I1,q1⟩:=r9
 cases d with
 |true=>exact ha pins s1 σ H1 Q I1 q1
 |false=>exact hb pins s1 σ H1 Q I1 q1
end
noncomputable def SqL (K:PySem.W.Frag)(H:Hp)(a:Addr)(xs:List V):Prop:=
 Rd H a (.lst xs)∨
  ∃(o:Obj) (its:Array Value) (n:Nat),K.lookup a=some o/\o.cls= .type "list" /\o.dict=none/\o.data= .seq its n/\its.size<=sizeLine/\X5 xs its.toList
noncomputable def SqT (K:PySem.W.Frag)(H:Hp)(a:Addr)(xs:List V):Prop:=
 Rd H a (.tup xs)∨
  ∃(o:Obj) (its:Array Value) (n:Nat),K.lookup a=some o/\o.cls= .type "tuple" /\o.data= .seq its n/\its.size<=sizeLine/\X5 xs its.toList
noncomputable def SX:Value->Option V
 | .none=>some .non
 | .bool b=>some (.bl b)
 | .int i _=>some (.int i)
 | .str x _=>some (.str x)
 | .bytes b _=>some (.byt b)
 | .float b _=>some (.flt b)
 | .ref a=>some (.ref a)
 | .type n=>some (.ty n)
 |_=>none
theorem X9.abs {x:V}{u:Value}(r:X9 x u):SX u=some x:=by
 cases x with
 |non=>cases r;rfl
 |bl _=>cases r;rfl
 |int _=>obtain⟨t,rfl⟩:=r;rfl
 |str _=>obtain⟨t,rfl⟩:=r;rfl
 |byt _=>obtain⟨t,rfl⟩:=r;rfl
 |flt _=>obtain⟨t,rfl⟩:=r;rfl
 |ref _=>cases r;rfl
 |ty _=>cases r;rfl
theorem X9.inj {x y:V}{u:Value}(r:X9 x u)(q:X9 y u):x=y:=Option.some.inj (r.abs.symm.trans q.abs)
theorem X5.inj:∀{xs ys:List V}{us:List Value},X5 xs us->X5 ys us->xs=ys:=fun {xs ys us} p=>by
 induction p generalizing ys with
 |nil=>intro q;cases q;rfl
 |cons r _ ih=>intro q;cases q with |cons r' t'=>rw[r.inj r',ih t']
section
variable {X:Cx}{pins:List (Addr×Obj)}{σ:St}{H:Hp}{s:Shared}{a:Addr}{xs ys:List V}
theorem SqL.of {K:PySem.W.Frag}(h:H a=some (.lst xs)):SqL K H a xs:=.inl (.inl h)
theorem SqT.of {K:PySem.W.Frag}(h:H a=some (.tup xs)):SqT K H a xs:=.inl (.inl h)
theorem Inv.list (I:Inv X pins σ H s)(h:SqL X.K H a xs):∃its:List Value,X5 xs its/\PlainL s.heap a its.toArray/\xs.length<=sizeLine:=by
 rcases h with h | ⟨o,its,n,hk,hc,hd,hs,hz,r⟩
 ·obtain⟨z,its,n,r,e⟩:=h.ok I.hok
  exact⟨its,r,⟨_,n,e,rfl,rfl,rfl⟩,z⟩
 ·refine⟨its.toList,r,⟨o,n,I.kIn a o hk,hc,hd,by simpa using hs⟩,?_⟩
  have e:=r.length
  simp only[Array.length_toList] at e
  omega
theorem Inv.tuple (I:Inv X pins σ H s)(h:SqT X.K H a xs):∃its:List Value,X5 xs its/\IsTup s.heap a its.toArray/\xs.length<=sizeLine:=by
 rcases h with h | ⟨o,its,n,hk,hc,hs,hz,r⟩
 ·obtain⟨z,its,r,p⟩:=h.ok I.hok
  exact⟨its,r,p.t,z⟩
 ·refine⟨its.toList,r,⟨o,I.kIn a o hk,hc,n,by simpa using hs⟩,?_⟩
  have e:=r.length
  simp only[Array.length_toList] at e
  omega
theorem Inv.list_inj (I:Inv X pins σ H s)(h:SqL X.K H a xs)(h':SqL X.K H a ys):xs=ys:=by
 obtain⟨its,r,⟨o,n,e,_,_,d⟩,_⟩:=I.list h
 obtain⟨its',r',⟨o',n',e',_,_,d'⟩,_⟩:=I.list h'
 rw[e] at e';cases e'
 rw[d] at d'
 injection d' with d1 _
 have:its=its':=by simpa using congrArg Array.toList d1
 subst this
 exact r.inj r'
theorem Inv.tuple_inj (I:Inv X pins σ H s)(h:SqT X.K H a xs)(h':SqT X.K H a ys):xs=ys:=by
 obtain⟨its,r,⟨o,e,_,n,d⟩,_⟩:=I.tuple h
 obtain⟨its',r',⟨o',e',_,n',d'⟩,_⟩:=I.tuple h'
 rw[e] at e';cases e'
 rw[d] at d'
 injection d' with d1 _
 have:its=its':=by simpa using congrArg Array.toList d1
 subst this
 exact r.inj r'
end
noncomputable abbrev Cx.wish (X:Cx)(E:Value->Shared->Prop):Cx:={X with xe:=E}
noncomputable abbrev Cx.nox (X:Cx):Cx:=X.wish λ_ _=>False
theorem Cx.Ok.wish {X:Cx}(ok:X.Ok)(E:Value->Shared->Prop):(X.wish E).Ok:=
 ⟨ok.mod,ok.kind,ok.glob,ok.blt,ok.above,ok.inj,ok.has,ok.cab,ok.hd,ok.frames,ok.stk,ok.exf,ok.bs,ok.bsz,ok.noex,ok.exfs,ok.funs,ok.frf⟩
theorem Cx.Ok.unwish {X:Cx}{E:Value->Shared->Prop}(ok:(X.wish E).Ok):X.Ok:=
 ⟨ok.mod,ok.kind,ok.glob,ok.blt,ok.above,ok.inj,ok.has,ok.cab,ok.hd,ok.frames,ok.stk,ok.exf,ok.bs,ok.bsz,ok.noex,ok.exfs,ok.funs,ok.frf⟩
section
variable {X:Cx}{pins:List (Addr×Obj)}{σ:St}{H:Hp}{s:Shared}{E:Value->Shared->Prop}
theorem Inv.wish (I:Inv X pins σ H s)(E:Value->Shared->Prop):Inv (X.wish E) pins σ H s:=⟨I.ok.wish E,I.os,I.bare,I.base,I.loc,I.cell,I.free,I.freeC,I.pin,I.hok,I.len⟩
theorem Inv.unwish (I:Inv (X.wish E) pins σ H s):Inv X pins σ H s:=⟨I.ok.unwish,I.os,I.bare,I.base,I.loc,I.cell,I.free,I.freeC,I.pin,I.hok,I.len⟩
theorem SP.unwish {D:Ends}{f:Flow}{s':Shared}(h:SP (X.wish E) pins D f s'):SP X pins D f s':=by
 cases f with
 |next=>obtain⟨σ',H',I,q⟩:=h;exact⟨σ',H',I.unwish,q⟩
 |brk=>obtain⟨σ',H',I,q⟩:=h;exact⟨σ',H',I.unwish,q⟩
 |cont=>obtain⟨σ',H',I,q⟩:=h;exact⟨σ',H',I.unwish,q⟩
 |ret u=>obtain⟨v,σ',H',I,r,q⟩:=h;exact⟨v,σ',H',I.unwish,r,q⟩
theorem PSs.nox {st:List Stmt}{t:TS}(h:PSs X.nox st t):PSs X st t:=λpins s σ H D I hw=>
 wpAny_mono (h pins s σ H D (I.wish _) hw) (λ_ _ q=>q.unwish) λ_ _ z=>False.elim z
end
section
variable {X:Cx}{st:Stmt}{Zu:List Stmt}{t u:TS}{e:Expr}{te:TE}{pos:Pos}
noncomputable def K9:TS:=λD σ H=>D.nx σ H
noncomputable def Zv (t u:TS):TS:=λD σ H=>t {D with nx:=u D} σ H
theorem Xe:PSs X [] K9:=λ_ _ σ H _ I h=>wpAny_execs_nil ⟨σ,H,I,h⟩
theorem Xb (h1:PS X st t)(h2:PSs X Zu u):PSs X (st::Zu) (Zv t u):=by
 intro pins s σ H D I h
 refine wpAny_execs_cons (thn (h1 pins s σ H {D with nx:=u D} I h) λf s1 q=>?_)
 cases f with
 |next=>
  obtain⟨σ',H',I',q⟩:=q
  exact h2 pins s1 σ' H' D I' q
 |ret v=>exact q
 |brk=>exact q
 |cont=>exact q
theorem Inv.quiet {pins:List (Addr×Obj)}{σ:St}{H:Hp}{s:Shared}(I:Inv X pins σ H s):interactive X.env=false:=by simp[interactive,I.ok.kind]
noncomputable def Kw (te:TE):TS:=λD σ H=>te σ H λ_ H1=>D.nx σ H1
theorem XC (he:PE X e te)(hs:swapsWith e none pos.line X.env=pure false:=by rfl):PS X (.Expr e pos) (Kw te):=by
 intro pins s σ H D I h
 exact wpAny_Expr_any (thn (he pins s σ H _ I h) λv s1 r9=>by obtain⟨x,H1,I1,r1,q1⟩:=r9;exact⟨σ,H1,I1,q1⟩) I.quiet hs
noncomputable def RL (te:TE):TS:=λD σ H=>te σ H D.rt
theorem Xx (he:PE X e te):PS X (.Return (some e) pos) (RL te):=by
 intro pins s σ H D I h
 exact wpAny_Return_some (thn (he pins s σ H _ I h) λv s1 r9=>by obtain⟨x,H1,I1,r1,q1⟩:=r9;exact⟨x,σ,H1,I1,r1,q1⟩)
noncomputable def OT (c:TT)(t u:TS):TS:=λD σ H=>c σ H λb H1=>if b=true then t D σ H1 else u D σ H1
theorem Yh {c:Expr}{a b:List Stmt}{tc:TT}(hc:PT X c tc)(ha:PSs X a t)(hb:PSs X b u):PS X (.If c a b pos) (OT tc t u):=by
 intro pins s σ H D I h
 refine wpAny_If (thn (hc pins s σ H _ I h) λd s1 r9=>?_)
 obtain⟨H1,I1,q1⟩:=r9
 cases d with
 |true=>exact ha pins s1 σ H1 D I1 q1
 |false=>exact hb pins s1 σ H1 D I1 q1
end
noncomputable abbrev TG:=V->St->Hp->(St->Hp->Prop)->Prop
noncomputable abbrev TGs:=List V->St->Hp->(St->Hp->Prop)->Prop
noncomputable def PG (X:Cx)(target:Expr)(t:TG):Prop:=
 ∀(pins:List (Addr×Obj)) (s:Shared) (σ:St) (H:Hp) (v:V) (u:Value) (Q:St->Hp->Prop),Inv X pins σ H s->X9 v u->t v σ H Q->
  wpAny (model X.prog X.w) X.A (assign target X.env u) (λ_ s'=>∃ σ' H',Inv X pins σ' H' s'/\Q σ' H') X.xe s
noncomputable def PGs (X:Cx)(ts:List Expr)(t:TGs):Prop:=
 ∀(pins:List (Addr×Obj)) (s:Shared) (σ:St) (H:Hp) (vs:List V) (us:List Value) (Q:St->Hp->Prop),Inv X pins σ H s->X5 vs us->t vs σ H Q->
  wpAny (model X.prog X.w) X.A (assignInOrder ((assignEach ts X.env).map (·.2)) us) (λ_ s'=>∃ σ' H',Inv X pins σ' H' s'/\Q σ' H') X.xe s
noncomputable abbrev R8:=V->V->V->Hp->(Hp->Prop)->Prop
noncomputable def SM (X:Cx)(t:R8):Prop:=
 ∀(pins:List (Addr×Obj)) (s:Shared) (σ:St) (H:Hp) (o i v:V) (ov iv u:Value) (Q:Hp->Prop),Inv X pins σ H s->X9 o ov->X9 i iv->X9 v u->t o i v H Q->
  wpAny (model X.prog X.w) X.A (setItem ov iv u) (λ_ s'=>∃ H',Inv X pins σ H' s'/\Q H') X.xe s
noncomputable abbrev TIp:=V->V->Hp->VK->Prop
noncomputable def PIp (X:Cx)(op:Operator)(t:TIp):Prop:=
 ∀(pins:List (Addr×Obj)) (s:Shared) (σ:St) (H:Hp) (x y:V) (v u:Value) (Q:VK),Inv X pins σ H s->X9 x v->X9 y u->t x y H Q->
  wpAny (model X.prog X.w) X.A (inplaceOp op v u) (EP X pins σ Q) X.xe s
section
variable {X:Cx}{pos:Pos}
noncomputable def YE (i:Nat):TG:=λv σ H Q=>Q (σ.set i (some v)) H
theorem Xi {i:Nat}{x:Str}(hN:X.N.Nodup)(hi:X.N[i]?=some x)(hx:Loc X.env.scope x)(hf:X.fn x=true∨X.env.scope.names.lookup x=some .local:=by first |exact .inl rfl |exact .inr rfl |assumption):PG X (.Name x pos) (YE i):=by
 intro pins s σ H v u Q I r h
 exact wpAny_assign_Name (Qw I hN hi hx r (λs' I'=>⟨_,H,I',h⟩) hf)
noncomputable def NS:TGs:=λvs σ H Q=>vs=[]/\Q σ H
noncomputable def Qm (t:TG)(u:TGs):TGs:=λvs σ H Q=>∃ v r,vs=v::r/\t v σ H λσ' H'=>u r σ' H' Q
theorem QK:PGs X [] NS:=by
 intro pins s σ H vs us Q I r h
 obtain⟨e,h⟩:=h
 subst e
 cases r
 exact assignInOrder_nil ⟨σ,H,I,h⟩
theorem XT {e:Expr}{es:List Expr}{t:TG}{u:TGs}(h1:PG X e t)(h2:PGs X es u)
  (hs:(assignEach (e::es) X.env).map (·.2)=assign e X.env::(assignEach es X.env).map (·.2):=by rfl):PGs X (e::es) (Qm t u):=by
 intro pins s σ H vs us Q I r h
 obtain⟨v,vr,e1,h⟩:=h
 subst e1
 cases r with
 |cons r rr=>
  rw[hs]
  refine assignInOrder_cons (thn (h1 pins s σ H _ _ _ I r h) λ_ s1 r9=>?_)
  obtain⟨σ1,H1,I1,q1⟩:=r9
  exact h2 pins s1 σ1 H1 _ _ Q I1 rr q1
noncomputable def Mj (K:PySem.W.Frag)(n:Nat)(t:TGs):TG:=λv σ H Q=>∃ a xs,v= .ref a/\SqT K H a xs/\xs.length=n/\t xs σ H Q
theorem VG {es:List Expr}{k:Nat}{t:TGs}{n:Nat}(hc:X.calm=true)(h:PGs X es t)
  (hn:(assignEach es X.env).length=n:=by rfl)(hst:(assignEach es X.env).findIdx? (·.1)=none:=by rfl):PG X (.Tuple es k pos) (Mj X.K n t):=by
 intro pins s σ H v u Q I r hw
 obtain⟨a,xs,e1,hq,hl,hw⟩:=hw
 subst e1
 cases r
 obtain⟨its,rv,ht,hz⟩:=I.tuple hq
 refine assign_Tuple_tuple (I.ok.hd hc) ht (by simp[hn, ←hl,rv.length]) hst λh' hx=>?_
 have I1:Inv X pins σ H {s with heap:=h'}:=I.kept (t':=s.toks) λb o e=>hx b o (Nat.ne_of_lt (Heap.lt_size e)) e
 exact h pins _ σ H xs _ Q I1 (by simpa using rv) hw
noncomputable def Sd (to ti:TE)(t:R8):TG:=λv σ H Q=>to σ H λo H1=>ti σ H1 λi H2=>t o i v H2 λH3=>Q σ H3
theorem ET {o i:Expr}{to ti:TE}{t:R8}(ho:PE X o to)(hi:PE X i ti)(hs:SM X t)
  (ha:∀v,assign (.Subscript o i pos) X.env v=(do
   let ov ←holding [v] (eval o X.env)
   let iv ←holding [v,ov] (eval i X.env)
   standAt pos
   holding [v,ov,iv] (setItem ov iv v)
   release [v,ov,iv] []):=by intro _;rfl):PG X (.Subscript o i pos) (Sd to ti t):=by
 intro pins s σ H v u Q I r h
 rw[ha]
 refine wpAny_bind (wpAny_holding (thn (ho pins s σ H _ I h) λov s1 r9=>?_))
 obtain⟨x,H1,I1,r1,q1⟩:=r9
 refine wpAny_bind (wpAny_holding (thn (hi pins s1 σ H1 _ I1 q1) λiv s2 r9=>?_))
 obtain⟨y,H2,I2,r2,q2⟩:=r9
 refine wpAny_bind (wpAny_standAt (wpAny_bind (wpAny_holding (thn (hs pins s2 σ H2 x y v ov iv u _ I2 r1 r2 r q2) λ_ s3 r9=>?_))))
 obtain⟨H3,I3,q3⟩:=r9
 exact wpAny_release ⟨σ,H3,I3,q3⟩
noncomputable def Bf (te:TE)(g:TG):TS:=λD σ H=>te σ H λx H1=>g x σ H1 D.nx
theorem DP {tg e:Expr}{te:TE}{g:TG}(he:PE X e te)(hg:PG X tg g)(hs:swapsWithSole [tg] e pos.line X.env=pure false:=by rfl)(hw:swappedStores [tg] e X.env=pure none:=by rfl)
  (h1:(assignEach [tg] X.env).map (·.2)=[assign tg X.env]:=by rfl):PS X (.Assign [tg] e pos) (Bf te g):=by
 intro pins s σ H D I h
 refine wpAny_Assign_stores (thn (he pins s σ H _ I h) λv s1 r9=>?_) hs hw
 obtain⟨x,H1,I1,r1,q1⟩:=r9
 rw[h1]
 exact thn (hg pins s1 σ H1 x v _ I1 r1 q1) λ_ s2 q=>q
theorem Xk {i:Nat}{x:Str}{e:Expr}{te:TE}{pos':Pos}(hN:X.N.Nodup)(hi:X.N[i]?=some x)(hx:Loc X.env.scope x)(he:PE X e te)(hs:swapsWith e (some (.Name x pos')) pos.line X.env=pure false:=by rfl)(hf:X.fn x=true∨X.env.scope.names.lookup x=some .local:=by first |exact .inl rfl |exact .inr rfl |assumption):
  PS X (.Assign [.Name x pos'] e pos) (Bf te (YE i)):=by
 intro pins s σ H D I h
 refine wpAny_Assign_Name (thn (he pins s σ H _ I h) λv s1 r9=>?_) hs
 obtain⟨y,H1,I1,r1,q1⟩:=r9
 exact Qw I1 hN hi hx r1 (λs2 I2=>⟨_,H1,I2,q1⟩) hf
noncomputable def RD (i:Nat)(te:TE)(ti:TIp):TS:=λD σ H=>∃ x,σ[i]?=some (some x)/\te σ H λy H1=>ti x y H1 λz H2=>D.nx (σ.set i (some z)) H2
theorem HS {i:Nat}{x:Str}{e:Expr}{te:TE}{op:Operator}{ti:TIp}{pos':Pos}(hN:X.N.Nodup)(hi:X.N[i]?=some x)(hx:Loc X.env.scope x)(he:PE X e te)(ho:PIp X op ti)(hf:X.fn x=true∨X.env.scope.names.lookup x=some .local:=by first |exact .inl rfl |exact .inr rfl |assumption):
  PS X (.AugAssign (.Name x pos') op e pos) (RD i te ti):=by
 intro pins s σ H D I h
 obtain⟨v,e1,h⟩:=h
 obtain⟨m,hn,hl⟩:=I.loc
 have vis:Vis X.env.scope x:=by rcases hx with k |k;exact .inl k;exact .inr (.inl k)
 obtain⟨u,r,l⟩:=hl i x v hi e1 vis
 refine wpAny_AugAssign_Name ?_
 have go:wpAny (model X.prog X.w) X.A (eval e X.env) (λw s₂=>wpAny (model X.prog X.w) X.A (inplaceOp op u w) (λr s₃=>wpAny (model X.prog X.w) X.A (storeName X.env x r) (λ_=>SP X pins D .next) X.xe s₃) X.xe s₂) X.xe s:=by
  refine thn (he pins s σ H _ I h) λw s1 r9=>?_
  obtain⟨y,H1,I1,r1,q1⟩:=r9
  refine thn (ho pins s1 σ H1 v y u w _ I1 r r1 q1) λz s2 r9=>?_
  obtain⟨zv,H2,I2,r2,q2⟩:=r9
  exact Qw I2 hN hi hx r2 (λs3 I3=>⟨_,H2,I3,q2⟩) hf
 rcases l with⟨hk,hm⟩ | ⟨hk,c,hc,hcell⟩
 ·exact wpAny_loadName_local I.ok.kind hk hn hm go
 ·rcases hk with hk |hk
  ·exact wpAny_loadName_cell I.ok.kind hk hc hcell go
  ·rcases hx with k |k
   ·have:X.env.scope.names.lookup x=some .free:=hk
    rw[k] at this;cases this
   ·have:X.env.scope.names.lookup x=some .free:=hk
    rw[k] at this;cases this
noncomputable def ipI (f:Int->Int->Int):TIp:=λx y H Q=>∃ i j,x= .int i/\y= .int j/\Q (.int (f i j)) H
theorem Mu:PIp X .Add (ipI λi j=>i+j):=by
 intro pins s σ H x y v u Q I r1 r2 h
 obtain⟨i,j,e1,e2,q⟩:=h
 subst e1;subst e2
 obtain⟨t,rfl⟩:=r1
 obtain⟨t',rfl⟩:=r2
 exact iadd_int ⟨.int _,H,I.tok _,⟨_,rfl⟩,q⟩
end
section
variable {X:Cx}{pos:Pos}
noncomputable def CG (c:TT)(tb:TS):TS:=λD σ H=>∃ W:Nat->St->Hp->Prop,(∃m,W m σ H)/\∀m σ H,W m σ H->
 c σ H λb H1=>if b=true then ∃N:St->Hp->Prop,(∀σ' H',N σ' H'->∃m',m'<m/\W m' σ' H')/\tb {D with nx:=N,ct:=N,bk:=D.nx} σ H1 else D.nx σ H1
theorem KY {c:Expr}{body:List Stmt}{tc:TT}{tb:TS}(hp:PassesOwn (model X.prog X.w) X.A X.env X.xe)(hc:PT X c tc)(hb:PSs X body tb):PS X (.While c body [] pos) (CG tc tb):=by
 intro pins s σ H D I h
 obtain⟨W,⟨m0,w0⟩,turn⟩:=h
 refine wpAny_While (codeAny_whileLoop (λn s'=>∃ σ' H',Inv X pins σ' H' s'/\W n σ' H') ?_ m0 ⟨σ,H,I,w0⟩)
 rintro n s1 ⟨σ1,H1,I1,w1⟩
 refine wpAny_passesOwn hp (thn (hc pins s1 σ1 H1 _ I1 (turn n σ1 H1 w1)) λb s2 r9=>?_)
 obtain⟨H2,I2,q2⟩:=r9
 cases b with
 |true=>
  obtain⟨N,hN,q2⟩:=q2
  rw[if_pos rfl]
  refine wpAny_passesOwn hp (thn (hb pins s2 σ1 H2 _ I2 q2) λf s3 q3=>?_)
  cases f with
  |next=>
   obtain⟨σ3,H3,I3,n3⟩:=q3
   obtain⟨m',hm,w3⟩:=hN σ3 H3 n3
   exact⟨m',hm,σ3,H3,I3,w3⟩
  |cont=>
   obtain⟨σ3,H3,I3,n3⟩:=q3
   obtain⟨m',hm,w3⟩:=hN σ3 H3 n3
   exact⟨m',hm,σ3,H3,I3,w3⟩
  |brk=>exact q3
  |ret v=>exact q3
 |false=>
  rw[if_neg Bool.false_ne_true]
  exact wpAny_execs_nil ⟨σ1,H2,I2,q2⟩
end
structure It where
 go:Nat->Hp->Prop
 yld:Nat->Hp->V->Hp->Prop
 stop:Nat->Hp->Prop
noncomputable def Fj (X:Cx)(pins:List (Addr×Obj))(H:Hp)(b:Addr):Prop:=
 H b=none/\b≠X.env.locals/\b∉X.fs/\(b∈X.ex∨X.s₀.heap.objs.size<=b)/\(∀x c,X.env.cells.lookup x=some c->c≠b)/\∀p∈X.pn++pins,p.1≠b
theorem Inv.fpOk {X:Cx}{pins:List (Addr×Obj)}{σ:St}{H H':Hp}{s:Shared}{b:Addr}(I:Inv X pins σ H s)(hb:s.heap.objs.size<=b)(hn:H' b=none):Fj X pins H' b:=by
 refine⟨hn,Nat.ne_of_gt (Nat.lt_of_lt_of_le I.lt hb),I.nofs hb, .inr (Nat.le_trans I.sz hb),λx c e z=>?_,λp hp z=>?_⟩
 ·obtain⟨v,q⟩:=I.cell x c e
  exact absurd (Nat.lt_of_lt_of_le q.lt (by rw[z];exact hb)) (Nat.lt_irrefl _)
 ·exact absurd (Nat.lt_of_lt_of_le (Heap.lt_size (I.pin p hp).1) (by rw[z];exact hb)) (Nat.lt_irrefl _)
structure Turn (P:Program)(w:World)(K:PySem.W.Frag)(tg:Expr)(J:It)(fp:List Addr)(it:Addr)(tn:Nat->Heap->Prop):Prop where
 mem:it∈fp
 obj:∀i h,tn i h->∀b∈fp,∃o,h.get? b=some o/\∀v,o.data≠ .cell v
 keep:∀i h h',tn i h->(∀b∈fp,∀o,h.get? b=some o->h'.get? b=some o)->tn i h'
 item:∀(X:Cx),X.prog=P->X.w=w->X.K=K->X.calm=true->∀(i:Nat) (pins:List (Addr×Obj)) (s:Shared) (σ:St) (H:Hp) (E:Value->Shared->Prop),Inv X pins σ H s->(∀b∈fp,Fj X pins H b)->tn i s.heap->J.go i H->
  wpAny (model P w) X.A (pyNext (.ref it)) (λr s1=>∃ u,r=some u/\
   wpAny (model P w) X.A (letOwnedTupleGo tg (.ref it) u) (λ_ s2=>∃ x H',Inv X pins σ H' s2/\X9 x u/\J.yld i H x H'/\tn (i+1) s2.heap/\∀b∈fp,H' b=none) E s1) E s
 done:∀(X:Cx),X.prog=P->X.w=w->X.K=K->X.calm=true->∀(i:Nat) (pins:List (Addr×Obj)) (s:Shared) (σ:St) (H:Hp) (E:Value->Shared->Prop),Inv X pins σ H s->(∀b∈fp,Fj X pins H b)->tn i s.heap->J.stop i H->
  wpAny (model P w) X.A (pyNext (.ref it)) (λr s1=>r=none/\Inv X pins σ H s1) E s
 self:∀(A:Around) (i:Nat) (s:Shared) (Q:Value->Shared->Prop) (E:Value->Shared->Prop),tn i s.heap->Q (.ref it) s->wpAny (model P w) A (pyIter (.ref it)) Q E s
noncomputable abbrev TI:=St->Hp->(It->Hp->Prop)->Prop
noncomputable def PIE (X:Cx)(pins:List (Addr×Obj))(σ:St)(tg:Expr)(R:It->Hp->Prop)(itv:Value)(s2:Shared):Prop:=
 ∃(it:Addr) (fp:List Addr) (tn:Nat->Heap->Prop) (J:It) (H':Hp),itv= .ref it/\Inv X pins σ H' s2/\Turn X.prog X.w X.K tg J fp it tn/\tn 0 s2.heap/\(∀b∈fp,Fj X pins H' b)/\R J H'
noncomputable def PI (X:Cx)(tg iter:Expr)(wi:TI):Prop:=
 ∀(pins:List (Addr×Obj)) (s:Shared) (σ:St) (H:Hp) (R:It->Hp->Prop),Inv X pins σ H s->wi σ H R->
  wpAny (model X.prog X.w) X.A (eval iter X.env) (λv s1=>wpAny (model X.prog X.w) X.A (pyIter v) (PIE X pins σ tg R) X.xe s1) X.xe s
theorem MO {M:Model}{A:Around}{E:Value->Shared->Prop}{s:Shared}{tg:Expr}{it:Addr}{u:Value}{o:Obj}{n:String}{vs:Array Value}{Q:Unit->Shared->Prop}(ho:s.heap.get? it=some o)(hc:o.cls= .type n)(hd:o.data= .fields vs)
    (hn: ["enumerate","zip","dict_itemiterator","dict_reverseitemiterator","odict_iterator","itertools.zip_longest","itertools.pairwise"].contains n=false)(hQ:Q () s):wpAny M A (letOwnedTupleGo tg (.ref it) u) Q E s:=by
  unfold letOwnedTupleGo
  cases tg<;> first
    |exact wpAny_pure hQ
    | (cases u<;> first
        |exact wpAny_pure hQ
        | (refine wpAny_bind (wpAny_load ho ?_)
           rw[hc,hd]
           show wpAny M A (if(["enumerate","zip","dict_itemiterator","dict_reverseitemiterator","odict_iterator","itertools.zip_longest","itertools.pairwise"].contains n&&vs[0]?==some (rawInt _))=true then _ else _) Q E s
           rw[if_neg (by intro h;rw[hn,Bool.false_and] at h;cases h)]
           exact wpAny_pure hQ))
noncomputable def Itl (K:PySem.W.Frag)(a:Addr):It:=
 ⟨λi H=>∃ xs x,SqL K H a xs/\xs[i]?=some x,λi H x H'=>H'=H/\∀xs,SqL K H a xs->xs[i]?=some x,λi H=>∃ xs,SqL K H a xs/\xs.length<=i⟩
noncomputable def Itr (lo:Int)(n:Nat):It:=⟨λi _=>i<n,λi H x H'=>H'=H/\x= .int (lo+i),λi _=>n<=i⟩
theorem Ez {P:Program}{w:World}{K:PySem.W.Frag}{tg:Expr}(a it:Addr):Turn P w K tg (Itl K a) [it] it (λi h=>h.IsListIter it a i) where
 mem:=by simp
 obj:=λi h st b hb=>by
  have e:b=it:=by simpa using hb
  subst e
  obtain⟨o,e,c,d⟩:=st
  exact⟨o,e,λv z=>by rw[d] at z;cases z⟩
 keep:=λi h h' st k=>st.at λo e=>k it (by simp) o e
 item:=by
  intro X hP hw hK hc i pins s σ H E I hf st hg
  subst hP hw hK
  obtain⟨xs,x,hq,hx⟩:=hg
  obtain⟨its,rv,p,hz⟩:=I.list hq
  obtain⟨u,hu,ru⟩:=rv.get hx
  obtain⟨f0,f1,f2,f3,f4,f5⟩:=hf it (by simp)
  refine wpAny_pyNext_list_item st p.isList (x:=u) (by simpa using hu) λh' st' sb=>?_
  have I1:Inv X pins σ H {s with heap:=h'}:=I.turned (t':=s.toks) (λb o hb e=>(sb.2 b hb).trans e) f0 f1 f3 f4 f5
  obtain⟨o,e,c,d⟩:=id st'
  exact⟨u,rfl,MO (s:={s with heap:=h'}) e c d (by decide) ⟨x,H,I1,ru,⟨rfl,λys hy=>by rw[I.list_inj hy hq];exact hx⟩,st',λb hb=>(hf b hb).1⟩⟩
 done:=by
  intro X hP hw hK hc i pins s σ H E I hf st hg
  subst hP hw hK
  obtain⟨xs,hq,hx⟩:=hg
  obtain⟨its,rv,p,hz⟩:=I.list hq
  obtain⟨f0,f1,f2,f3,f4,f5⟩:=hf it (by simp)
  have hl:=rv.length
  exact wpAny_pyNext_list_end (I.ok.hd hc) st p.isList (by simp;omega) λh' eb=>⟨rfl,I.turned (t':=s.toks) (λb o hb e=>eb b o hb e) f0 f1 f3 f4 f5⟩
 self:=λ_ _ _ _ _ st h=>wpAny_pyIter_listiter st h
theorem By {P:Program}{w:World}{K:PySem.W.Frag}{tg:Expr}(it:Addr)(lo:Int)(n:Nat):Turn P w K tg (Itr lo n) [it] it (λi h=>IsRangeIter h it (lo+(i:Nat)*1) ((n:Int)-(i:Nat)) 1) where
 mem:=by simp
 obj:=λi h st b hb=>by
  have e:b=it:=by simpa using hb
  subst e
  exact⟨_,st,λv z=>by
   have z':Data.fields _=Data.cell v:=z
   cases z'⟩
 keep:=λi h h' st k=>k it (by simp) _ st
 item:=by
  intro X hP hw hK hc i pins s σ H E I hf st hg
  subst hP hw hK
  obtain⟨f0,f1,f2,f3,f4,f5⟩:=hf it (by simp)
  have W:=Walks.range (prog:=X.prog) (w:=X.w) (I.ok.hd hc) it lo 1 n
  refine W.item i s _ _ hg st λv h' tk hv st' kk=>?_
  obtain⟨t,rfl⟩:=hv
  have I1:Inv X pins σ H {s with heap:=h',toks:=tk}:=I.turned (λb o hb e=>kk b o (by simpa using hb) e) f0 f1 f3 f4 f5
  refine⟨_,rfl,MO (s:={s with heap:=h',toks:=tk}) (n:="range_iterator") st' rfl rfl (by decide) ⟨.int (lo+i),H,I1,⟨t,?_⟩,⟨rfl,rfl⟩,st',λb hb=>(hf b hb).1⟩⟩
  rw[Int.mul_one]
 done:=by
  intro X hP hw hK hc i pins s σ H E I hf st hg
  subst hP hw hK
  obtain⟨f0,f1,f2,f3,f4,f5⟩:=hf it (by simp)
  exact wpAny_pyNext_range_end (I.ok.hd hc) st (by have:n<=i:=hg;omega) λh' eb=>⟨rfl,I.turned (t':=s.toks) (λb o hb e=>eb b o hb e) f0 f1 f3 f4 f5⟩
 self:=λ_ _ _ _ _ st h=>wpAny_pyIter_rangeiter st h
section
variable {X:Cx}{tg:Expr}
noncomputable def Ff (K:PySem.W.Frag)(tl:TE):TI:=λσ H R=>tl σ H λx H1=>∃ a,x= .ref a/\(∃xs,SqL K H1 a xs)/\R (Itl K a) H1
theorem MM {l:Expr}{tl:TE}(hl:PE X l tl):PI X tg l (Ff X.K tl):=by
 intro pins s σ H R I h
 refine thn (hl pins s σ H _ I h) λv s1 r9=>?_
 obtain⟨x,H1,I1,r1,q1⟩:=r9
 obtain⟨a,e,⟨xs,hq⟩,q⟩:=q1
 subst e
 cases r1
 obtain⟨its,rv,p,hz⟩:=I1.list hq
 refine wpAny_pyIter_list p.isList ?_
 refine⟨s1.heap.objs.size,[s1.heap.objs.size],_,_,H1,rfl,I1.kept (t':=s1.toks) λb o e=>Heap.get?_push_of_some _ e,Ez a _,⟨_,Heap.get?_push_size _ rfl,rfl,rfl⟩,λb hb=>?_,q⟩
 have e:b=s1.heap.objs.size:=by simpa using hb
 subst e
 exact I1.fpOk (Nat.le_refl _) (I1.hok.fresh (Nat.le_refl _))
theorem DM {pins:List (Addr×Obj)}{σ:St}{H:Hp}{s:Shared}{R:It->Hp->Prop}{E:Value->Shared->Prop}{lo hi:Int}{t u v:Tok}{tk:Nat}(I:Inv X pins σ H s)(h1: -(2^62)<=lo)(h2:lo<2^62)(h3: -(2^62)<=hi)(h4:hi<2^62)
  (q:R (Itr lo (hi-lo).toNat) H):wpAny (model X.prog X.w) X.A (pyIter (.ref s.heap.objs.size)) (PIE X pins σ tg R) E {s with heap:=s.heap.push {cls:=.type "range",data:=.fields #[.int lo t, .int hi u, .int 1 v]},toks:=tk}:=by
 refine wpAny_pyIter_range (IsRange.new ..) (small_one h1 h2 h3 h4) ?_
 have I1:Inv X pins σ H {s with heap:=s.heap.push {cls:=.type "range",data:=.fields #[.int lo t, .int hi u, .int 1 v]},toks:=tk}:=I.kept λb o e=>Heap.get?_push_of_some _ e
 refine⟨(s.heap.push {cls:=.type "range",data:=.fields #[.int lo t, .int hi u, .int 1 v]}).objs.size,[(s.heap.push {cls:=.type "range",data:=.fields #[.int lo t, .int hi u, .int 1 v]}).objs.size],_,_,H,rfl,
  I1.kept (t':=tk) λb o e=>Heap.get?_push_of_some _ e,By _ lo (hi-lo).toNat,?_,λb hb=>?_,q⟩
 ·have e1:lo+((0:Nat):Int)*1=lo:=by simp
  have e2:(((hi-lo).toNat:Nat):Int)-((0:Nat):Int)=Builtin.Range.rangeSize lo hi 1:=by rw[rangeSize_one];split<;> omega
  show IsRangeIter _ _ (lo+((0:Nat):Int)*1) ((((hi-lo).toNat:Nat):Int)-((0:Nat):Int)) 1
  rw[e1,e2]
  exact Heap.get?_push_size _ rfl
 ·have e:b=(s.heap.push {cls:= .type "range",data:= .fields #[.int lo t, .int hi u, .int 1 v]}).objs.size:=by simpa using hb
  subst e
  exact I1.fpOk (Nat.le_refl _) (I1.hok.fresh (Nat.le_refl _))
noncomputable def N1 (ta:TA):TI:=λσ H R=>ta σ H λvs H1=>∃ j:Int,vs=[.int j]/\ -(2^62)<=j/\j<2^62/\R (Itr 0 j.toNat) H1
noncomputable def Nh (ta:TA):TI:=λσ H R=>ta σ H λvs H1=>∃ i j:Int,vs=[.int i, .int j]/\(-(2^62)<=i/\i<2^62/\ -(2^62)<=j/\j<2^62)/\R (Itr i (j-i).toNat) H1
theorem Xy {a:Expr}{ta:TA}{p pos:Pos}(hg:Gl X "range")(hm:X.mg "range" =none)(ha:PA X [a] ta)(hs:starEach [a] X.env=[(false,eval a X.env)]:=by rfl):PI X tg (.Call (.Name "range" p) [a] [] pos) (N1 ta):=by
 intro pins s σ H R I h
 refine Call_ (Kg I hg hm boot_range (PyProof.Rows.callWith_type1 (thn (ha pos pins s σ H _ I h) λus s1 r9=>?_) hs rfl))
 obtain⟨vs,H1,I1,r1,q1⟩:=r9
 obtain⟨j,e,q1,q2,q⟩:=q1
 subst e
 cases r1 with
 |cons r rr=>
  cases rr
  obtain⟨t,rfl⟩:=r
  exact call_range_1 (DM I1 (by omega) (by omega) q1 q2 (by simpa using q))
theorem GT {a b:Expr}{ta:TA}{p pos:Pos}(hg:Gl X "range")(hm:X.mg "range" =none)(ha:PA X [a,b] ta)(hs:starEach [a,b] X.env=[(false,eval a X.env),(false,eval b X.env)]:=by rfl)(hs2:starEach [b] X.env=[(false,eval b X.env)]:=by rfl):
  PI X tg (.Call (.Name "range" p) [a,b] [] pos) (Nh ta):=by
 intro pins s σ H R I h
 refine Call_ (Kg I hg hm boot_range (PyProof.Rows.callWith_type1 (thn (ha pos pins s σ H _ I h) λus s1 r9=>?_) (by rw[hs,hs2]) (by rw[hs2];rfl)))
 obtain⟨vs,H1,I1,r1,q1⟩:=r9
 obtain⟨i,j,e,⟨q1,q2,q3,q4⟩,q⟩:=q1
 subst e
 cases r1 with
 |cons r rr=>
  cases rr with
  |cons r' rr=>
   cases rr
   obtain⟨t,rfl⟩:=r
   obtain⟨t',rfl⟩:=r'
   exact call_range_2 (DM I1 q1 q2 q3 q4 q)
noncomputable def Iq (wi:TI)(g:TG)(tb:TS):TS:=λD σ H=>wi σ H λJ H1=>∃ W:Nat->Nat->St->Hp->Prop,(∃m,W 0 m σ H1)/\∀i m σ H,W i m σ H->
 (J.stop i H/\D.nx σ H)∨(J.go i H/\∃N:St->Hp->Prop,(∀σ' H',N σ' H'->∃m',m'<m/\W (i+1) m' σ' H')/\∀x H',J.yld i H x H'->g x σ H' λσ2 H2=>tb {D with nx:=N,ct:=N,bk:=D.nx} σ2 H2)
noncomputable def G4 (fp:List Addr)(h:Heap):List (Addr×Obj):=fp.filterMap λb=>(h.get? b).map λo=>(b,o)
theorem Vp {fp:List Addr}{h:Heap}{b:Addr}{o:Obj}(hb:b∈fp)(e:h.get? b=some o):(b,o)∈G4 fp h:=List.mem_filterMap.mpr ⟨b,hb,by rw[e];rfl⟩
theorem BY {fp:List Addr}{h:Heap}{p:Addr×Obj}(hp:p∈G4 fp h):p.1∈fp/\h.get? p.1=some p.2:=by
 obtain⟨b,hb,e⟩:=List.mem_filterMap.mp hp
 cases q:h.get? b with
 |none=>rw[q] at e;cases e
 |some o=>
  rw[q] at e
  have e':(b,o)=p:=Option.some.inj e
  subst e'
  exact⟨hb,q⟩
theorem Inv.pinned {pins:List (Addr×Obj)}{σ:St}{H:Hp}{s:Shared}{fp:List Addr}(I:Inv X pins σ H s)(hf:∀b∈fp,Fj X pins H b)(ho:∀b∈fp,∃o,s.heap.get? b=some o/\∀v,o.data≠ .cell v):Inv X (pins++G4 fp s.heap) σ H s:=
 I.pins_of λp hp=>(List.mem_append.mp hp).elim (λz=>I.pin p (List.mem_append_right _ z)) λz=>by
  obtain⟨hb,e⟩:=BY z
  obtain⟨f0,f1,f2,_⟩:=hf p.1 hb
  obtain⟨o,e',d⟩:=ho p.1 hb
  rw[e] at e';cases e'
  exact⟨e,f0,f1,f2,d⟩
theorem Inv.unpinned {pins pl:List (Addr×Obj)}{σ:St}{H:Hp}{s:Shared}(I:Inv X (pins++pl) σ H s):Inv X pins σ H s:=I.pins_of λp hp=>I.pin p (List.mem_append_right _ (List.mem_append_left _ hp))
theorem XG {iter:Expr}{body:List Stmt}{wi:TI}{g:TG}{tb:TS}{pos:Pos}(hp:PassesOwn (model X.prog X.w) X.A X.env X.xe)(hc:X.calm=true)(hi:PI X tg iter wi)(hg:PG X tg g)(hb:PSs X body tb)
  (hs:∀x,foldedSetIterable iter X.env x=pure x:=by intro _;rfl):PS X (.For tg iter body [] pos) (Iq wi g tb):=by
 intro pins s σ H D I h
 refine wpAny_For (thn (hi pins s σ H _ I h) λv s1 h1=>thn h1 λitv s2 h2=>?_) hs
 obtain⟨it,fp,tn,J,H2,e,I2,T,st2,f2,W,⟨m0,w0⟩,turn⟩:=h2
 subst e
 -- what stays true of the iterator's objects through the loop
 have stat:∀{H':Hp},(∀b∈fp,H' b=none)->∀b∈fp,Fj X pins H' b:=λhn b hb=>⟨hn b hb,(f2 b hb).2⟩
 refine codeAny_forLoop_any (λn s'=>∃ i σ' H',Inv X pins σ' H' s'/\tn i s'.heap/\(∀b∈fp,H' b=none)/\W i n σ' H') ?_ m0 ⟨0,σ,H2,I2,st2,λb hb=>(f2 b hb).1,w0⟩
 rintro n s3 ⟨i,σ3,H3,I3,st3,fr3,w3⟩
 rcases turn i n σ3 H3 w3 with⟨stop,qn⟩ | ⟨go,N,hN,step⟩
 ·refine wpAny_passesOwn hp (thn (T.done X rfl rfl rfl hc i pins s3 σ3 H3 X.xe I3 (stat fr3) st3 stop) λr s4 r9=>?_)
  obtain⟨hr,I4⟩:=r9
  subst hr
  exact wpAny_execs_nil ⟨σ3,H3,I4,qn⟩
 ·refine wpAny_passesOwn hp (thn (T.item X rfl rfl rfl hc i pins s3 σ3 H3 X.xe I3 (stat fr3) st3 go) λr s4 r9=>?_)
  obtain⟨u,hr,h4⟩:=r9
  subst hr
  refine wpAny_passesOwn hp (thn h4 λ_ s5 r9=>?_)
  obtain⟨x,H5,I5,r5,y5,st5,fr5⟩:=r9
  have I5':=I5.pinned (stat fr5) (T.obj _ _ st5)
  refine wpAny_passesOwn hp (thn (hg _ s5 σ3 H5 x u _ I5' r5 (step x H5 y5)) λ_ s6 r9=>?_)
  obtain⟨σ6,H6,I6,q6⟩:=r9
  refine wpAny_passesOwn hp (thn (hb _ s6 σ6 H6 _ I6 q6) λf s7 q7=>?_)
  have again:∀{σ7:St}{H7:Hp},Inv X (pins++G4 fp s5.heap) σ7 H7 s7->N σ7 H7->∃m,m<n/\∃i σ' H',Inv X pins σ' H' s7/\tn i s7.heap/\(∀b∈fp,H' b=none)/\W i m σ' H':=fun {σ7 H7} I7 n7=>by
   obtain⟨m',hm,w7⟩:=hN σ7 H7 n7
   refine⟨m',hm,i+1,σ7,H7,I7.unpinned,T.keep _ _ _ st5 λb hb o e=>(I7.pin (b,o) (List.mem_append_right _ (List.mem_append_right _ (Vp hb e)))).1,λb hb=>?_,w7⟩
   obtain⟨o,e,d⟩:=T.obj _ _ st5 b hb
   exact(I7.pin (b,o) (List.mem_append_right _ (List.mem_append_right _ (Vp hb e)))).2.1
  cases f with
  |next=>obtain⟨σ7,H7,I7,n7⟩:=q7;exact again I7 n7
  |cont=>obtain⟨σ7,H7,I7,n7⟩:=q7;exact again I7 n7
  |brk=>obtain⟨σ7,H7,I7,q7⟩:=q7;exact⟨σ7,H7,I7.unpinned,q7⟩
  |ret v=>obtain⟨x7,σ7,H7,I7,r7,q7⟩:=q7;exact⟨x7,σ7,H7,I7.unpinned,r7,q7⟩
end
noncomputable abbrev R2:=V->V->Hp->VK->Prop
noncomputable def OpR (X:Cx)(f:Value->Value->Sem Value)(r:R2):Prop:=
 ∀(pins:List (Addr×Obj)) (s:Shared) (σ:St) (H:Hp) (x y:V) (v u:Value) (Q:VK),Inv X pins σ H s->X9 x v->X9 y u->r x y H Q->
  wpAny (model X.prog X.w) X.A (f v u) (EP X pins σ Q) X.xe s
noncomputable def UnR (X:Cx)(f:Value->Sem Value)(r:V->Hp->VK->Prop):Prop:=
 ∀(pins:List (Addr×Obj)) (s:Shared) (σ:St) (H:Hp) (x:V) (v:Value) (Q:VK),Inv X pins σ H s->X9 x v->r x H Q->
  wpAny (model X.prog X.w) X.A (f v) (EP X pins σ Q) X.xe s
noncomputable def Va (X:Cx)(f:Value)(r:List V->Hp->VK->Prop):Prop:=
 ∀(pins:List (Addr×Obj)) (s:Shared) (σ:St) (H:Hp) (xs:List V) (us:List Value) (Q:VK),Inv X pins σ H s->X5 xs us->r xs H Q->
  wpAny (model X.prog X.w) X.A (call f us) (EP X pins σ Q) X.xe s
noncomputable def tOp (r:R2)(ta tb:TE):TE:=λσ H Q=>ta σ H λx H1=>tb σ H1 λy H2=>r x y H2 Q
noncomputable def tUn (r:V->Hp->VK->Prop)(ta:TE):TE:=λσ H Q=>ta σ H λx H1=>r x H1 Q
noncomputable def rI (C:Int->Int->Prop)(g:Int->Int->V):R2:=λx y H Q=>∃ i j,x= .int i/\y= .int j/\C i j/\Q (g i j) H
noncomputable def rI0 (g:Int->Int->V):R2:=λx y H Q=>∃ i j,x= .int i/\y= .int j/\Q (g i j) H
noncomputable def rU (g:Int->V):V->Hp->VK->Prop:=λx H Q=>∃ i,x= .int i/\Q (g i) H
section
variable {X:Cx}{a b c:Expr}{ta tb tc:TE}{pos:Pos}
theorem Sk (ha:PE X a ta)(hb:PE X b tb){pins:List (Addr×Obj)}{s:Shared}{σ:St}{H:Hp}{R:V->V->Hp->Prop}(I:Inv X pins σ H s)
  (h:ta σ H λx H1=>tb σ H1 λy H2=>R x y H2){Q:Value->Shared->Prop}{f:Value->Value->Sem Value}
  (hf:∀v u s2 x y H2,Inv X pins σ H2 s2->X9 x v->X9 y u->R x y H2->wpAny (model X.prog X.w) X.A (f v u) Q X.xe s2):
  wpAny (model X.prog X.w) X.A (eval a X.env) (λv s₁=>wpAny (model X.prog X.w) X.A (eval b X.env) (λu s₂=>wpAny (model X.prog X.w) X.A (f v u) Q X.xe s₂) X.xe s₁) X.xe s:=by
 refine thn (ha pins s σ H _ I h) λv s1 r9=>?_
 obtain⟨x,H1,I1,r1,q1⟩:=r9
 refine thn (hb pins s1 σ H1 _ I1 q1) λu s2 r9=>?_
 obtain⟨y,H2,I2,r2,q2⟩:=r9
 exact hf v u s2 x y H2 I2 r1 r2 q2
theorem Xr {op:Operator}{r:R2}(ho:OpR X (binaryOp op) r)(ha:PE X a ta)(hb:PE X b tb):PE X (.BinOp a op b pos) (tOp r ta tb):=by
 intro pins s σ H Q I h
 exact wpAny_BinOp (Sk ha hb I h λv u s2 x y H2 I2 rx ry q=>ho pins s2 σ H2 x y v u Q I2 rx ry q)
theorem Vo {op:UnaryOp}{r:V->Hp->VK->Prop}(ho:UnR X (unaryOp op) r)(ha:PE X a ta):PE X (.UnaryOp op a pos) (tUn r ta):=by
 intro pins s σ H Q I h
 exact UnaryOp_ (thn (ha pins s σ H _ I h) λv s1 r9=>by obtain⟨x,H1,I1,r1,q1⟩:=r9;exact ho pins s1 σ H1 x v Q I1 r1 q1)
theorem opI {f:Value->Value->Sem Value}{C:Int->Int->Prop}{g:Int->Int->Int}
  (rule:∀(i j:Int) (t u:Tok) (s:Shared) (Q:Value->Shared->Prop) (E:Value->Shared->Prop),C i j->Q (.int (g i j) s.toks) {s with toks:=s.toks+1}->wpAny (model X.prog X.w) X.A (f (.int i t) (.int j u)) Q E s):
  OpR X f (rI C λi j=>.int (g i j)):=by
 intro pins s σ H x y v u Q I rx ry h
 obtain⟨i,j,rfl,rfl,hc,q⟩:=h
 obtain⟨t,rfl⟩:=rx
 obtain⟨t',rfl⟩:=ry
 exact rule i j t t' s _ _ hc ⟨.int (g i j),H,I.tok _,⟨_,rfl⟩,q⟩
theorem SI {f:Value->Value->Sem Value}{g:Int->Int->Int}
  (rule:∀(i j:Int) (t u:Tok) (s:Shared) (Q:Value->Shared->Prop) (E:Value->Shared->Prop),Q (.int (g i j) s.toks) {s with toks:=s.toks+1}->wpAny (model X.prog X.w) X.A (f (.int i t) (.int j u)) Q E s):
  OpR X f (rI0 λi j=>.int (g i j)):=by
 intro pins s σ H x y v u Q I rx ry h
 obtain⟨i,j,rfl,rfl,q⟩:=h
 obtain⟨t,rfl⟩:=rx
 obtain⟨t',rfl⟩:=ry
 exact rule i j t t' s _ _ ⟨.int (g i j),H,I.tok _,⟨_,rfl⟩,q⟩
theorem Si {f:Value->Value->Sem Value}{g:Int->Int->Bool}
  (rule:∀(i j:Int) (t u:Tok) (s:Shared) (Q:Value->Shared->Prop) (E:Value->Shared->Prop),Q (.bool (g i j)) s->wpAny (model X.prog X.w) X.A (f (.int i t) (.int j u)) Q E s):
  OpR X f (rI0 λi j=>.bl (g i j)):=by
 intro pins s σ H x y v u Q I rx ry h
 obtain⟨i,j,rfl,rfl,q⟩:=h
 obtain⟨t,rfl⟩:=rx
 obtain⟨t',rfl⟩:=ry
 exact rule i j t t' s _ _ ⟨.bl (g i j),H,I,rfl,q⟩
noncomputable def R5 (i j:Int):Prop:=0<=j/\j<=1000000/\i.natAbs<2^64
noncomputable def OM (i j:Int):Prop:=(-(2^64)<i/\i<2^64)∨(-(2^64)<j/\j<2^64)
theorem OM.ok {i j:Int}(h:OM i j):IntMulOk i j:=by
 rcases h with⟨h1,h2⟩ | ⟨h1,h2⟩
 ·exact .of_left (intBits_le_64 h1 h2)
 ·exact .of_right (intBits_le_64 h1 h2)
theorem XO:OpR X (binaryOp .Add) (rI0 λi j=>.int (i+j)):=SI λ_ _ _ _ _ _ _ q=>add_int q
theorem UJ:OpR X (binaryOp .Sub) (rI0 λi j=>.int (i-j)):=SI λ_ _ _ _ _ _ _ q=>sub_int q
theorem Zt:OpR X (binaryOp .Mult) (rI OM λi j=>.int (i*j)):=opI λ_ _ _ _ _ _ _ hc q=>mul_int q hc.ok
theorem Zw:OpR X (binaryOp .Mod) (rI (λ_ j=>0<j) λi j=>.int (i % j)):=opI λi j _ _ _ _ _ hc q=>by
 have h1:(0:Int)<j:=hc
 exact mod_int' (by omega) (by rw[Int.fmod_eq_emod_of_nonneg i (by omega)];exact q)
theorem UT:OpR X (binaryOp .Pow) (rI R5 λi j=>.int (i^j.toNat)):=opI λ_ _ _ _ _ _ _ hc q=>pow_int_small hc.1 hc.2.1 hc.2.2 q
theorem unI {f:Value->Sem Value}{g:Int->Int}
  (rule:∀(i:Int) (t:Tok) (s:Shared) (Q:Value->Shared->Prop) (E:Value->Shared->Prop),Q (.int (g i) s.toks) {s with toks:=s.toks+1}->wpAny (model X.prog X.w) X.A (f (.int i t)) Q E s):
  UnR X f (rU λi=>.int (g i)):=by
 intro pins s σ H x v Q I rx h
 obtain⟨i,rfl,q⟩:=h
 obtain⟨t,rfl⟩:=rx
 exact rule i t s _ _ ⟨.int (g i),H,I.tok _,⟨_,rfl⟩,q⟩
theorem Ql:UnR X (unaryOp .USub) (rU λi=>.int (-i)):=unI λ_ _ _ _ _ q=>neg_int q
end
noncomputable def Sx:V->V->Bool
 | .non, .non=>true | .non, .int _=>true | .int _, .non=>true | .non, .bl _=>true | .bl _, .non=>true | .non, .str _=>true | .str _, .non=>true
 | .int _, .int _=>true | .bl _, .bl _=>true | .str _, .str _=>true | .byt _, .byt _=>true
 | .int _, .str _=>true | .str _, .int _=>true | .bl _, .str _=>true | .str _, .bl _=>true
 |_,_=>false
noncomputable def rEq:R2:=λx y H Q=>Sx x y=true/\Q (.bl (decide (x=y))) H
noncomputable def rNe:R2:=λx y H Q=>Sx x y=true/\Q (.bl (!decide (x=y))) H
theorem Hv {i j:Int}:decide (V.int i=V.int j)=(i==j):=by
 rw[Bool.eq_iff_iff]
 simp
theorem LX {i j:Bool}:decide (V.bl i=V.bl j)=(i==j):=by
 rw[Bool.eq_iff_iff]
 simp
theorem E8 {i j:Str}:decide (V.str i=V.str j)=(i==j):=by
 rw[Bool.eq_iff_iff]
 simp
theorem Ib {i j:Array UInt8}:decide (V.byt i=V.byt j)=(i.toList==j.toList):=by
 rw[Bool.eq_iff_iff]
 cases i
 cases j
 simp
section
variable {X:Cx}{a b c:Expr}{ta tb tc:TE}{pos:Pos}
theorem X0 {pins:List (Addr×Obj)}{σ:St}{H:Hp}{s:Shared}{Q:VK}{k k':Bool}(I:Inv X pins σ H s)(q:Q (.bl k) H)(e:k=k'):EP X pins σ Q (.bool k') s:=by
 subst e
 exact⟨.bl k,H,I,rfl,q⟩
theorem QR:OpR X (compareOp .Eq) rEq:=by
 intro pins s σ H x y v u Q I rx ry h
 obtain⟨hs,q⟩:=h
 cases x with
 |non=>
  cases rx
  cases y with
  |non=>cases ry;exact PySem.EqNone.eq_none_none (X0 I q (by simp))
  |bl j=>cases ry;exact PySem.EqNone.eq_none_bool (X0 I q (by simp))
  |int j=>obtain⟨t',rfl⟩:=ry;exact PySem.EqNone.eq_none_int (X0 I q (by simp))
  |str j=>obtain⟨t',rfl⟩:=ry;exact PySem.EqNone.eq_none_str (X0 I q (by simp))
  |_=>exact absurd (show false=true from hs) Bool.false_ne_true
 |bl i=>
  cases rx
  cases y with
  |non=>cases ry;exact PySem.EqNone.eq_bool_none (X0 I q (by simp))
  |bl j=>cases ry;exact eq_bool (X0 I q LX)
  |str j=>obtain⟨t',rfl⟩:=ry;exact PySem.EqMixed.eq_bool_str (X0 I q (by simp))
  |_=>exact absurd (show false=true from hs) Bool.false_ne_true
 |int i=>
  obtain⟨t,rfl⟩:=rx
  cases y with
  |non=>cases ry;exact PySem.EqNone.eq_int_none (X0 I q (by simp))
  |int j=>obtain⟨t',rfl⟩:=ry;exact eq_int (X0 I q Hv)
  |str j=>obtain⟨t',rfl⟩:=ry;exact PySem.EqMixed.eq_int_str (X0 I q (by simp))
  |_=>exact absurd (show false=true from hs) Bool.false_ne_true
 |str i=>
  obtain⟨t,rfl⟩:=rx
  cases y with
  |non=>cases ry;exact PySem.EqNone.eq_str_none (X0 I q (by simp))
  |bl j=>cases ry;exact PySem.EqMixed.eq_str_bool (X0 I q (by simp))
  |int j=>obtain⟨t',rfl⟩:=ry;exact PySem.EqMixed.eq_str_int (X0 I q (by simp))
  |str j=>obtain⟨t',rfl⟩:=ry;exact eq_str (X0 I q E8)
  |_=>exact absurd (show false=true from hs) Bool.false_ne_true
 |byt i=>
  obtain⟨t,rfl⟩:=rx
  cases y with
  |byt j=>obtain⟨t',rfl⟩:=ry;exact PySem.W.eq_bytes (X0 I q Ib)
  |_=>exact absurd (show false=true from hs) Bool.false_ne_true
 |_=>cases y<;> exact absurd (show false=true from hs) Bool.false_ne_true
theorem BJ:OpR X (compareOp .NotEq) rNe:=by
 intro pins s σ H x y v u Q I rx ry h
 obtain⟨hs,q⟩:=h
 cases x with
 |non=>
  cases rx
  cases y with
  |non=>cases ry;exact PySem.EqNone.ne_none_none (X0 I q (by simp))
  |bl j=>cases ry;exact PySem.EqNone.ne_none_bool (X0 I q (by simp))
  |int j=>obtain⟨t',rfl⟩:=ry;exact PySem.EqNone.ne_none_int (X0 I q (by simp))
  |str j=>obtain⟨t',rfl⟩:=ry;exact PySem.EqNone.ne_none_str (X0 I q (by simp))
  |_=>exact absurd (show false=true from hs) Bool.false_ne_true
 |bl i=>
  cases rx
  cases y with
  |non=>cases ry;exact PySem.EqNone.ne_bool_none (X0 I q (by simp))
  |bl j=>cases ry;exact ne_bool (X0 I q (congrArg not LX))
  |str j=>obtain⟨t',rfl⟩:=ry;exact PySem.EqMixed.ne_bool_str (X0 I q (by simp))
  |_=>exact absurd (show false=true from hs) Bool.false_ne_true
 |int i=>
  obtain⟨t,rfl⟩:=rx
  cases y with
  |non=>cases ry;exact PySem.EqNone.ne_int_none (X0 I q (by simp))
  |int j=>obtain⟨t',rfl⟩:=ry;exact ne_int (X0 I q (congrArg not Hv))
  |str j=>obtain⟨t',rfl⟩:=ry;exact PySem.EqMixed.ne_int_str (X0 I q (by simp))
  |_=>exact absurd (show false=true from hs) Bool.false_ne_true
 |str i=>
  obtain⟨t,rfl⟩:=rx
  cases y with
  |non=>cases ry;exact PySem.EqNone.ne_str_none (X0 I q (by simp))
  |bl j=>cases ry;exact PySem.EqMixed.ne_str_bool (X0 I q (by simp))
  |int j=>obtain⟨t',rfl⟩:=ry;exact PySem.EqMixed.ne_str_int (X0 I q (by simp))
  |str j=>obtain⟨t',rfl⟩:=ry;exact ne_str (X0 I q (congrArg not E8))
  |_=>exact absurd (show false=true from hs) Bool.false_ne_true
 |byt i=>
  obtain⟨t,rfl⟩:=rx
  cases y with
  |byt j=>obtain⟨t',rfl⟩:=ry;exact PySem.W.ne_bytes (X0 I q (congrArg not Ib))
  |_=>exact absurd (show false=true from hs) Bool.false_ne_true
 |_=>cases y<;> exact absurd (show false=true from hs) Bool.false_ne_true
theorem Gj:OpR X (compareOp .Lt) (rI0 λi j=>.bl (decide (i<j))):=Si λ_ _ _ _ _ _ _ q=>lt_int q
theorem R6:OpR X (compareOp .LtE) (rI0 λi j=>.bl (decide (i<=j))):=Si λ_ _ _ _ _ _ _ q=>le_int q
theorem VR:OpR X (compareOp .Gt) (rI0 λi j=>.bl (decide (j<i))):=Si λ_ _ _ _ _ _ _ q=>gt_int q
theorem CU:OpR X (compareOp .Is) (λx y H Q=>y= .non/\Q (.bl (decide (x= .non))) H):=by
 intro pins s σ H x y v u Q I rx ry h
 obtain⟨rfl,q⟩:=h
 cases ry
 refine is_none_gen (X0 I q ?_)
 cases x<;> first
  | (cases rx;rfl)
  | (obtain⟨t,rfl⟩:=rx;rfl)
theorem FD:OpR X (compareOp .IsNot) (λx y H Q=>y= .non/\Q (.bl (!decide (x= .non))) H):=by
 intro pins s σ H x y v u Q I rx ry h
 obtain⟨rfl,q⟩:=h
 cases ry
 refine isnot_none_gen (X0 I q ?_)
 cases x<;> first
  | (cases rx;rfl)
  | (obtain⟨t,rfl⟩:=rx;rfl)
theorem Xw (b:Expr){op:CmpOp}(h:op≠ .In:=by decide)(h2:op≠ .NotIn:=by decide):behindInMarks op b=false:=by
 have e1:(op==CmpOp.In)=false:=by cases op<;> first |rfl |exact absurd rfl h
 have e2:(op==CmpOp.NotIn)=false:=by cases op<;> first |rfl |exact absurd rfl h2
 cases b<;> simp[behindInMarks,e1,e2]
theorem Qb {op:CmpOp}{r:R2}(ho:OpR X (compareOp op) r)(ha:PE X a ta)(hb:PE X b tb)(hm:behindInMarks op b=false):PE X (.Compare a [op] [b] pos) (tOp r ta tb):=by
 intro pins s σ H Q I h
 exact wpAny_Compare1 (Sk ha hb I h λv u s2 x y H2 I2 rx ry q=>ho pins s2 σ H2 x y v u Q I2 rx ry q) hm
noncomputable def Oy (t:TE):TT:=λσ H Q=>t σ H λx H'=>∃ k,x= .bl k/\Q k H'
theorem Xs {op:CmpOp}{r:R2}(ho:OpR X (compareOp op) r)(ha:PE X a ta)(hb:PE X b tb)(hm:behindInMarks op b=false):PT X (.Compare a [op] [b] pos) (Oy (tOp r ta tb)):=by
 intro pins s σ H Q I h
 refine wpAny_isTrue_Compare1 (thn (ha pins s σ H _ I h) λv s1 ⟨x,H1,I1,r1,q1⟩=>thn (hb pins s1 σ H1 _ I1 q1) λu s2 ⟨y,H2,I2,r2,q2⟩=>
  thn (ho pins s2 σ H2 x y v u _ I2 r1 r2 q2) λc s3 ⟨z,H3,I3,r3,k,e,q3⟩=>?_) hm
 subst e
 cases r3
 exact wpAny_truthy_bool ⟨H3,I3,q3⟩
theorem C5:(sizeLine:Nat)<2^63:=by rw[sizeLine_eq];decide
theorem Dj {x:V}{us:List Value}(r:X5 [x] us):∃u,us=[u]/\X9 x u:=by
 cases r with
 |cons r1 r2=>cases r2;exact⟨_,rfl,r1⟩
theorem Rx {x y:V}{us:List Value}(r:X5 [x,y] us):∃u w',us=[u,w']/\X9 x u/\X9 y w':=by
 cases r with
 |cons r1 r2=>
  cases r2 with
  |cons r3 r4=>cases r4;exact⟨_,_,rfl,r1,r3⟩
theorem Qn (hc:X.calm=true):Va X (.builtin "max") (λxs H Q=>∃ i j,xs=[.int i, .int j]/\Q (.int (if j > i then j else i)) H):=by
 intro pins s σ H xs us Q I r h
 obtain⟨i,j,rfl,q⟩:=h
 obtain⟨u,w',rfl,⟨t,rfl⟩,⟨t',rfl⟩⟩:=Rx r
 refine max_two_ints (I.ok.hd hc) λh' tk k=>⟨_,H,I.kept k,?_,q⟩
 by_cases hj:j > i
 ·rw[if_pos hj,if_pos hj];exact⟨_,rfl⟩
 ·rw[if_neg hj,if_neg hj];exact⟨_,rfl⟩
theorem GB (hc:X.calm=true):Va X (.builtin "min") (λxs H Q=>∃ i j,xs=[.int i, .int j]/\Q (.int (if j<i then j else i)) H):=by
 intro pins s σ H xs us Q I r h
 obtain⟨i,j,rfl,q⟩:=h
 obtain⟨u,w',rfl,⟨t,rfl⟩,⟨t',rfl⟩⟩:=Rx r
 refine min_two_ints (I.ok.hd hc) λh' tk k=>⟨_,H,I.kept k,?_,q⟩
 by_cases hj:j<i
 ·rw[if_pos hj,if_pos hj];exact⟨_,rfl⟩
 ·rw[if_neg hj,if_neg hj];exact⟨_,rfl⟩
end
section
variable {prog:Program}{w:World}{A:Around}{E:Value->Shared->Prop}{s:Shared}{K:PySem.W.Frag}{x dx C f:Addr}{mA:Str->Option Value}{name:Str}{v:Value}
end
section
variable {P:Program}{w:World}{H H':Hp}{h h':Heap}{a C dx:Addr}{fs fs':List (Str×V)}
end
section
variable {X:Cx}{pins:List (Addr×Obj)}{σ:St}{H:Hp}{s:Shared}{a C dx:Addr}{fs:List (Str×V)}{f:Str}{v:V}{A:Around}{E:Value->Shared->Prop}
theorem Inv.made (I:Inv X pins σ H s):Inv X pins σ (upd (upd H s.heap.objs.size (.own (s.heap.objs.size+1))) (s.heap.objs.size+1) (.ins C s.heap.objs.size []))
  {s with heap:=(s.heap.push PySem.W.emptyDict).push (PySem.W.instObj C s.heap.objs.size)}:=by
 have e1:(s.heap.push PySem.W.emptyDict).get? s.heap.objs.size=some PySem.W.emptyDict:=Heap.get?_push_size s.heap rfl
 have e2:((s.heap.push PySem.W.emptyDict).push (PySem.W.instObj C s.heap.objs.size)).get? (s.heap.objs.size+1)=some (PySem.W.instObj C s.heap.objs.size):=by
  have:=Heap.get?_push_size (s.heap.push PySem.W.emptyDict) (o:=PySem.W.instObj C s.heap.objs.size) rfl
  rwa [Heap.size_push] at this
 have e3:(s.heap.push PySem.W.emptyDict).Ns s.heap.objs.size (λ_=>none):=⟨PySem.W.emptyDict, #[],_,e1,rfl,(λe he=>absurd he (by simp)),λ_=>rfl⟩
 have I1:=I.laid (a:=s.heap.objs.size) (o:=.own (s.heap.objs.size+1)) (h':=s.heap.push PySem.W.emptyDict) (t':=s.toks) (λb u q=>Heap.get?_push_of_some _ q) (Nat.le_refl _) ⟨_,e1⟩
 refine I1.laid (a:=s.heap.objs.size+1) (o:=.ins C s.heap.objs.size []) (t':=s.toks) (λb u q=>Heap.get?_push_of_some _ q) (Nat.le_of_eq (Heap.size_push _ _)) ?_
 have ne:s.heap.objs.size≠s.heap.objs.size+1:=Nat.ne_of_lt (Nat.lt_succ_self _)
 refine⟨by rw[XF ne,Yk],Nat.zero_le _,ne,e2,λ_=>none,(Heap.Ns1.of_empty e3).at λo q=>Heap.get?_push_of_some _ q,λ_=>True.intro,λy hy=>absurd rfl hy⟩
end
section
variable {X:Cx}{o e value:Expr}{f:Str}{pos pos' tpos:Pos}{ta tv:TE}
end
section
variable {X:Cx}{pins:List (Addr×Obj)}{σ:St}{H:Hp}{s:Shared}{A:Around}{E:Value->Shared->Prop}{Q:Value->Shared->Prop}{c:Value}{b:Bool}
end
structure Room (k:Nat)(A:Around):Prop where
 hd:A.handled=none
 dp:A.depth+3*k+5<recursionLimit
 un:A.units+16*k+200<cLine
theorem Room.mono {j k:Nat}{A:Around}(r:Room k A)(h:j<=k):Room j A:=⟨r.hd,by have:=r.dp;omega,by have:=r.un;omega⟩
theorem Room.deeper {k:Nat}{A:Around}(r:Room (k+1) A)(env:Env):Room k (A.deeper env):=
 ⟨r.hd,by have:=r.dp;show A.depth+1+3*k+5<_;omega,by have:=r.un;show A.units+3+16*k+200<_;omega⟩
theorem Room.depth {k:Nat}{A:Around}(r:Room k A):A.depth<recursionLimit:=by have:=r.dp;omega
theorem Room.units {k:Nat}{A:Around}(r:Room k A):A.units+64<cLine:=by have:=r.un;omega
noncomputable def YF:TA:=λ_ H Q=>Q [] H
noncomputable def Xn (ta:TE)(tr:TA):TA:=λσ H Q=>ta σ H λx H1=>tr σ H1 λxs H2=>Q (x::xs) H2
section
variable {X:Cx}{e:Expr}{es:List Expr}{te:TE}{t:TA}{pos:Pos}
theorem Xc:PA X [] YF:=λ_ _ _ _ H Q I h=>Calls.spliced_nil ⟨[],H,I, .nil,h⟩
theorem Xa (ha:PE X e te)(hr:PA X es t)(hs:starEach (e::es) X.env=(false,eval e X.env)::starEach es X.env:=by rfl):PA X (e::es) (Xn te t):=by
 intro pos pins s σ H Q I h
 rw[hs]
 show wpAny _ _ (spliced ((false,eval e X.env)::backTo pos (starEach es X.env))) _ _ s
 refine Calls.spliced_cons (thn (ha pins s σ H _ I h) λu s1 r9=>?_)
 obtain⟨x,H1,I1,r1,q1⟩:=r9
 exact thn (hr pos pins s1 σ H1 _ I1 q1) λus s2 r9=>by obtain⟨xs,H2,I2,r2,q2⟩:=r9;exact⟨x::xs,H2,I2, .cons r1 r2,q2⟩
noncomputable def Mm (t:TA):TE:=λσ H Q=>t σ H λxs H1=>xs.length<=sizeLine/\∀p,H1 p=none->Q (.ref p) (upd H1 p (.tup xs))
noncomputable def BG (t:TA):TE:=λσ H Q=>t σ H λxs H1=>xs.length<=sizeLine/\∀p,H1 p=none->Q (.ref p) (upd H1 p (.lst xs))
theorem Yz {x1}(h:PA X es t):PE X (.Tuple es x1 pos) (Mm t):=by
 intro pins s σ H Q I hq
 refine wpAny_Tuple_spliced (thn (h pos pins s σ H _ I hq) λus s1 ⟨xs,H1,I1,r,z,q⟩=>⟨by rw[←r.length];exact z,?_⟩)
 have hf:H1 s1.heap.objs.size=none:=I1.hok.fresh (Nat.le_refl _)
 refine⟨.ref s1.heap.objs.size,upd H1 s1.heap.objs.size (.tup xs),I1.laid (t':=s1.toks) (λb u e=>Heap.get?_push_of_some _ e) (Nat.le_refl _) ?_,rfl,q _ hf⟩
 exact⟨z,us,r,⟨_,Heap.get?_push_size _ rfl,⟨rfl,rfl⟩,_,rfl⟩⟩
theorem Xt (h:PA X es t):PE X (.List es pos) (BG t):=by
 intro pins s σ H Q I hq
 refine wpAny_List_spliced (thn (h pos pins s σ H _ I hq) λus s1 ⟨xs,H1,I1,r,z,q⟩=>⟨by rw[←r.length];exact z,?_⟩)
 have hf:H1 s1.heap.objs.size=none:=I1.hok.fresh (Nat.le_refl _)
 refine⟨.ref s1.heap.objs.size,upd H1 s1.heap.objs.size (.lst xs),I1.laid (t':=s1.toks) (λb u e=>Heap.get?_push_of_some _ e) (Nat.le_refl _) ?_,rfl,q _ hf⟩
 exact⟨z,us,0,r,Heap.get?_push_size _ rfl⟩
end
noncomputable abbrev Sp:=List V->Hp->VK->XK->Prop
noncomputable abbrev CXT:=List Env->Hp->Shared->XK->Value->Shared->Prop
structure Env0 (P:Program)(w:World)(K:PySem.W.Frag)(mg:Str->Option Value)(base:Heap)(A:Around)(outer:List Env)(s:Shared)(H:Hp):Prop where
 frames:A.frames=some outer
 mod:Mod K mg base
 bs:∀b o,base.get? b=some o->s.heap.get? b=some o/\H b=none
 bsz:base.objs.size<=s.heap.objs.size
 funs:s.heap.FunFrames base outer
 frf:∀b∈frs outer,H b=none
 hok:HOk P w H s.heap
 bare:AllBare s.gens
noncomputable def CE (outer:List Env)(P:Program)(w:World)(H:Hp)(s:Shared)(Q:VK)(u:Value)(s':Shared):Prop:=
 ∃v H',s'.os=s.os/\AllBare s'.gens/\Un (frs outer) [] H H' s.heap s'.heap/\HOk P w H' s'.heap/\X9 v u/\Q v H'
noncomputable def CR (CX:CXT)(outer:List Env)(P:Program)(w:World)(H:Hp)(s:Shared)(Q:VK)(E:XK)(r:Result)(s':Shared):Prop:=
 match r with
 | .ok (.ret u)=>CE outer P w H s Q u s'
 | .ok _=>False
 | .error e=>CX outer H s E e s'
structure FnOk (P:Program)(w:World)(K:PySem.W.Frag)(mg:Str->Option Value)(base:Heap)(CX:CXT)(k:Nat)(f:Addr)(fd:FuncData)(ps:List Str)(sp:Sp):Prop where
 len:∀vs H Q E,sp vs H Q E->vs.length=ps.length
 run:∀(A:Around) (outer:List Env) (s:Shared) (H:Hp) (args:Args) (us:List Value) (vs:List V) (Q:VK) (E:XK),Room k A->Env0 P w K mg base A outer s H->BindsTo s fd args (ps.zip us)->X5 vs us->sp vs H Q E->
  codeAny (model P w) A (.call (.ref f) args) (CR CX outer P w H s Q E) s
section
variable {X:Cx}{pins:List (Addr×Obj)}{σ:St}{H:Hp}{s s':Shared}
theorem Inv.env0 (I:Inv X pins σ H s):Env0 X.prog X.w X.K X.mg X.base X.A X.stack s H:=
 ⟨I.ok.frames,I.ok.mod,I.bs,Nat.le_trans I.ok.bsz I.sz,I.stack,I.stkFree,I.hok,I.bare⟩
theorem Inv.after {Q:VK}{u:Value}(I:Inv X pins σ H s)(h:CE X.stack X.prog X.w H s Q u s'):EP X pins σ Q u s':=by
 obtain⟨v,H',os,bare,un,hok,r,q⟩:=h
 obtain⟨hh,g,d,t,os'⟩:=s'
 obtain rfl:os'=s.os:=os
 exact⟨v,H',I.call (h':=hh) (g':=g) (d':=d) (t':=t) (ch:=[]) un hok bare (λb z=>absurd z (by simp)),r,q⟩
end
noncomputable def Qj (sp:Sp)(dvs:List V)(E:XK)(t:TA):TE:=λσ H Q=>t σ H λvs H1=>sp (vs++dvs) H1 Q E
noncomputable def GR (K:PySem.W.Frag)(fd:FuncData)(ps:List Str)(ds:List Value):Prop:=
 ∀(s:Shared) (us:List Value),K.In s.heap->(us++ds).length=ps.length->BindsTo s fd ⟨us,[]⟩ (ps.zip (us++ds))
theorem GR.all {K:PySem.W.Frag}{fd:FuncData}{ps:List Str}(h:∀us:List Value,us.length=ps.length->bindArgs fd ⟨us,[]⟩=pure (ps.zip us)):GR K fd ps []:=λs us _ hl=>by
 rw[List.append_nil] at hl⊢
 exact .of_eq (h us hl)
noncomputable def Vg (CX:CXT)(X:Cx)(E:XK):Prop:=∀ (pins:List (Addr×Obj)) (σ:St) (H:Hp) (s:Shared) (e:Value) (s':Shared),Inv X pins σ H s->CX X.stack H s E e s'->X.xe e s'
section
variable {X:Cx}{CX:CXT}{k:Nat}{f C:Addr}{fd:FuncData}{ps:List Str}{sp:Sp}{dvs:List V}{ds:List Value}{E:XK}{x m:Str}{p pos apos:Pos}{e o:Expr}{es:List Expr}{ta:TE}{t:TA}
theorem PQ {pins:List (Addr×Obj)}{σ:St}{H:Hp}{s:Shared}{Q:VK}{us:List Value}{vs:List V}(F:FnOk X.prog X.w X.K X.mg X.base CX k f fd ps sp)(hr:Room k X.A)(hb:GR X.K fd ps ds)(hd:X5 dvs ds)(hx:Vg CX X E)
  (I:Inv X pins σ H s)(r:X5 vs us)(h:sp (vs++dvs) H Q E):wpAny (model X.prog X.w) X.A (call (.ref f) us) (EP X pins σ Q) X.xe s:=by
 have r2:X5 (vs++dvs) (us++ds):=r.append hd
 have hl:(us++ds).length=ps.length:=by rw[←r2.length];exact F.len _ _ _ _ h
 refine wpAny_call (codeAny_mono (F.run X.A X.stack s H ⟨us,[]⟩ (us++ds) (vs++dvs) Q E hr I.env0 (hb s us I.kIn hl) r2 h) λr s' hq=>?_)
 cases r with
 |error e=>exact hx pins σ H s e s' I hq
 |ok fl=>
  cases fl with
  |ret u=>exact I.after hq
  |next=>exact False.elim hq
  |brk=>exact False.elim hq
  |cont=>exact False.elim hq
theorem Hc (F:FnOk X.prog X.w X.K X.mg X.base CX k f fd ps sp)(hr:Room k X.A)(hg:Gl X x)(hm:X.mg x=some (.ref f))(hk:PySem.W.keepIn X.K (.ref f)=true)(hb:GR X.K fd ps ds)(hd:X5 dvs ds)(hx:Vg CX X E)
  (ha:PA X (e::es) t)(hdb:(x==("__debug__":Str))=false:=by decide)(he:starEach (e::es) X.env=(false,eval e X.env)::starEach es X.env:=by rfl)(hpl:(backTo pos (starEach es X.env)).any (·.1)=false:=by rfl):
  PE X (.Call (.Name x p) (e::es) [] pos) (Qj sp dvs E t):=by
 intro pins s σ H Q I h
 refine wpAny_Call_Name_kw (KD I hg hm ?_ hdb)
 refine PySem.W.callWith_K (h₀:=X.base) I.ok.mod.kin hk (thn (ha pos pins s σ H _ I h) λus s1 ⟨vs,H1,I1,r,q⟩=>⟨I1.kIn,?_⟩) he hpl
 exact PQ F hr hb hd hx I1 r q
end
section
variable {X:Cx}{CX:CXT}{k:Nat}{f C:Addr}{fd:FuncData}{ps ks:List Str}{sp:Sp}{E:XK}{x m:Str}{p pos apos kpos:Pos}{e o:Expr}{es:List Expr}{kws:List Keyword}{te ta:TE}{t tk:TA}{nm:Option Str}
variable {g:List Value->List Value->List Value}{gV:List V->List V->List V}
end
structure FnScope (N P:List Str)(sc:Scope):Prop where
 kind:sc.kind= .function
 co:sc.isCoroutine=false
 gen:sc.isGenerator=false
 nd:N.Nodup
 pre:N.take P.length=P
 par:∀x∈P,sc.names.lookup x=some .local∨sc.names.lookup x=some .cell
 nofree:∀y∈sc.names,y.2≠ .free
theorem G6 {kindOf:Str->Option NameKind}{x:Str}:∀{binds:List (Str×Value)}{m:Str->Option Value},(∀v,(x,v)∉binds)->bindL kindOf binds m x=m x
 | [],_,_=>rfl
 | (n,v)::r,m,h=>by
  unfold bindL
  rw[G6 λw hw=>h w (List.mem_cons_of_mem _ hw)]
  split
  ·have:x≠n:=by rintro rfl;exact h v List.mem_cons_self
   simp[this]
  ·rfl
theorem Gv {kindOf:Str->Option NameKind}{x:Str}:∀{binds:List (Str×Value)}{m:Str->Option Value},(∀v,(x,v)∉binds)->bindC kindOf binds m x=m x
 | [],_,_=>rfl
 | (n,v)::r,m,h=>by
  unfold bindC
  rw[Gv λw hw=>h w (List.mem_cons_of_mem _ hw)]
  split
  ·rfl
  ·have:x≠n:=by rintro rfl;exact h v List.mem_cons_self
   simp[this]
theorem GI {kindOf:Str->Option NameKind}{x:Str}{v:Value}:∀{P:List Str}{vs:List Value}{i:Nat}{m:Str->Option Value},P.Nodup->P[i]?=some x->vs[i]?=some v->kindOf x=some .local->
  bindL kindOf (P.zip vs) m x=some v
 | [],_,_,_,_,h,_,_=>by simp at h
 |_::_,[],_,_,_,_,h,_=>by simp at h
 |p::P,w::vs,0,m,nd,h1,h2,hk=>by
  simp at h1 h2;subst h1;subst h2
  show bindL kindOf ((p,w)::P.zip vs) m p=_
  unfold bindL
  rw[G6 λv hv=>(List.nodup_cons.mp nd).1 (List.of_mem_zip hv).1,if_pos hk]
  simp
 |p::P,w::vs,i+1,m,nd,h1,h2,hk=>by
  show bindL kindOf ((p,w)::P.zip vs) m x=_
  unfold bindL
  exact GI (i:=i) (List.nodup_cons.mp nd).2 (by simpa using h1) (by simpa using h2) hk
theorem GH {kindOf:Str->Option NameKind}{x:Str}{v:Value}:∀{P:List Str}{vs:List Value}{i:Nat}{m:Str->Option Value},P.Nodup->P[i]?=some x->vs[i]?=some v->kindOf x≠some .local->
  bindC kindOf (P.zip vs) m x=some v
 | [],_,_,_,_,h,_,_=>by simp at h
 |_::_,[],_,_,_,_,h,_=>by simp at h
 |p::P,w::vs,0,m,nd,h1,h2,hk=>by
  simp at h1 h2;subst h1;subst h2
  show bindC kindOf ((p,w)::P.zip vs) m p=_
  unfold bindC
  rw[Gv λv hv=>(List.nodup_cons.mp nd).1 (List.of_mem_zip hv).1,if_neg hk]
  simp
 |p::P,w::vs,i+1,m,nd,h1,h2,hk=>by
  show bindC kindOf ((p,w)::P.zip vs) m x=_
  unfold bindC
  exact GH (i:=i) (List.nodup_cons.mp nd).2 (by simpa using h1) (by simpa using h2) hk
noncomputable def VU (N:List Str)(vs:List V):St:=vs.map some++List.replicate (N.length-vs.length) none
noncomputable def Uj (CX:CXT)(P:Program)(w:World)(K:PySem.W.Frag)(mg:Str->Option Value)(base:Heap)(N:List Str)(qual:Str)(scope:Scope)(f:Addr)(cd:Value)(A:Around)(outer:List Env)(s:Shared)(H:Hp)(E:XK):Cx where
 prog:=P
 w:=w
 K:=K
 mg:=mg
 base:=base
 A:=A.deeper (envOfC qual scope s.heap.objs.size f cd)
 N:=N
 s₀:=s
 H₀:=H
 env:=envOfC qual scope s.heap.objs.size f cd
 outer:=outer
 stack:=envOfC qual scope s.heap.objs.size f cd::outer
 ex:=[]
 calm:=true
 fn:=λ_=>true
 pn:=[]
 xe:=λe s'=>wpAny (model P w) (A.deeper (envOfC qual scope s.heap.objs.size f cd)) (leaving (envOfC qual scope s.heap.objs.size f cd) e) (λ_ s''=>CX outer H s E e s'') (λe' s''=>CX outer H s E e' s'') s'
theorem DR {sc:Scope}{n:Nat}{x:Str}(h:sc.names.lookup x=some .cell):∃c,(cellsFrom n sc.names []).lookup x=some c:=by
 have q:=PySem.W.cellsFrom_some sc.names n [] (.inl h)
 exact Option.isSome_iff_exists.mp q
theorem EJ {CX:CXT}{P:Program}{w:World}{K:PySem.W.Frag}{mg:Str->Option Value}{base:Heap}{N ps:List Str}{qual:Str}{scope:Scope}{f:Addr}{cd:Value}{A:Around}{outer:List Env}{s s1:Shared}{H:Hp}{E:XK}{us:List Value}{vs:List V}
  (S:FnScope N ps scope)(hd:A.handled=none)(e0:Env0 P w K mg base A outer s H)(hl:vs.length=ps.length)(r:X5 vs us)
  (x:InCallC s s.heap.objs.size (bindL (envOfC qual scope s.heap.objs.size f cd).kindOf (ps.zip us) λ_=>none) (cellsFrom (s.heap.objs.size+1) scope.names []) (bindC (envOfC qual scope s.heap.objs.size f cd).kindOf (ps.zip us) λ_=>none) s1):
  Inv (Uj CX P w K mg base N qual scope f cd A outer s H E) [] (VU N vs) H s1:=by
 have hpl:ps.length<=N.length:=by have:=congrArg List.length S.pre;rw[List.length_take] at this;omega
 obtain⟨h1,tk,rfl,hk⟩:=x.done
 have noA:∀b:Addr,b∉(Uj CX P w K mg base N qual scope f cd A outer s H E).ex:=λb z=>absurd (show b∈([]:List Addr) from z) (by simp)
 refine⟨⟨e0.mod,S.kind,rfl,rfl,Nat.le_refl _,λy z c h1 h2=>?_,λy hy=>?_,λy c _ h=>?_,λ_=>hd,Around.frames_deeper e0.frames, .inr ⟨rfl,rfl⟩,λb z=>absurd z (noA b),e0.bs,e0.bsz,λb _ _=>noA b,λb z=>absurd z (noA b),e0.funs,e0.frf⟩,
  rfl,e0.bare,Un.kept hk,⟨_,x.toInCall.ns,λi y v h1 h2 h3=>?_⟩,λy c h=>⟨_,x.cell y c h⟩,e0.hok.fresh (Nat.le_refl _),λy c h=>?_,λp hp=>absurd (show p∈([]:List (Addr×Obj)) from hp) (by simp),e0.hok.kept hk,?_⟩
 ·exact name_of_addr x.apart (PySem.mem_of_lookup h1) (PySem.mem_of_lookup h2)
 ·have hy:scope.names.lookup y=some .cell∨scope.names.lookup y=some .free:=hy
  rcases hy with hy |hy
  ·exact DR hy
  ·exact absurd rfl (S.nofree _ (PySem.mem_of_lookup hy))
 ·exact Nat.le_of_lt (x.above y c (PySem.mem_of_lookup h))
 ·have hi:i<vs.length:=by
   unfold VU at h2
   by_cases hi:i<vs.length
   ·exact hi
   ·rw[List.getElem?_append_right (by simpa using hi)] at h2
    rw[List.getElem?_replicate] at h2
    split at h2<;> cases h2
  have ha:vs[i]?=some v:=by
   unfold VU at h2
   rw[List.getElem?_append_left (by simpa using hi),List.getElem?_map] at h2
   cases e:vs[i]? with
   |none=>rw[e] at h2;cases h2
   |some a=>rw[e] at h2;cases h2;rfl
  obtain⟨u,hu,rv⟩:=r.get ha
  have hp:ps[i]?=some y:=by
   rw[←S.pre,List.getElem?_take_of_lt (by omega)];exact h1
  have ndP:ps.Nodup:=by rw[←S.pre];exact S.nd.sublist (List.take_sublist _ _)
  refine⟨u,rv,?_⟩
  rcases S.par y (List.mem_of_getElem? hp) with k |k
  ·exact .inl ⟨k,GI ndP hp hu k⟩
  ·obtain⟨c,e⟩:=DR (n:=s.heap.objs.size+1) k
   refine .inr ⟨.inl k,c,e,?_⟩
   have q:=x.cell y c e
   rw[GH ndP hp hu (by show scope.names.lookup y≠_;rw[k];decide)] at q
   exact q
 ·exact e0.hok.fresh (Nat.le_of_lt (x.above y c (PySem.mem_of_lookup h)))
 ·unfold VU
  show _=N.length
  rw[List.length_append,List.length_map,List.length_replicate]
  omega
theorem P8 {CX:CXT}{P:Program}{w:World}{K:PySem.W.Frag}{mg:Str->Option Value}{base:Heap}{k:Nat}{f:Addr}{name qual:Str}{params:Arguments}{body:List Stmt}{scope:Scope}{dV kV doc pm cdv ct oc:Value}{an od:Option Addr}
  {osl:Array (Option Value)}{N ps:List Str}{sp:Sp}(lk:K.lookup f=some ⟨oc,od, .func (PySem.W.fnOf name qual params body scope dV kV doc pm an cdv ct),osl⟩)(hcd:PySem.W.codeIn K cdv qual=true)(S:FnScope N ps scope)
  (len:∀vs H Q E,sp vs H Q E->vs.length=ps.length)
  (hbody:∀(A:Around) (outer:List Env) (s:Shared) (H:Hp) (vs:List V) (Q:VK) (E:XK),Room k (A.deeper (envOfC qual scope s.heap.objs.size f cdv))->sp vs H Q E->
   ∃t,PSs (Uj CX P w K mg base N qual scope f cdv A outer s H E) body t/\t {nx:=λ_ H'=>Q .non H',rt:=Q} (VU N vs) H):
  FnOk P w K mg base CX (k+1) f (PySem.W.fnOf name qual params body scope dV kV doc pm an cdv ct) ps sp:=by
 refine⟨len,λA outer s H args us vs Q E hr e0 hb r hsp=>?_⟩
 have hl:=len _ _ _ _ hsp
 have KX:K.In s.heap:=e0.mod.kin.keeps λb o e=>(e0.bs b o e).1
 have lim:s.heap.NoLimit:=e0.mod.nolimit.keeps λb o e=>(e0.bs b o e).1
 have hkind:∀y∈ps.zip us,scope.names.lookup y.1=some .local∨(scope.names.lookup y.1=some .cell/\((cellsFrom (s.heap.objs.size+1) scope.names []).lookup y.1).isSome=true):=λ⟨n,v⟩ hy=>by
  rcases S.par n (List.of_mem_zip hy).1 with q |q
  ·exact .inl q
  ·exact .inr ⟨q,PySem.W.cellsFrom_some _ _ _ (.inl q)⟩
 refine codeAny_call_function hr.depth (KX _ _ lk) rfl S.co S.gen rfl (PySem.W.codeRec_of KX hcd) (hb _ _ _ _ ?_)
 refine wpAny_newFunctionEnv_cells S.kind hkind λenv he s1 x=>?_
 subst he
 refine⟨lim.keeps x.toInCall.keep,codeAny_func ?_⟩
 obtain⟨t,ht,hq⟩:=hbody A outer s H vs Q E (hr.deeper _) hsp
 have I:Inv (Uj CX P w K mg base N qual scope f cdv A outer s H E) [] (VU N vs) H s1:=EJ S hr.hd e0 hl r x
 refine wpAny_mono (ht [] s1 (VU N vs) H _ I hq) (λfl s' hs=>?_) λe s' hs=>hs
 have fin:∀{σ':St}{H':Hp}{v:V}{u:Value},Inv (Uj CX P w K mg base N qual scope f cdv A outer s H E) [] σ' H' s'->X9 v u->Q v H'->CE outer P w H s Q u s':=
  fun {σ' H' v u} J rv q=>⟨v,H',J.os,J.bare,J.base,J.hok,rv,q⟩
 cases fl with
 |ret u=>
  obtain⟨v,σ',H',J,rv,q⟩:=hs
  exact fin J rv q
 |next=>
  obtain⟨σ',H',J,q⟩:=hs
  exact fin (v:=V.non) (u:=Value.none) J rfl q
 |brk=>
  obtain⟨_,_,_,q⟩:=hs
  exact False.elim q
 |cont=>
  obtain⟨_,_,_,q⟩:=hs
  exact False.elim q
section
variable {X:Cx}{x:Str}{p pos:Pos}{e:Expr}{es:List Expr}{t:TA}{id T:String}{r:List V->Hp->VK->Prop}
noncomputable def tCB (r:List V->Hp->VK->Prop)(t:TA):TE:=λσ H Q=>t σ H λvs H1=>r vs H1 Q
theorem Xm (hc:Va X (.builtin id) r)(hg:Gl X x)(hm:X.mg x=none)(hv:bootBuiltins x=some (.builtin id))(ha:PA X (e::es) t)(hn:x≠ "__name__":=by decide)(hdb:(x==("__debug__":Str))=false:=by decide)
  (he:starEach (e::es) X.env=(false,eval e X.env)::starEach es X.env:=by rfl)(hpl:(backTo pos (starEach es X.env)).any (·.1)=false:=by rfl):PE X (.Call (.Name x p) (e::es) [] pos) (tCB r t):=by
 intro pins s σ H Q I h
 refine wpAny_Call_Name_kw (Kg I hg hm hv ?_ hn hdb)
 exact PyProof.Rows.callWith_builtin1 (thn (ha pos pins s σ H _ I h) λus s1 r9=>by obtain⟨vs,H1,I1,r1,q1⟩:=r9;exact hc pins s1 σ H1 vs us Q I1 r1 q1) he hpl
theorem Ub (hc:Va X (.type T) r)(hg:Gl X x)(hm:X.mg x=none)(hv:bootBuiltins x=some (.type T))(ha:PA X (e::es) t)(hn:x≠ "__name__":=by decide)(hdb:(x==("__debug__":Str))=false:=by decide)
  (he:starEach (e::es) X.env=(false,eval e X.env)::starEach es X.env:=by rfl)(hpl:(backTo pos (starEach es X.env)).any (·.1)=false:=by rfl):PE X (.Call (.Name x p) (e::es) [] pos) (tCB r t):=by
 intro pins s σ H Q I h
 refine wpAny_Call_Name_kw (Kg I hg hm hv ?_ hn hdb)
 exact PyProof.Rows.callWith_type1 (thn (ha pos pins s σ H _ I h) λus s1 r9=>by obtain⟨vs,H1,I1,r1,q1⟩:=r9;exact hc pins s1 σ H1 vs us Q I1 r1 q1) he hpl
end
end L2
namespace HT
open PySem PyProof.Rows
section
open PySem.SeqAt
open PySem.AutoSeq1 (wpAny_loadPart')
open PySem.MeetsSeq PySem.MeetsSeq2 PySem.MeetsSeq3
end
section
variable {prog:Program}{w:World}{A:Around}{E:Value->Shared->Prop}{s:Shared}
theorem cat_tup {t b:Addr}{vs ws:List Value}{Q:Value->Shared->Prop}(ht:IsTup s.heap t vs.toArray)(hb:IsTup s.heap b ws.toArray)(hv:vs≠ [])
  (h1:ws=[]->Q (.ref t) s)(h2:ws≠ []->Q (.ref s.heap.objs.size) {s with heap:=s.heap.push {cls:=.type "tuple",data:=.seq (vs++ws).toArray}})
  (hsz:vs.length+ws.length<=sizeLine):wpAny (model prog w) A (binaryOp .Add (.ref t) (.ref b)) Q E s:=by
 obtain⟨⟨cls,dd,data,sl⟩,ho,hc,n,hd⟩:=id ht
 obtain⟨⟨cls2,dd2,data2,sl2⟩,ho2,hc2,n2,hd2⟩:=id hb
 simp only at hc hd hc2 hd2
 subst hc hd hc2 hd2
 have e:vs.toArray++ws.toArray=(vs++ws).toArray:=by simp
 by_cases hw:ws=[]
 ·exact concat_meets ⟨_,ho,rfl⟩ ⟨_,ho2,rfl⟩ noFill_tuple_add seq_tuple_add PySem.F.slot_tuple_add PySem.F.entry_tuple_add (PySem.F.args_tuple_add_2 _ _)
   (tuple_addW1 t b vs.toArray ws.toArray n n2 dd dd2 sl sl2 (by simpa using hv) (by simp[hw])) ⟨ho,ho2,h1 hw⟩
 ·refine concat_meets ⟨_,ho,rfl⟩ ⟨_,ho2,rfl⟩ noFill_tuple_add seq_tuple_add PySem.F.slot_tuple_add PySem.F.entry_tuple_add (PySem.F.args_tuple_add_2 _ _)
   (tuple_addW2 t b vs.toArray ws.toArray n n2 dd dd2 sl sl2 (by simpa using hv) (by simpa using hw) (by rw[List.size_toArray,List.size_toArray];exact hsz)) ⟨ho,ho2,?_⟩
  rw[e]
  exact h2 hw
noncomputable def sIx (n d:Nat):Option Int->Nat
 |none=>d
 |some v=>if v<0 then(v+(n:Int)).toNat else min v.toNat n
theorem sIx_none (n d:Nat):sIx n d none=d:=rfl
theorem sIx_nat (n d k:Nat):sIx n d (some (k:Int))=min k n:=by
 show(if(k:Int)<0 then((k:Int)+(n:Int)).toNat else min (k:Int).toNat n)=min k n
 rw[if_neg (by omega),Int.toNat_natCast]
theorem sIx_le (n d:Nat)(hd:d<=n)(o:Option Int):sIx n d o<=n:=by
 cases o with
 |none=>exact hd
 |some v=>
  show(if v<0 then(v+(n:Int)).toNat else min v.toNat n)<=n
  by_cases hv:v<0
  ·rw[if_pos hv];omega
  ·rw[if_neg hv];exact Nat.min_le_right _ _
end
end HT
namespace L2
open PySem PySem.Spec PyProof.Rows
noncomputable abbrev TO:=St->Hp->(Option Int->Hp->Prop)->Prop
noncomputable def PO (X:Cx)(e:Option Expr)(t:TO):Prop:=
 ∀(pins:List (Addr×Obj)) (s:Shared) (σ:St) (H:Hp) (Q:Option Int->Hp->Prop),Inv X pins σ H s->t σ H Q->
  wpAny (model X.prog X.w) X.A (evalPart e X.env) (λu s'=>∃ o H',Inv X pins σ H' s'/\IsPart u o/\Q o H') X.xe s
noncomputable def FQ:TO:=λ_ H Q=>Q none H
noncomputable def N6 (t:TE):TO:=λσ H Q=>t σ H λx H1=>∃ i,x= .int i/\Q (some i) H1
theorem Bx {ns:List Int}:∀{us:List Value},X5 (ns.map V.int) us->IntsAre us ns:=by
 induction ns with
 |nil=>intro us r;rw[List.map_nil] at r;cases r;exact .nil
 |cons n ns ih=>
  intro us r
  rw[List.map_cons] at r
  cases r with
  |cons r1 r2=>
   obtain⟨t,e⟩:=r1
   subst e
   exact .cons n t (ih r2)
section
variable {X:Cx}{e:Expr}{te:TE}{lo hi:Option Expr}{tl th:TO}{pos p2:Pos}
theorem Ur:PO X none FQ:=by
 intro pins s σ H Q I h
 rw[evalPart_none]
 exact wpAny_pure ⟨none,H,I, .none,h⟩
theorem UA (h:PE X e te):PO X (some e) (N6 te):=by
 intro pins s σ H Q I hw
 rw[evalPart_some]
 refine thn (h pins s σ H _ I hw) λu s1 r9=>?_
 obtain⟨x,H1,I1,r1,q1⟩:=r9
 obtain⟨i,rfl,q⟩:=q1
 obtain⟨t,rfl⟩:=r1
 exact⟨some i,H1,I1, .int i t,q⟩
noncomputable def SlR (X:Cx)(r:V->Option Int->Option Int->Hp->VK->Prop):Prop:=
 ∀(pins:List (Addr×Obj)) (s:Shared) (σ:St) (H:Hp) (x:V) (v vl vu:Value) (lo hi:Option Int) (sl:Addr) (Q:VK),Inv X pins σ H s->X9 x v->s.heap.IsSliceOf sl vl vu .none->IsPart vl lo->IsPart vu hi->r x lo hi H Q->
  ∃T id,typeLookup (.type T) "__getitem__" =pure (some (.builtin id))/\s.TypeIs v T/\wpAny (model X.prog X.w) X.A (getItem v (.ref sl)) (EP X pins σ Q) X.xe s
noncomputable def tSl (r:V->Option Int->Option Int->Hp->VK->Prop)(te:TE)(tl th:TO):TE:=λσ H Q=>te σ H λx H1=>tl σ H1 λl H2=>th σ H2 λu H3=>r x l u H3 Q
theorem VY {r:V->Option Int->Option Int->Hp->VK->Prop}(hr:SlR X r)(he:PE X e te)(hl:PO X lo tl)(hu:PO X hi th):PE X (.Subscript e (.Slice lo hi none p2) pos) (tSl r te tl th):=by
 intro pins s σ H Q I h
 refine Subscript_ (thn (he pins s σ H _ I h) λv s1 r9=>?_)
 obtain⟨x,H1,I1,r1,q1⟩:=r9
 refine wpAny_Slice (thn (hl pins s1 σ H1 _ I1 q1) λvl s2 ⟨l,H2,I2,pl,q2⟩=>thn (hu pins s2 σ H2 _ I2 q2) λvu s3 r9=>?_)
 obtain⟨u,H3,I3,pu,q3⟩:=r9
 rw[evalPart_none]
 refine wpAny_pure ?_
 have I4:Inv X pins σ H3 {s3 with heap:=s3.heap.push {cls:=.type "slice",data:=.fields #[vl,vu, .none]}}:=I3.kept (t':=s3.toks) λb ob q=>Heap.get?_push_of_some _ q
 obtain⟨T,id,hT,ht,hg⟩:=hr pins {s3 with heap:=s3.heap.push {cls:=.type "slice",data:=.fields #[vl,vu, .none]}} σ H3 x v vl vu l u s3.heap.objs.size Q I4 r1 (Heap.IsSliceOf.new ..) pl pu q3
 show wpAny (model X.prog X.w) X.A (subscriptTail e (.Slice lo hi none p2) v (.ref s3.heap.objs.size)) (EP X pins σ Q) X.xe {s3 with heap:=s3.heap.push {cls:=.type "slice",data:=.fields #[vl,vu, .none]}}
 exact tail_any (ops:=[.ref s3.heap.objs.size,v]) ht hT hg (by with_unfolding_all rfl)
noncomputable def OJ (xs:List V)(lo hi:Option Int):List V:=(xs.drop (HT.sIx xs.length 0 lo)).take (HT.sIx xs.length xs.length hi-HT.sIx xs.length 0 lo)
theorem F9 (xs:List V)(lo hi:Option Int):(OJ xs lo hi).length<=xs.length:=by
 unfold OJ
 rw[List.length_take,List.length_drop]
 omega
noncomputable def Sm (K:PySem.W.Frag):R2:=λx y H Q=>∃ a b xs ys,x= .ref a/\y= .ref b/\SqT K H a xs/\SqT K H b ys/\xs≠ []/\xs.length+ys.length<=sizeLine/\
 (ys=[]->Q (.ref a) H)/\(ys≠ []->∀p,H p=none->Q (.ref p) (upd H p (.tup (xs++ys))))
theorem X5.nil_iff {xs:List V}{us:List Value}(r:X5 xs us):us=[]↔xs=[]:=by
 cases r with
 |nil=>simp
 |cons _ _=>simp
theorem M4:OpR X (binaryOp .Add) (Sm X.K):=by
 intro pins s σ H x y v u Q I rx ry h
 obtain⟨a,b,xs,ys,rfl,rfl,ha,hb,hx,hz,q1,q2⟩:=h
 cases rx
 cases ry
 obtain⟨its,r1,p1,_⟩:=I.tuple ha
 obtain⟨its2,r2,p2,_⟩:=I.tuple hb
 refine HT.cat_tup p1 p2 (λz=>hx (r1.nil_iff.mp z)) (λz=>⟨.ref a,H,I,rfl,q1 (r2.nil_iff.mp z)⟩) (λz=>?_) (by rw[←r1.length, ←r2.length];exact hz)
 refine⟨.ref s.heap.objs.size,_,I.laid (t':=s.toks) (o:=.tup (xs++ys)) (λb ob q=>Heap.get?_push_of_some _ q) (Nat.le_refl _) ?_,rfl,q2 (λw=>z (r2.nil_iff.mpr w)) _ (I.hok.fresh (Nat.le_refl _))⟩
 exact⟨by rw[List.length_append];exact hz,_,r1.append r2,Ka.new _ _⟩
end
noncomputable def ixN (n:Nat)(i:Int):Option Nat:=if 0<=i then(if i<n then some i.toNat else none) else if-(n:Int)<=i then some (i+n).toNat else none
noncomputable def atI {α:Type}(xs:List α)(i:Int):Option α:=(ixN xs.length i).bind λj=>xs[j]?
theorem B3 {n:Nat}{i:Int}{j:Nat}(h:ixN n i=some j):seqIndex? i n=some j/\j<n/\ -(n:Int)<=i/\i<n:=by
 unfold ixN at h
 by_cases h0:0<=i
 ·rw[if_pos h0] at h
  by_cases h1:i<n
  ·rw[if_pos h1] at h
   have e:i.toNat=j:=Option.some.inj h
   exact⟨by rw[seqIndex_of h0 h1,e],by omega,by omega,h1⟩
  ·rw[if_neg h1] at h;cases h
 ·rw[if_neg h0] at h
  by_cases h1: -(n:Int)<=i
  ·rw[if_pos h1] at h
   have e:(i+n).toNat=j:=Option.some.inj h
   exact⟨by rw[seqIndex_neg (by omega) h1,e],by omega,h1,by omega⟩
  ·rw[if_neg h1] at h;cases h
theorem HG {α:Type}{xs:List α}{i:Int}{v:α}(h:atI xs i=some v):∃j,seqIndex? i xs.length=some j/\xs[j]?=some v/\j<xs.length/\ -(xs.length:Int)<=i/\i<xs.length:=by
 unfold atI at h
 cases e:ixN xs.length i with
 |none=>rw[e] at h;cases h
 |some j=>
  rw[e] at h
  obtain⟨h1,h2,h3,h4⟩:=B3 e
  exact⟨j,h1,h,h2,h3,h4⟩
noncomputable def Es (b:Expr):Prop:=∀ o i,subscripted b false o i=operate [o,i] (getItem o i)
noncomputable def IxR (X:Cx)(r:R2):Prop:=
 ∀(value slice:Expr) (pins:List (Addr×Obj)) (s:Shared) (σ:St) (H:Hp) (x y:V) (v u:Value) (Q:VK),Inv X pins σ H s->X9 x v->X9 y u->r x y H Q->
  subscripted slice false v u=operate [v,u] (getItem v u)->wpAny (model X.prog X.w) X.A (subscriptTail value slice v u) (EP X pins σ Q) X.xe s
noncomputable def MtR (X:Cx)(id:String)(r:V->List V->Hp->VK->Prop):Prop:=
 ∀(pins:List (Addr×Obj)) (s:Shared) (σ:St) (H:Hp) (x:V) (xs:List V) (v:Value) (us:List Value) (Q:VK),Inv X pins σ H s->X9 x v->X5 xs us->r x xs H Q->
  wpAny (model X.prog X.w) X.A (call (.builtin id) (v::us)) (EP X pins σ Q) X.xe s
section
variable {X:Cx}{a b:Expr}{ta tb:TE}{pos:Pos}
theorem QO {r:R2}(hr:IxR X r)(ha:PE X a ta)(hb:PE X b tb)(hs:Es b):PE X (.Subscript a b pos) (tOp r ta tb):=by
 intro pins s σ H Q I h
 exact Subscript_ (Sk ha hb I h λv u s2 x y H2 I2 rx ry q=>hr a b pins s2 σ H2 x y v u Q I2 rx ry q (hs _ _))
noncomputable def BN (K:PySem.W.Frag):R2:=λx y H Q=>∃ p xs i v,x= .ref p/\y= .int i/\SqL K H p xs/\atI xs i=some v/\Q v H
noncomputable def FR (K:PySem.W.Frag):R2:=λx y H Q=>∃ p xs i v,x= .ref p/\y= .int i/\SqT K H p xs/\atI xs i=some v/\Q v H
theorem NT:IxR X (BN X.K):=by
 intro value slice pins s σ H x y v u Q I rx ry h hs
 obtain⟨p,xs,i,z,rfl,rfl,hq,he,q⟩:=h
 cases rx
 obtain⟨t,rfl⟩:=ry
 obtain⟨its,r,pl,hz⟩:=I.list hq
 obtain⟨j,h1,h2,h3,h4,h5⟩:=HG he
 obtain⟨w,ew,rw'⟩:=r.get h2
 have hl:=r.length
 have hn:=C5
 have fin:EP X pins σ Q w s:=⟨z,H,I,rw',q⟩
 by_cases h0:0<=i
 ·have hj:i.toNat=j:=by
   rw[seqIndex_of h0 h5] at h1
   exact Option.some.inj h1
  exact item_listR pl.isList h0 (by omega) (by rw[hj];simpa using ew) fin hs
 ·have hj:(i+(its.toArray.size:Int)).toNat=j:=by
   rw[seqIndex_neg (by omega) h4] at h1
   rw[List.size_toArray, ←hl]
   exact Option.some.inj h1
  exact subscriptTail_builtinR (x:=w) pl.isList.typeIs slot_list_getitem.lookup
   (wpAny_getItem_list_neg (Q:=λr s'=>r=w/\EP X pins σ Q r s') pl.isList (by omega) (by rw[List.size_toArray]<;> omega) (by omega) (by rw[hj];simpa using ew) ⟨rfl,fin⟩) hs
theorem PU:IxR X (FR X.K):=by
 intro value slice pins s σ H x y v u Q I rx ry h hs
 obtain⟨p,xs,i,z,rfl,rfl,hq,he,q⟩:=h
 cases rx
 obtain⟨t,rfl⟩:=ry
 obtain⟨its,r,pl,hz⟩:=I.tuple hq
 obtain⟨j,h1,h2,h3,h4,h5⟩:=HG he
 obtain⟨w,ew,rw'⟩:=r.get h2
 have hl:=r.length
 have hn:=C5
 have fin:EP X pins σ Q w s:=⟨z,H,I,rw',q⟩
 exact subscriptTail_builtinR (x:=w) pl.typeIs slot_tuple_getitem.lookup
  (getItem_tuple (j:=j) (Q:=λr s'=>r=w/\EP X pins σ Q r s') pl (by omega) (by omega) (by rw[List.size_toArray, ←hl];exact h1) (by simpa using ew) ⟨rfl,fin⟩) hs
theorem Br (its:List Value)(n j:Nat)(u:Value):Obj.mapSeq (·.setIfInBounds j u) {cls:=.type "list",data:=.seq its.toArray n}={cls:=.type "list",data:=.seq (its.set j u).toArray n}:=by
 simp[Obj.mapSeq]
theorem Inv.lst {pins:List (Addr×Obj)}{σ:St}{H:Hp}{s:Shared}{p:Addr}{xs:List V}(I:Inv X pins σ H s)(h:H p=some (.lst xs)):
  ∃(its:List Value) (n:Nat),X5 xs its/\s.heap.get? p=some {cls:=.type "list",data:=.seq its.toArray n}/\xs.length<=sizeLine:=by
 obtain⟨z,its,n,r,e⟩:=I.hok p _ h
 exact⟨its,n,r,e,z⟩
theorem Inv.lstUpd {pins:List (Addr×Obj)}{σ:St}{H:Hp}{s:Shared}{p:Addr}{xs ys:List V}{its its':List Value}{n n':Nat}{f:Obj->Obj}(I:Inv X pins σ H s)(h:H p=some (.lst xs))
  (ho:s.heap.get? p=some {cls:=.type "list",data:=.seq its.toArray n})(hf:f {cls:=.type "list",data:=.seq its.toArray n}={cls:=.type "list",data:=.seq its'.toArray n'})(r:X5 ys its')(hz:ys.length<=sizeLine)(t:Nat):
  Inv X pins σ (upd H p (.lst ys)) {s with heap:=s.heap.update p f,toks:=t}:=by
 have e:(s.heap.update p f).get? p=some {cls:=.type "list",data:=.seq its'.toArray n'}:=by
  rw[Heap.get?_update_self f ho (by rw[hf]<;> rfl),hf]
 refine I.write (x:=p) (e:=p) (by rw[h];trivial) (.inl rfl) (λb u hb q=>(Heap.get?_update_other _ _ (Ne.symm hb)).trans q) ⟨_,e⟩ ?_
 exact⟨hz,its',n',r,e⟩
noncomputable def Oo:V->V->V->Hp->(Hp->Prop)->Prop:=λo i v H Q=>∃ p xs k j,o= .ref p/\i= .int k/\H p=some (.lst xs)/\ixN xs.length k=some j/\Q (upd H p (.lst (xs.set j v)))
theorem KJ:SM X Oo:=by
 intro pins s σ H o i v ov iv u Q I ro ri rv h
 obtain⟨p,xs,k,j,rfl,rfl,hp,hj,q⟩:=h
 cases ro
 obtain⟨t,rfl⟩:=ri
 obtain⟨its,n,r,ho,hz⟩:=I.lst hp
 obtain⟨h1,h2,h3,h4⟩:=B3 hj
 have hl:=r.length
 have hn:=C5
 have I':Inv X pins σ (upd H p (.lst (xs.set j v))) {s with heap:=s.heap.update p (Obj.mapSeq (·.setIfInBounds j u))}:=
  I.lstUpd hp ho (Br its n j u) (r.set rv j) (by rw[List.length_set];exact hz) s.toks
 by_cases h0:0<=k
 ·have hk:k.toNat=j:=by
   rw[seqIndex_of h0 h4] at h1
   exact Option.some.inj h1
  exact PySem.W.ki_setAt ho h0 (by omega) (by rw[List.size_toArray, ←hl];exact h4) (by rw[hk];exact⟨_,I',q⟩)
 ·have hk:(k+(its.toArray.size:Int)).toNat=j:=by
   rw[seqIndex_neg (by omega) h3] at h1
   rw[List.size_toArray, ←hl]
   exact Option.some.inj h1
  exact PySem.W.ki_setBack ho (by omega) (by rw[List.size_toArray, ←hl];exact h3) (by omega) (by rw[hk];exact⟨_,I',q⟩)
theorem VL (lo hi:Option Int)(n:Nat):(sliceBounds lo hi none n).1=((HT.sIx n 0 lo:Nat):Int)/\(sliceBounds lo hi none n).2.1=((HT.sIx n n hi:Nat):Int)/\(sliceBounds lo hi none n).2.2=1:=by
 refine⟨?_,?_,rfl⟩
 ·cases lo with
  |none=>simp[sliceBounds,HT.sIx]
  |some i=>
   simp only[sliceBounds,HT.sIx,Option.getD_none,show(1:Int) > 0 by decide,if_true]
   by_cases h:i<0
   ·simp only[h,if_true]<;> omega
   ·simp only[h,if_false]<;> omega
 ·cases hi with
  |none=>simp[sliceBounds,HT.sIx]
  |some i=>
   simp only[sliceBounds,HT.sIx,Option.getD_none,show(1:Int) > 0 by decide,if_true]
   by_cases h:i<0
   ·simp only[h,if_true]<;> omega
   ·simp only[h,if_false]<;> omega
theorem Gd (its:List Value)(lo hi:Option Int):slicePick its.toArray lo hi none=((its.drop (HT.sIx its.length 0 lo)).take (HT.sIx its.length its.length hi-HT.sIx its.length 0 lo)).toArray:=by
 obtain⟨h1,h2,h3⟩:=VL lo hi its.toArray.size
 unfold slicePick
 rw[h1,h2,h3]
 simp only[sliceRange_one,pick_run,List.size_toArray]<;> rfl
noncomputable def Pm (K:PySem.W.Frag):V->Option Int->Option Int->Hp->VK->Prop:=λx lo hi H Q=>∃ a xs,x= .ref a/\SqL K H a xs/\∀p,H p=none->Q (.ref p) (upd H p (.lst (OJ xs lo hi)))
theorem Og:SlR X (Pm X.K):=by
 intro pins s σ H x v vl vu lo hi sl Q I rx hs pl pu h
 obtain⟨a,xs,rfl,hx,q⟩:=h
 cases rx
 obtain⟨its,r,ht,hz⟩:=I.list hx
 have hlen:=r.length
 refine⟨"list",_,slot_list_getitem.lookup,ht.isList.typeIs,?_⟩
 refine wpAny_getItem_list_slice ht.isList hs pl pu .none (by simp) ?_ (by rw[List.size_toArray]<;> omega)
 rw[Gd, ←hlen]
 refine⟨.ref s.heap.objs.size,_,I.laid (t':=s.toks) (o:=.lst (OJ xs lo hi)) (λb ob q=>Heap.get?_push_of_some _ q) (Nat.le_refl _) ?_,rfl,q _ (I.hok.fresh (Nat.le_refl _))⟩
 exact⟨Nat.le_trans (F9 xs lo hi) hz,_,0,(r.drop (HT.sIx xs.length 0 lo)).take (HT.sIx xs.length xs.length hi-HT.sIx xs.length 0 lo),Heap.get?_push_size _ rfl⟩
noncomputable def J9:V->Bool
 | .non=>true
 | .bl _=>true
 | .int _=>true
 | .str _=>true
 |_=>false
noncomputable def eqV:V->V->Bool
 | .non, .non=>true
 | .bl a, .bl b=>a==b
 | .bl a, .int b=>(if a then 1 else 0)==b
 | .int a, .bl b=>a==(if b then 1 else 0)
 | .int a, .int b=>a==b
 | .str a, .str b=>a==b
 |_,_=>false
theorem Rf {A:Around}{s:Shared}{y x:V}{u v:Value}(ry:X9 y u)(rx:X9 x v)(fy:J9 y=true)(fx:J9 x=true):SeqAt.EqAt A s u v (eqV y x):=by
 cases y with
 |non=>
  cases ry
  cases x with
  |non=>cases rx;exact SeqAt.EqAt.same _
  |bl b=>cases rx;exact SeqAt.EqAt.none_bool b
  |int b=>obtain⟨t,rfl⟩:=rx;exact SeqAt.EqAt.none_int b t
  |str b=>obtain⟨t,rfl⟩:=rx;exact SeqAt.EqAt.none_str b t
  |_=>exact absurd (show false=true from fx) Bool.false_ne_true
 |bl a=>
  cases ry
  cases x with
  |non=>cases rx;exact SeqAt.EqAt.bool_none a
  |bl b=>cases rx;exact SeqAt.EqAt.bool_bool a b
  |int b=>obtain⟨t,rfl⟩:=rx;exact SeqAt.EqAt.bool_int a b t
  |str b=>obtain⟨t,rfl⟩:=rx;exact SeqAt.EqAt.bool_str a b t
  |_=>exact absurd (show false=true from fx) Bool.false_ne_true
 |int a=>
  obtain⟨t',rfl⟩:=ry
  cases x with
  |non=>cases rx;exact SeqAt.EqAt.int_none a t'
  |bl b=>cases rx;exact SeqAt.EqAt.int_bool a t' b
  |int b=>obtain⟨t,rfl⟩:=rx;exact SeqAt.EqAt.int_int a t' b t
  |str b=>obtain⟨t,rfl⟩:=rx;exact SeqAt.EqAt.int_str a t' b t
  |_=>exact absurd (show false=true from fx) Bool.false_ne_true
 |str a=>
  obtain⟨t',rfl⟩:=ry
  cases x with
  |non=>cases rx;exact SeqAt.EqAt.str_none a t'
  |bl b=>cases rx;exact SeqAt.EqAt.str_bool a t' b
  |int b=>obtain⟨t,rfl⟩:=rx;exact SeqAt.EqAt.str_int a t' b t
  |str b=>obtain⟨t,rfl⟩:=rx;exact SeqAt.EqAt.str_str a t' b t
  |_=>exact absurd (show false=true from fx) Bool.false_ne_true
 |_=>exact absurd (show false=true from fy) Bool.false_ne_true
noncomputable def eqU (x:V)(u:Value):Bool:=match u with
 | .none=>eqV .non x
 | .bool b=>eqV (.bl b) x
 | .int i _=>eqV (.int i) x
 | .str z _=>eqV (.str z) x
 |_=>false
theorem DI {x y:V}{u:Value}(r:X9 y u)(f:J9 y=true):eqU x u=eqV y x:=by
 cases y with
 |non=>cases r;rfl
 |bl b=>cases r;rfl
 |int i=>obtain⟨t,rfl⟩:=r;rfl
 |str z=>obtain⟨t,rfl⟩:=r;rfl
 |_=>exact absurd (show false=true from f) Bool.false_ne_true
theorem Ug {x:V}:∀{xs:List V}{us:List Value},X5 xs us->xs.all J9=true->us.any (eqU x)=xs.any λy=>eqV y x
 |_,_, .nil,_=>rfl
 |y::xs,u::us, .cons r t,f=>by
  rw[List.all_cons,Bool.and_eq_true] at f
  rw[List.any_cons,List.any_cons,DI r f.1,Ug t f.2]
theorem Qu {A:Around}{s:Shared}{x:V}{v:Value}(rx:X9 x v)(fx:J9 x=true):∀{xs:List V}{us:List Value},X5 xs us->xs.all J9=true->∀u∈us,SeqAt.EqAt A s u v (eqU x u)
 |_,_, .nil,_=>λu hu=>by cases hu
 |y::xs,u::us, .cons r t,f=>λu' hu=>by
  rw[List.all_cons,Bool.and_eq_true] at f
  rcases List.mem_cons.mp hu with rfl |hu
  ·rw[DI r f.1];exact Rf r rx f.1 fx
  ·exact Qu rx fx t f.2 u' hu
noncomputable def inV (x:V)(xs:List V):Bool:=xs.any λy=>eqV y x
noncomputable def rIn (K:PySem.W.Frag)(neg:Bool):R2:=λx y H Q=>∃ p xs,y= .ref p/\(SqL K H p xs∨SqT K H p xs)/\J9 x=true/\xs.all J9=true/\Q (.bl (if neg then !inV x xs else inV x xs)) H
theorem GV:OpR X (compareOp .In) (rIn X.K false):=by
 intro pins s σ H x y v u Q I rx ry h
 obtain⟨p,xs,rfl,hq,fx,fs,q⟩:=h
 cases ry
 rcases hq with hq |hq
 ·obtain⟨its,r,pl,hz⟩:=I.list hq
  refine SeqAt.in_listAt (eqU x) pl.isList (λw hw=>Qu rx fx r fs w (by simpa using hw)) ⟨.bl _,H,I,rfl,?_⟩
  rw[show its.toArray.any (eqU x)=its.any (eqU x) by simp,Ug r fs]
  exact q
 ·obtain⟨its,r,pl,hz⟩:=I.tuple hq
  refine SeqAt.in_tupleAt (eqU x) pl (λw hw=>Qu rx fx r fs w (by simpa using hw)) ⟨.bl _,H,I,rfl,?_⟩
  rw[show its.toArray.any (eqU x)=its.any (eqU x) by simp,Ug r fs]
  exact q
theorem VA:OpR X (compareOp .NotIn) (rIn X.K true):=by
 intro pins s σ H x y v u Q I rx ry h
 obtain⟨p,xs,rfl,hq,fx,fs,q⟩:=h
 cases ry
 rcases hq with hq |hq
 ·obtain⟨its,r,pl,hz⟩:=I.list hq
  refine SeqAt.notIn_listAt (eqU x) pl.isList (λw hw=>Qu rx fx r fs w (by simpa using hw)) ⟨.bl _,H,I,rfl,?_⟩
  rw[show its.toArray.any (eqU x)=its.any (eqU x) by simp,Ug r fs]
  exact q
 ·obtain⟨its,r,pl,hz⟩:=I.tuple hq
  refine SeqAt.notIn_tupleAt (eqU x) pl (λw hw=>Qu rx fx r fs w (by simpa using hw)) ⟨.bl _,H,I,rfl,?_⟩
  rw[show its.toArray.any (eqU x)=its.any (eqU x) by simp,Ug r fs]
  exact q
theorem GD:Va X (.builtin "len") (λxs H Q=>∃ p ys,xs=[.ref p]/\(SqL X.K H p ys∨SqT X.K H p ys)/\Q (.int ys.length) H):=by
 intro pins s σ H xs us Q I r h
 obtain⟨p,ys,rfl,hq,q⟩:=h
 obtain⟨u,rfl,rx⟩:=Dj r
 cases rx
 have hn:=C5
 rcases hq with hq |hq
 ·obtain⟨its,r',pl,hz⟩:=I.list hq
  have hlen:=r'.length
  exact Calls.call_len_list pl.isList (by simp only[List.size_toArray]<;> omega) ⟨.int ys.length,H,I.tok _,⟨s.toks+1,by rw[List.size_toArray,hlen]⟩,q⟩
 ·obtain⟨its,r',pl,hz⟩:=I.tuple hq
  have hlen:=r'.length
  exact len_tuple pl (by simp only[List.size_toArray]<;> omega) ⟨.int ys.length,H,I.tok _,⟨s.toks+1,by rw[List.size_toArray,hlen]⟩,q⟩
theorem GG:Va X (.type "list") (λxs H Q=>∃ p ys,xs=[.ref p]/\(SqL X.K H p ys∨SqT X.K H p ys)/\∀l,H l=none->Q (.ref l) (upd H l (.lst ys))):=by
 intro pins s σ H xs us Q I r h
 obtain⟨p,ys,rfl,hq,q⟩:=h
 obtain⟨u,rfl,rx⟩:=Dj r
 cases rx
 have fin:∀(its:List Value),X5 ys its->ys.length<=sizeLine->∀(h':Heap) (c':Nat),(∀b o',s.heap.get? b=some o'->h'.get? b=some o')->
   h'.get? s.heap.objs.size=some {cls:=.type "list",dict:=none,data:=.seq its.toArray c',slots:=#[]}->EP X pins σ Q (.ref s.heap.objs.size) {s with heap:=h'}:=λits r' hz h' c' kp e=>
  ⟨.ref s.heap.objs.size,_,I.laid (t':=s.toks) kp (Nat.le_refl _) (show ZA X.prog X.w _ h' _ (.lst ys) from⟨hz,its,c',r',e⟩),rfl,q _ (I.hok.fresh (Nat.le_refl _))⟩
 rcases hq with hq |hq
 ·obtain⟨its,r',pl,hz⟩:=I.list hq
  have hlen:=r'.length
  obtain⟨o,ho,hc,n,hd⟩:=pl.isList
  exact call_list_seq p (.inl rfl) ho hc hd (λh' c' kp e=>fin its r' hz h' c' kp e) (by simp only[List.size_toArray]<;> omega)
 ·obtain⟨its,r',pl,hz⟩:=I.tuple hq
  have hlen:=r'.length
  obtain⟨o,ho,hc,n,hd⟩:=pl
  exact call_list_seq p (.inr rfl) ho hc hd (λh' c' kp e=>fin its r' hz h' c' kp e) (by simp only[List.size_toArray]<;> omega)
noncomputable def tyV (K:PySem.W.Frag)(T:String)(x:V)(H:Hp):Prop:=match x with
 | .str _=>T= "str"
 | .int _=>T= "int"
 | .ref p=>(T= "list" /\∃xs,SqL K H p xs)∨(T= "tuple" /\∃o,K.lookup p=some o/\o.cls= .type "tuple" /\o.dict=none)∨
   (T= "dict" /\((∃kvs,H p=some (.dK kvs))∨∃kvs,H p=some (.dT kvs)))∨(T= "set" /\∃S n,H p=some (.set S n))
 |_=>False
theorem LQ {pins:List (Addr×Obj)}{σ:St}{H:Hp}{s:Shared}{T:String}{x:V}{v:Value}(I:Inv X pins σ H s)(r:X9 x v)(ty:tyV X.K T x H):
  s.TypeIs v T/\∀a,v= .ref a->∃ob,s.heap.get? a=some ob/\ob.dict=none:=by
 cases x with
 |str z=>
  obtain⟨t,rfl⟩:=r
  cases(show T= "str" from ty)
  exact⟨typeIs_str s z t,λ_ e=>nomatch e⟩
 |int i=>
  obtain⟨t,rfl⟩:=r
  cases(show T= "int" from ty)
  exact⟨typeIs_int s i t,λ_ e=>nomatch e⟩
 |ref p=>
  cases r
  rcases ty with⟨rfl,xs,hq⟩ | ⟨rfl,o,hk,hc,hd⟩ | ⟨rfl,hk⟩ | ⟨rfl,S,n,hk⟩
  ·obtain⟨its,_,pl,_⟩:=I.list hq
   refine⟨pl.isList.typeIs,λa e=>?_⟩
   cases e
   obtain⟨o,n,e,c,hd,_⟩:=pl
   exact⟨o,e,hd⟩
  ·refine⟨⟨o,I.kIn p o hk,hc⟩,λa e=>?_⟩
   cases e
   exact⟨o,I.kIn _ o hk,hd⟩
  ·have z:∃o,s.heap.get? p=some o/\o.ExactDict:=by
    rcases hk with⟨kvs,hk⟩ | ⟨kvs,hk⟩
    ·obtain⟨_,_,_,_,o,_,_,e,ex,_⟩:=I.hok p _ hk
     exact⟨o,e,ex⟩
    ·obtain⟨_,_,_,_,o,_,_,e,ex,_⟩:=I.hok p _ hk
     exact⟨o,e,ex⟩
   obtain⟨o,e,ex⟩:=z
   refine⟨⟨o,e,ex.1⟩,λa e2=>?_⟩
   cases e2
   exact⟨o,e,ex.2.1⟩
  ·obtain⟨o,_,_,_,e,ex,_⟩:=I.hok p _ hk
   refine⟨⟨o,e,ex.1⟩,λa e2=>?_⟩
   cases e2
   exact⟨o,e,ex.2.1⟩
 |_=>exact False.elim ty
noncomputable def SK (K:PySem.W.Frag)(T:String)(r:V->List V->Hp->VK->Prop)(to:TE):TE:=λσ H Q=>to σ H λx H1=>tyV K T x H1/\r x [] H1 Q
noncomputable def tBM (K:PySem.W.Frag)(T:String)(r:V->List V->Hp->VK->Prop)(to:TE)(t:TA):TE:=λσ H Q=>to σ H λx H1=>tyV K T x H1/\t σ H1 λxs H2=>r x xs H2 Q
variable {o e:Expr}{es:List Expr}{to:TE}{t:TA}{name:Str}{apos cpos:Pos}{T id:String}{r:V->List V->Hp->VK->Prop}
theorem O0 (pa:PlainAttrs T)(slot:Slot T name id)(hty:typeOf (.builtin id)=pure (.type "method_descriptor"))(hm:MtR X id r)(ho:PE X o to)
  (hbase:attributeBase o name X.env (eval o X.env)=eval o X.env:=by rfl)(hline:(apos.endLine==cpos.line)=true:=by rfl):PE X (.Call (.Attribute o name apos) [] [] cpos) (SK X.K T r to):=by
 intro pins s σ H Q I h
 refine wpAny_Call_method0_late hbase hline (thn (ho pins s σ H _ I h) λv s1 r9=>?_)
 obtain⟨x,H1,I1,r1,ty,q1⟩:=r9
 obtain⟨h1,h2⟩:=LQ I1 r1 ty
 exact⟨T,id,pa,slot,hty,h1,h2,Calls.callWith_builtin rfl (PySem.evalArgs_none (hm pins s1 σ H1 x [] v [] Q I1 r1 .nil q1))⟩
theorem Y8 (pa:PlainAttrs T)(slot:Slot T name id)(hty:typeOf (.builtin id)=pure (.type "method_descriptor"))(hm:MtR X id r)(ho:PE X o to)(ha:PA X (e::es) t)
  (hbase:attributeBase o name X.env (eval o X.env)=eval o X.env:=by rfl)
  (hfew:((backTo cpos (starEach (e::es) X.env)).all (λx=>!x.1)&&(backToKw cpos (keywordEach [] X.env)).all (λx=>x.1.isSome)
   &&decide ((e::es).length+([]:List Keyword).length+(if([]:List Keyword).isEmpty then 0 else 1)<30))=true:=by rfl)
  (hline:(apos.endLine==cpos.line)=true:=by rfl)(hs:starEach (e::es) X.env=(false,eval e X.env)::starEach es X.env:=by rfl)(hplain:(backTo cpos (starEach es X.env)).any (·.1)=false:=by rfl):
  PE X (.Call (.Attribute o name apos) (e::es) [] cpos) (tBM X.K T r to t):=by
 intro pins s σ H Q I h
 refine wpAny_Call_method_late hbase hfew hline rfl (thn (ho pins s σ H _ I h) λv s1 r9=>?_)
 obtain⟨x,H1,I1,r1,ty,q1⟩:=r9
 obtain⟨h1,h2⟩:=LQ I1 r1 ty
 refine⟨T,id,pa,slot,hty,h1,h2,?_⟩
 have hA:=ha cpos pins s1 σ H1 _ I1 q1
 rw[hs] at hA⊢
 refine Calls.callWith_builtin (by show(false || (backTo cpos (starEach es X.env)).any (·.1))=false;rw[hplain]<;> rfl) (Calls.evalArgs_plain ?_)
 exact thn hA λus s2 r9=>by obtain⟨vs,H2,I2,r2,q2⟩:=r9;exact hm pins s2 σ H2 x vs v us Q I2 r1 r2 q2
/- xs.append(e), list.index on a module's tuple .. are MtR facts of 06m -/
end
noncomputable def MtM (X:Cx)(id:String)(r:V->List V->Hp->VK->Prop):Prop:=
 ∀(pins:List (Addr×Obj)) (s:Shared) (σ:St) (H:Hp) (x:V) (xs:List V) (v:Value) (us:List Value) (Q:VK),Inv X pins σ H s->X9 x v->X5 xs us->r x xs H Q->
  wpAny (model X.prog X.w) X.A (call (.builtin id) (v::us)) (EP X pins σ Q) X.xe s
theorem X5.one:∀{x:V}{us:List Value},X5 [x] us->∃u,us=[u]/\X9 x u:=fun {x us} h=>by
 cases h with
 |cons r t=>
  cases t
  exact⟨_,rfl,r⟩
theorem X5.two:∀{x y:V}{us:List Value},X5 [x,y] us->∃u v,us=[u,v]/\X9 x u/\X9 y v:=fun {x y us} h=>by
 cases h with
 |cons r t=>
  cases t with
  |cons q t=>
   cases t
   exact⟨_,_,rfl,r,q⟩
theorem X5.zero:∀{us:List Value},X5 [] us->us=[]
 |_, .nil=>rfl
theorem X5.dropLast {xs:List V}{us:List Value}(h:X5 xs us):X5 xs.dropLast us.dropLast:=by
 induction h with
 |nil=>exact .nil
 |cons r t ih=>
  cases t with
  |nil=>exact .nil
  |cons q t'=>exact .cons r ih
theorem X5.eraseIdx:∀{xs:List V}{us:List Value} (i:Nat),X5 xs us->X5 (xs.eraseIdx i) (us.eraseIdx i)
 |_,_,_, .nil=>.nil
 |_,_,0, .cons _ t=>t
 |_,_,i+1, .cons r t=>.cons r (X5.eraseIdx i t)
theorem X5.reverse {xs:List V}{us:List Value}(h:X5 xs us):X5 xs.reverse us.reverse:=by
 induction h with
 |nil=>exact .nil
 |cons r t ih=>rw[List.reverse_cons,List.reverse_cons];exact X5.append ih (.cons r .nil)
theorem X5.rep {xs:List V}{us:List Value}(h:X5 xs us):∀k:Nat,X5 (List.replicate k xs).flatten (List.replicate k us).flatten
 |0=>.nil
 |k+1=>by
  rw[List.replicate_succ,List.replicate_succ,List.flatten_cons,List.flatten_cons]
  exact X5.append h (X5.rep h k)
theorem Bj {α:Type}(l:List α):l.eraseIdx (l.length-1)=l.dropLast:=by
 induction l with
 |nil=>rfl
 |cons a r ih=>
  cases r with
  |nil=>rfl
  |cons b r=>
   have e:(a::b::r).length-1=((b::r).length-1)+1:=by
    have h1:(a::b::r).length=r.length+2:=rfl
    have h2:(b::r).length=r.length+1:=rfl
    omega
   rw[e,List.eraseIdx_cons_succ,ih]
   all_goals rfl
theorem Gz {α:Type}:∀(l:List α) (i:Nat),(l.eraseIdx i).length<=l.length
 | [],_=>Nat.le_refl _
 |_::_,0=>Nat.le_succ _
 |_::r,i+1=>Nat.succ_le_succ (Gz r i)
theorem G5 (its:List Value):∀(k:Nat) (acc:List Value),
  List.foldl (λx1 x2=>x1++x2) acc.toArray (List.replicate k its.toArray)=(acc++(List.replicate k its).flatten).toArray
 |0,acc=>by simp
 |k+1,acc=>by
  have e:acc.toArray++its.toArray=(acc++its).toArray:=by simp
  have e2:(acc++its)++(List.replicate k its).flatten=acc++(List.replicate (k+1) its).flatten:=by
   rw[List.replicate_succ,List.flatten_cons,List.append_assoc]
  rw[←e2, ←G5 its k (acc++its), ←e,List.replicate_succ,List.foldl_cons]
section
variable {X:Cx}{pins:List (Addr×Obj)}{σ:St}{H:Hp}{s:Shared}{l b:Addr}{xs ys zs:List V}
theorem Inv.lset {its its':List Value}{n:Nat}{f:Array Value->Array Value}{t':Nat}(I:Inv X pins σ H s)(hH:H l=some (.lst xs))
  (e:s.heap.get? l=some {cls:=.type "list",data:=.seq its.toArray n})(hf:f its.toArray=its'.toArray)(hv:X5 ys its')(hz:ys.length<=sizeLine):
  Inv X pins σ (upd H l (.lst ys)) {s with heap:=s.heap.update l (Obj.mapSeq f),toks:=t'}:=by
 have q:=PySem.IsL.update e f
 rw[hf] at q
 refine I.write (x:=l) (e:=l) (by rw[hH];exact trivial) (.inl rfl) (λb' u hb hu=>(Heap.get?_update_other s.heap (Obj.mapSeq f) (Ne.symm hb)).trans hu) ⟨_,q⟩ ?_
 exact⟨hz,its',_,hv,q⟩
theorem Inv.lnew {its:List Value}{t':Nat}(I:Inv X pins σ H s)(hv:X5 ys its)(hz:ys.length<=sizeLine):
  Inv X pins σ (upd H s.heap.objs.size (.lst ys)) {s with heap:=s.heap.push {cls:=.type "list",data:=.seq its.toArray},toks:=t'}:=
 I.laid (λ_ _ q=>Heap.get?_push_of_some _ q) (Nat.le_refl _) ⟨hz,its,0,hv,Heap.get?_push_size _ rfl⟩
theorem Inv.fresh (I:Inv X pins σ H s):H s.heap.objs.size=none:=I.hok.fresh (Nat.le_refl _)
theorem Inv.lstM (I:Inv X pins σ H s)(hH:H l=some (.lst xs)):xs.length<=sizeLine/\∃(its:List Value) (n:Nat),X5 xs its/\xs.length=its.length/\s.heap.get? l=some {cls:=.type "list",data:=.seq its.toArray n}:=by
 obtain⟨z,its,n,r,e⟩:=I.hok l _ hH
 exact⟨z,its,n,r,r.length,e⟩
theorem V0 {n:Nat}(h:n<=sizeLine):Builtin.List.listTooLong n=false:=by
 unfold Builtin.List.listTooLong
 exact decide_eq_false (by omega)
end
section
variable {X:Cx}
noncomputable def UL:V->List V->Hp->VK->Prop:=λx vs H Q=>∃ l xs y,x= .ref l/\vs=[y]/\H l=some (.lst xs)/\xs.length<sizeLine/\Q .non (upd H l (.lst (xs++[y])))
theorem XI:MtM X "list.append" UL:=by
 intro pins s σ H x vs v us Q I rx rv h
 obtain⟨l,xs,y,rfl,rfl,hH,hz,q⟩:=h
 cases rx
 obtain⟨u,rfl,ru⟩:=rv.one
 obtain⟨z,its,n,r,hl,e⟩:=I.lstM hH
 refine call_meets F.slot_list_append ⟨_,e,rfl⟩ F.entry_list_append (F.args_list_append_2 _ _) (PySem.list_append l its.toArray n u (by rw[List.size_toArray];omega)) ⟨e,?_⟩
 refine⟨.non,_,I.lset (its':=its++[u]) hH e (by simp) (r.append (.cons ru .nil)) ?_,rfl,q⟩
 rw[List.length_append,List.length_singleton]
 omega
noncomputable def Fs:V->List V->Hp->VK->Prop:=λx vs H Q=>∃ l b xs zs,x= .ref l/\vs=[.ref b]/\H l=some (.lst xs)/\H b=some (.lst zs)/\xs.length+zs.length<=sizeLine/\Q .non (upd H l (.lst (xs++zs)))
theorem Jk:MtM X "list.extend" Fs:=by
 intro pins s σ H x vs v us Q I rx rv h
 obtain⟨l,b,xs,zs,rfl,rfl,hH,hB,hz,q⟩:=h
 cases rx
 obtain⟨u,rfl,ru⟩:=rv.one
 cases ru
 obtain⟨z,its,n,r,hl,e⟩:=I.lstM hH
 obtain⟨z2,its2,n2,r2,hl2,e2⟩:=I.lstM hB
 have hsz:its.toArray.size+its2.toArray.size<=sizeLine:=by rw[List.size_toArray,List.size_toArray];omega
 have hlong:¬(!its.toArray.isEmpty&&Builtin.List.listTooLong (its.toArray.size+its2.toArray.size))=true:=by
  rw[V0 hsz,Bool.and_false]
  exact Bool.false_ne_true
 refine call_meets F.slot_list_extend ⟨_,e,rfl⟩ F.entry_list_extend (F.args_list_extend_2 _ _)
  (AutoSeq1.list_extend_list_list_0 l its.toArray n b its2.toArray n2 hlong (by rw[List.size_toArray];omega) (by omega)) ⟨e,e2,?_⟩
 refine⟨.non,_,I.lset (its':=its++its2) hH e (by simp) (r.append r2) ?_,rfl,q⟩
 rw[List.length_append]
 omega
noncomputable def SU:V->List V->Hp->VK->Prop:=λx vs H Q=>∃ l xs y,x= .ref l/\vs=[]/\H l=some (.lst xs)/\xs[xs.length-1]?=some y/\Q y (upd H l (.lst xs.dropLast))
theorem Py:MtM X "list.pop" SU:=by
 intro pins s σ H x vs v us Q I rx rv h
 obtain⟨l,xs,y,rfl,rfl,hH,hy,q⟩:=h
 cases rx
 have hus:=rv.zero
 subst hus
 obtain⟨z,its,n,r,hl,e⟩:=I.lstM hH
 obtain⟨u,hu,ru⟩:=r.get hy
 have hy':its.toArray[its.toArray.size-1]?=some u:=by
  show its.toArray[its.length-1]?=some u
  rw[←Array.getElem?_toList, ←hl]
  exact hu
 refine call_meets F.slot_list_pop ⟨_,e,rfl⟩ F.entry_list_pop (F.args_list_pop_1 _) (MeetsSeq.list_pop_last l its.toArray n u hy' (by rw[List.size_toArray];omega)) ⟨e,?_⟩
 refine⟨y,_,I.lset (its':=its.dropLast) hH e ?_ r.dropLast ?_,ru,q⟩
 ·show its.toArray.eraseIdxIfInBounds (its.toArray.size-1)=its.dropLast.toArray
  rw[List.size_toArray,List.eraseIdxIfInBounds_toArray,Bj]
 ·rw[List.length_dropLast]
  omega
noncomputable def Dx:V->List V->Hp->VK->Prop:=λx vs H Q=>∃ l xs i k y,x= .ref l/\vs=[.int i]/\H l=some (.lst xs)/\ -(2^63)<=i/\i<2^63/\seqIndex? i xs.length=some k/\xs[k]?=some y/\Q y (upd H l (.lst (xs.eraseIdx k)))
theorem IC:MtM X "list.pop" Dx:=by
 intro pins s σ H x vs v us Q I rx rv h
 obtain⟨l,xs,i,k,y,rfl,rfl,hH,h1,h2,hk,hy,q⟩:=h
 cases rx
 obtain⟨u,rfl,ru⟩:=rv.one
 obtain⟨t,rfl⟩:=ru
 obtain⟨z,its,n,r,hl,e⟩:=I.lstM hH
 obtain⟨w,hw,rw'⟩:=r.get hy
 refine call_meets F.slot_list_pop ⟨_,e,rfl⟩ F.entry_list_pop (F.args_list_pop_2 _ _)
  (MeetsSeq.list_pop_at l its.toArray n i t k w (fitsIndex_both h1 h2) (by rw[List.size_toArray, ←hl];exact hk) (by rw[←Array.getElem?_toList];exact hw) (by rw[List.size_toArray];omega)) ⟨e,?_⟩
 refine⟨y,_,I.lset (its':=its.eraseIdx k) hH e ?_ (r.eraseIdx k) ?_,rw',q⟩
 ·show its.toArray.eraseIdxIfInBounds k=(its.eraseIdx k).toArray
  rw[List.eraseIdxIfInBounds_toArray]
 ·have:=Gz xs k
  omega
noncomputable def RG:R2:=λx y H Q=>∃ l b xs zs,x= .ref l/\y= .ref b/\H l=some (.lst xs)/\H b=some (.lst zs)/\xs.length+zs.length<=sizeLine/\∀p,H p=none->Q (.ref p) (upd H p (.lst (xs++zs)))
theorem VM:OpR X (binaryOp .Add) RG:=by
 intro pins s σ H x y v u Q I rx ry h
 obtain⟨l,b,xs,zs,rfl,rfl,hH,hB,hz,q⟩:=h
 cases rx
 cases ry
 obtain⟨z,its,n,r,hl,e⟩:=I.lstM hH
 obtain⟨z2,its2,n2,r2,hl2,e2⟩:=I.lstM hB
 refine PySem.P.add_list e e2 ?_ (by rw[List.size_toArray,List.size_toArray];omega)
 have ea:its.toArray++its2.toArray=(its++its2).toArray:=by simp
 rw[ea]
 exact⟨.ref _,_,I.lnew (t':=s.toks) (r.append r2) (by rw[List.length_append];omega),rfl,q _ I.fresh⟩
noncomputable def R9:R2:=λx y H Q=>∃ l k xs,x= .ref l/\y= .int k/\H l=some (.lst xs)/\ -(2^63)<=k/\k<2^63/\xs.length*k.toNat<=sizeLine/\
 ∀p,H p=none->Q (.ref p) (upd H p (.lst (List.replicate k.toNat xs).flatten))
theorem Nz {α:Type}(xs:List α)(k:Nat):(List.replicate k xs).flatten.length=k*xs.length:=by
 induction k with
 |zero=>simp
 |succ k ih=>rw[List.replicate_succ,List.flatten_cons,List.length_append,ih,Nat.succ_mul,Nat.add_comm]
theorem GN:OpR X (binaryOp .Mult) R9:=by
 intro pins s σ H x y v u Q I rx ry h
 obtain⟨l,k,xs,rfl,rfl,hH,h1,h2,hz,q⟩:=h
 cases rx
 obtain⟨t,rfl⟩:=ry
 obtain⟨z,its,n,r,hl,e⟩:=I.lstM hH
 have hlen:its.toArray.size*k.toNat<=sizeLine:=by rw[List.size_toArray, ←hl];exact hz
 have hcap:¬its.toArray.size*k.toNat > (2^63-1)/8:=by
  have:(sizeLine:Nat)<=(2^63-1)/8:=by decide
  omega
 have hfit:¬(!Builtin.List.listFitsIndex k)=true:=by
  rw[fitsIndex_both h1 h2]
  exact Bool.false_ne_true
 have hlong:¬Builtin.List.listTooLong (its.toArray.size*k.toNat)=true:=by
  rw[V0 hlen]
  exact Bool.false_ne_true
 have hnew:List.foldl (λx1 x2=>x1++x2) #[] (List.replicate (if its.toArray.isEmpty=true then 0 else k.toNat) its.toArray)=(List.replicate k.toNat its).flatten.toArray:=by
  have f0:∀m:Nat,List.foldl (λx1 x2=>x1++x2) #[] (List.replicate m its.toArray)=(List.replicate m its).flatten.toArray:=λm=>by
   have:=G5 its m []
   rw[List.nil_append] at this
   exact this
  rw[f0]
  cases its with
  |nil=>simp
  |cons a r'=>rw[if_neg (by simp)]
 refine wpAny_binaryOp_repeat_ref (T:="list") (U:="int") (by decide) ⟨_,e,rfl⟩ (λs'=>typeIs_int s' k t) noFill_list_mul F.fills_int_mul F.slot_int_rmul repeat_list F.slot_int_index.lookup
  (call_meets F.slot_int_rmul (typeIs_int s k t) F.entry_int_rmul (F.args_int_rmul_2 _ _) (int___rmul___int_list k t l its.toArray n)
   ⟨e,rfl,⟨_,e,rfl⟩,call_meets F.slot_list_mul ⟨_,e,rfl⟩ F.entry_list_mul (F.args_list_mul_2 _ _) (AutoListH.list___mul___list_int_3 l its.toArray n k t hfit hcap hlong) ⟨e,?_⟩⟩)
 rw[hnew]
 exact⟨.ref _,_,I.lnew (t':=s.toks) (r.rep k.toNat) (by rw[Nz,Nat.mul_comm];exact hz),rfl,q _ I.fresh⟩
end
section
variable {prog:Program}{w:World}{A:Around}{E:Value->Shared->Prop}{s:Shared}
theorem BX (its its2:List Value)(a c:Nat):its.toArray.extract 0 a++its2.toArray++its.toArray.extract c its.toArray.size=(its.take a++its2++its.drop c).toArray:=by
  apply Array.toList_inj.mp
  first
    | (simp
       exact List.take_of_length_le (by simp))
    |simp[List.take_of_length_le]
    |simp
end
section
variable {X:Cx}
end
end L2
namespace Att
open PySem PySem.W PySem.Calls PyProof.Rows
theorem Uu {P:Params}{h:Heap}:∀(ns:List Int) (vs:List Value),WellAll P h vs (ns.map WData.int)->IntsAre vs ns:=by
 intro ns
 induction ns with
 |nil=>
  intro vs w
  rw[List.map_nil] at w
  cases w
  exact .nil
 |cons n ns ih=>
  intro vs w
  rw[List.map_cons] at w
  cases w with
  |cons a b=>
   cases a
   exact .cons _ _ (ih _ b)
theorem EB {l:OpenLaw}{n:Nat}(hn:l.most=some n){P:Params}{h:Heap}{args:List WData}{vals:List Value}
  (hpre:l.row.toRowW.claim.pre args=true)(hwl:WellAll P h vals args):
  ∃a vs ns,vals=[Value.ref a]/\args=[WData.list (ns.map WData.int)]/\h.get? a=some {cls:=.type "list",data:=.seq vs.toArray}/\IntsAre vs ns/\ns.length<=n:=by
 have hsh:WShape.hasAll [] args [.list .int]=true:=(pre_splitW hpre).1
 have hc:l.pre.holds [] {args:=args}=true:=(pre_splitW hpre).2
 obtain⟨d,r,rfl,h1,h2⟩:=hasAllW_cons hsh
 obtain rfl:=hasAllW_nil h2
 obtain⟨xs,rfl,h3⟩:=hasW_list h1
 obtain⟨ns,rfl⟩:=items_int h3
 have hlen:ns.length<=n:=by
  unfold OpenLaw.pre at hc
  have h4:(WTm.not (.lt (.lit (.int (n:Int))) (.len (.arg 0)))).holds [] {args:=[.list (ns.map .int)]}=true:=by
   have h4:=(holds_andW hc).1
   rw[hn] at h4
   exact h4
  have h5:=condW_of h4 (w_not (w_lt w_lit (w_len_list (w_arg rfl))))
  rw[List.length_map] at h5
  refine Nat.le_of_not_lt λq=>?_
  have q':(n:Int)<((ns.length:Nat):Int):=by omega
  first
   | (rw[decide_eq_true q'] at h5;exact absurd h5 (by decide))
   | (simp at h5;omega)
 cases hwl with
 |cons w1 w2=>
  cases w2
  cases w1 with
  |list ho hall=>exact⟨_,_,ns,rfl,rfl,ho,Uu ns _ hall,hlen⟩
theorem Ij (l:OpenLaw)(args:List WData):l.row.toRowW.claim.post args (.bool true) args=true:=
 postW_of (r:=l.row.toRowW) (X:=(true==true))
  (show WShape.has [] (.bool true) .bool=true by first |rfl |decide |simp[WShape.has,WShape.arms,WShape.armsAll])
  (show(WTm.eq .res (.lit (.bool true))).value [] {args:=args,res:=some (.bool true),after:=args}=some (.bool (true==true)) from w_eq_bool (w_res rfl) w_lit) rfl
theorem attach_call {l:OpenLaw}{n:Nat}{q:Program}{loose:List Str}{XP:(Str->Option Value)->Heap->Prop}{YP:World->Heap->Prop}{d:DefRec}
  (hn:l.most=some n)(hdf:d.params.defaults=[])
  (call:∀(w:World) (s₀ s₁:Shared) (mg mb:Str->Option Value) (fa:Addr) (o:Obj) (pm cd doc:Value) (a:Addr) (vs:List Value) (ns:List Int),
   Ground q loose [] XP w s₀ mg mb s₁.heap->YP w s₁.heap->
   s₁.heap.get? fa=some o->o.data= .func (docDef d.name d.params d.body d.scope pm cd doc)->s₁.heap.CodeRec cd d.name->mg d.name=some (.ref fa)->
   s₁.heap.get? a=some {cls:=.type "list",data:=.seq vs.toArray}->IntsAre vs ns->ns.length<=n->s₁.gens= #[]->
   codeAny (model l.prog w) callerA (.call (.ref fa) ⟨[.ref a],[]⟩) (λr s'=>r= .ok (.ret (.bool true))/\OldK s₁.heap s'.heap/\s'.os=s₁.os/\AllBare s'.gens) s₁):
  WalkO q loose XP YP l.row.toRowW d [] (λf vs=>PySem.call f vs):=by
 intro w s₀ s₁ mg mb G Y fa o pm cd doc dV kV ho hd hcd hD hmg hg args vals as hpre hlay hrd hwl hlo
 obtain rfl:dV= .none:=Dflts.none hD hdf
 obtain rfl:kV= .none:=Dflts.noKw hD
 obtain⟨a,vs,ns,rfl,rfl,hobj,hints,hlen⟩:=EB hn hpre hwl
 refine enter_call (codeAny_mono (call w s₀ s₁ mg mb fa o pm cd doc a vs ns G Y ho (fd_plain hd) hcd hmg hobj hints hlen hg) λr s' hq=>?_)
 obtain⟨rfl,h2,h3,h4⟩:=hq
 exact⟨.inl ⟨.bool true, .bool true,[],rfl,λ_=>rfl, .bool true,Ij l _,λ_=>⟨List.Pairwise.nil,λ_ hm=>(nomatch hm)⟩⟩,h2,h3,h4⟩
section
variable {prog:Program}{w:World}{A:Around}{E:Value->Shared->Prop}{s:Shared}{K:Frag}
noncomputable def SO (h:Heap)(L d:Addr):List (Addr×Obj):=(List.range h.objs.size).filterMap λa=>if a=L∨a=d then none else(h.get? a).map λo=>(a,o)
end
end Att
namespace L2
open PySem PySem.Spec PyProof.Rows
theorem Ha:∀{vs:List Value}{ns:List Int},IntsAre vs ns->X5 (ns.map V.int) vs:=λp=>by
 induction p with
 |nil=>exact .nil
 |cons n t _ ih=>exact .cons ⟨t,rfl⟩ ih
noncomputable def Se (H:Hp):Prop:=∀ b,H b=none∨∃o xs,H b=some (.frz o (.lst xs))
theorem IJ {P:Program}{w:World}{K:PySem.W.Frag}{mg mb:Str->Option Value}{CX:CXT}{k:Nat}{fa a:Addr}{fd:FuncData}{x:Str}{sp:Sp}{s₁:Shared}{vs:List Value}{ns:List Int}
  (KX:K.In s₁.heap)(hns:s₁.heap.Ns mainGlobals mg)(hb:s₁.heap.Ns builtinsNs mb)(hbb:∀x:Str,x≠ "__name__" ->mb x=bootBuiltins x)(hlim:s₁.heap.NoLimit)(hg:s₁.gens= #[])
  (ha:s₁.heap.get? a=some {cls:=.type "list",data:=.seq vs.toArray})(hi:IntsAre vs ns)(hl:ns.length<=sizeLine)(hr:Room k callerA)
  (F:∀base:Heap,K.In base->base.Ns mainGlobals mg->FnOk P w K mg base CX k fa fd [x] sp)(hbind:∀(s:Shared) (u:Value),BindsTo s fd ⟨[u],[]⟩ [(x,u)])
  (hsp:∀H:Hp,Se H->SqL K H a (ns.map V.int)->sp [.ref a] H (λv _=>v= .bl true) λ_ _ _=>False)
  (hCX:∀H e s',CX [] H s₁ (λ_ _ _=>False) e s'->False):
  codeAny (model P w) callerA (.call (.ref fa) ⟨[.ref a],[]⟩) (λr s'=>r= .ok (.ret (.bool true))/\OldK s₁.heap s'.heap/\s'.os=s₁.os/\AllBare s'.gens) s₁:=by
 have rv:=Ha hi
 have lenV:=hi.length
 -- from an abstract heap in which nothing but the script may be tracked
 have core:∀H:Hp,Se H->SqL K H a (ns.map V.int)->HOk P w H s₁.heap->(∀b,H b≠none->b=a)->(H a≠none->K.lookup a=none)->
   codeAny (model P w) callerA (.call (.ref fa) ⟨[.ref a],[]⟩) (λr s'=>r= .ok (.ret (.bool true))/\OldK s₁.heap s'.heap/\s'.os=s₁.os/\AllBare s'.gens) s₁:=by
  intro H hO hS hok hA hK
  have base_of:∀{b:Addr}{o:Obj},s₁.heap.get? b=some o->H b=none->(Ir s₁.heap H).get? b=some o:=λe n=>DF e n
  have noA:∀{b:Addr}{o:Obj}{es:Array DictEntry}{ep:Nat},s₁.heap.get? b=some o->o.data= .dict es ep->H b=none:=fun {b o es ep} e d=>by
   cases q:H b with
   |none=>rfl
   |some u=>
    have e':b=a:=hA b (by rw[q];simp)
    subst e'
    rw[ha] at e;cases e
    have d':Data.seq vs.toArray _=Data.dict es ep:=d
    cases d'
  have nsK:∀{b:Addr}{m:Str->Option Value},s₁.heap.Ns b m->(Ir s₁.heap H).Ns b m:=fun {b m} ⟨o,es,ep,e,d,r⟩=>⟨o,es,ep,base_of e (noA e d),d,r⟩
  have hKb:K.In (Ir s₁.heap H):=λb o e=>base_of (KX b o e) (by
   cases q:H b with
   |none=>rfl
   |some u=>
    have e':b=a:=hA b (by rw[q];simp)
    subst e'
    rw[hK (by rw[q];simp)] at e;cases e)
  have hM:Mod K mg (Ir s₁.heap H):=⟨hKb,nsK hns,⟨mb,nsK hb,hbb⟩,let ⟨mc,h1,h2⟩:=hlim;⟨mc,nsK h1,h2⟩⟩
  have e0:Env0 P w K mg (Ir s₁.heap H) callerA [] s₁ H:=⟨rfl,hM,λb o e=>B7 e,Nat.le_of_eq (He _ _),trivial,λb hb=>absurd (show b∈([]:List Addr) from hb) (by simp),hok, .of_eq hg⟩
  refine codeAny_mono ((F _ hKb (nsK hns)).run callerA [] s₁ H ⟨[.ref a],[]⟩ [.ref a] [.ref a] _ _ hr e0 (hbind s₁ (.ref a)) (.cons rfl .nil) (hsp H hO hS)) λr s' h=>?_
  cases r with
  |error e=>exact(hCX H e s' h).elim
  |ok fl=>
   cases fl with
   |next=>exact False.elim h
   |brk=>exact False.elim h
   |cont=>exact False.elim h
   |ret u=>
    obtain⟨v,H',os,bare,un,hok',r',q⟩:=h
    have q':v= .bl true:=q
    subst q'
    obtain rfl:u=Value.bool true:=r'
    refine⟨rfl,OldK.of_keep λb o e=>?_,os,bare⟩
    cases q:H b with
    |none=>exact un.keep b o e q (by intro z;exact absurd (show b∈([]:List Addr) from z) (by simp)) (by simp)
    |some u=>
     rcases hO b with z | ⟨ob,xs,z⟩
     ·rw[q] at z;cases z
     ·have z2:=un.frzs b ob _ z
      obtain⟨e1,_⟩:=hok b _ z
      obtain⟨e2,_⟩:=hok' b _ z2
      rw[e] at e1;cases e1
      exact e2
 cases hk:K.lookup a with
 |some o=>
  -- the script is one of the module's own objects
  have e:=KX a o hk
  rw[ha] at e
  cases e
  refine core (λ_=>none) (λ_=>.inl rfl) (.inr ⟨_,vs.toArray,_,hk,rfl,rfl,rfl,by rw[List.size_toArray,lenV];exact hl,by simpa using rv⟩) (λb u z=>by have z':(none:Option HO)=some u:=z;cases z') (λb z=>absurd rfl z) λz=>absurd rfl z
 |none=>
  refine core (λb=>if b=a then some (.frz {cls:=.type "list",data:=.seq vs.toArray} (.lst (ns.map V.int))) else none) (λb=>?_) (.inl (.inr ⟨{cls:=.type "list",data:=.seq vs.toArray},if_pos rfl⟩)) (λb u z=>?_) (λb z=>?_) λ_=>hk
  ·by_cases hb:b=a
   ·exact .inr ⟨_,_,if_pos hb⟩
   ·exact .inl (if_neg hb)
  ·by_cases hb:b=a
   ·have z':=(if_pos hb).symm.trans z
    cases z'
    subst hb
    exact⟨ha,by rw[List.length_map];exact hl,vs,_,rv,ha⟩
   ·have z':=(if_neg hb).symm.trans z
    cases z'
  ·by_cases hb:b=a
   ·exact hb
   ·exact absurd (if_neg hb) z
theorem Nm {l:PySem.W.OpenLaw}{n k:Nat}{q:Program}{loose:List Str}{XP:(Str->Option Value)->Heap->Prop}{YP:World->Heap->Prop}{d:DefRec}{K:Params->PySem.W.Frag}{CX:World->CXT}{sp:World->Sp}{x:Str}
  (hn:l.most=some n)(hn2:n<=sizeLine)(hdf:d.params.defaults=[])(hr:Room k callerA)
  (hY:∀(w:World) (h:Heap),YP w h->(K w.params).In h)
  (F:∀(w:World) (mg:Str->Option Value) (fa:Addr) (h:Heap),(K w.params).In h->h.Ns mainGlobals mg->mg d.name=some (.ref fa)->
   ∃fd:FuncData,(∀(s:Shared) (u:Value),BindsTo s fd ⟨[u],[]⟩ [(x,u)])/\
    ∀base:Heap,(K w.params).In base->base.Ns mainGlobals mg->FnOk l.prog w (K w.params) mg base (CX w) k fa fd [x] (sp w))
  (hsp:∀(w:World) (H:Hp) (a:Addr) (ns:List Int),ns.length<=n->Se H->SqL (K w.params) H a (ns.map V.int)->sp w [.ref a] H (λv _=>v= .bl true) λ_ _ _=>False)
  (hCX:∀(w:World) (H:Hp) (s:Shared) (e:Value) (s':Shared),CX w [] H s (λ_ _ _=>False) e s'->False):
  PySem.W.WalkO q loose XP YP l.row.toRowW d [] (λf vs=>PySem.call f vs):=by
 refine Att.attach_call hn hdf λw s₀ s₁ mg mb fa o pm cd doc a vs ns G Y ho hd hcd hmg hobj hints hlen hg=>?_
 have KX:=hY w _ Y
 obtain⟨fd,hb,hF⟩:=F w mg fa _ KX G.T.g hmg
 exact IJ KX G.T.g G.T.b G.T.builtins G.T.nolimit hg hobj hints (Nat.le_trans hlen hn2) hr hF hb (λH hO hS=>hsp w H a ns hlen hO hS) λH e s'=>hCX w H s₁ e s'
noncomputable def YG (s:Stmt):Arguments:=match s with
 | .FunctionDef _ a _ _ _ _ _ _ _ _=>a
 |_=>{posonlyargs:=[],args:=[],vararg:=none,kwonlyargs:=[],kw_defaults:=[],kwarg:=none,defaults:=[]}
noncomputable def XR (s:Stmt):List Stmt:=match s with
 | .FunctionDef _ _ b _ _ _ _ _ _ _=>b
 |_=>[]
noncomputable def Xf (s:Stmt):Scope:=match s with
 | .FunctionDef _ _ _ _ _ _ sc _ _ _=>sc
 |_=>{kind:=.function,names:=[],isGenerator:=false,isCoroutine:=false}
noncomputable abbrev CX0:CXT:=λ_ _ _ _ _ _=>False
noncomputable abbrev E0:XK:=λ_ _ _=>False
theorem RX {X:Cx}:Vg CX0 X E0:=λ_ _ _ _ _ _ _ h=>h.elim
structure Fun (K:PySem.W.Frag)(x qual:Str)(st:Stmt)(f:Addr)(fd:FuncData):Prop where
 ex:∃(oc:Value) (od:Option Addr) (kV doc pm:Value) (an:Option Addr) (cdv ct:Value) (osl:Array (Option Value)),
  fd=PySem.W.fnOf x qual (YG st) (XR st) (Xf st) .none kV doc pm an cdv ct/\K.lookup f=some ⟨oc,od, .func fd,osl⟩/\PySem.W.codeIn K cdv qual=true
 kp:PySem.W.keepIn K (.ref f)=true
section
variable {P:Program}{w:World}{K:PySem.W.Frag}{mg:Str->Option Value}{base:Heap}
theorem Fun.ok {x qual:Str}{st:Stmt}{f:Addr}{fd:FuncData}{N ps:List Str}{k:Nat}{sp:Sp}(F:Fun K x qual st f fd)(S:FnScope N ps (Xf st))(len:∀vs H Q E,sp vs H Q E->vs.length=ps.length)
  (hbody:∀(cdv:Value) (A:Around) (outer:List Env) (s:Shared) (H:Hp) (vs:List V) (Q:VK) (E:XK),Room k (A.deeper (envOfC qual (Xf st) s.heap.objs.size f cdv))->sp vs H Q E->
   ∃t,PSs (Uj CX0 P w K mg base N qual (Xf st) f cdv A outer s H E).nox (XR st) t/\t {nx:=λ_ H'=>Q .non H',rt:=Q} (VU N vs) H):FnOk P w K mg base CX0 (k+1) f fd ps sp:=by
 obtain⟨oc,od,kV,doc,pm,an,cdv,ct,osl,rfl,lk,hcd⟩:=F.ex
 refine P8 lk hcd S len λA outer s H vs Q E hr hsp=>?_
 obtain⟨t,h,q⟩:=hbody cdv A outer s H vs Q E hr hsp
 exact⟨t,h.nox,q⟩
theorem Fun.binds {x qual:Str}{st:Stmt}{f:Addr}{fd:FuncData}{ps:List Str}(F:Fun K x qual st f fd)
  (h:∀(kV doc pm:Value) (an:Option Addr) (cdv ct:Value) (us:List Value),us.length=ps.length->bindArgs (PySem.W.fnOf x qual (YG st) (XR st) (Xf st) .none kV doc pm an cdv ct) ⟨us,[]⟩=pure (ps.zip us)):GR K fd ps []:=by
 obtain⟨oc,od,kV,doc,pm,an,cdv,ct,osl,rfl,lk,hcd⟩:=F.ex
 exact .all (h kV doc pm an cdv ct)
theorem Jd {x qual:Str}{st:Stmt}{f:Addr}{oc:Value}{od an:Option Addr}{osl:Array (Option Value)}{kV doc pm cdv ct:Value}(l:K.lookup f=some ⟨oc,od, .func (PySem.W.fnOf x qual (YG st) (XR st) (Xf st) .none kV doc pm an cdv ct),osl⟩)
  (c:PySem.W.codeIn K cdv qual=true)(k:PySem.W.keepIn K (.ref f)=true):Fun K x qual st f (PySem.W.fnOf x qual (YG st) (XR st) (Xf st) .none kV doc pm an cdv ct):=⟨⟨oc,od,kV,doc,pm,an,cdv,ct,osl,rfl,l,c⟩,k⟩
end
theorem Qk {A:Around}{k:Nat}(hr:Room k A):A.units+1<cLine:=Nat.lt_of_le_of_lt (Nat.add_le_add_left (by decide:1<=64) _) hr.units
section
variable {X:Cx}
theorem pv (i:Nat){x:Str}{pos:Pos}(hN:X.N[i]?=some x:=by rfl)(hv:Vis X.env.scope x:=by first |exact Or.inl rfl |exact Or.inr (Or.inl rfl) |exact Or.inr (Or.inr rfl))(hd:(x==("__debug__":Str))=false:=by decide)
  (hcd:(x==("__classdict__":Str))=false:=by decide):PE X (.Name x pos) (JQ i):=Po hN hv hd hcd
end
noncomputable def Xp (H H':Hp):Prop:=∀ b o,H b=some o->H' b=some o
theorem Xp.refl (H:Hp):Xp H H:=λ_ _ h=>h
theorem Xp.trans {H H1 H2:Hp}(a:Xp H H1)(b:Xp H1 H2):Xp H H2:=λc o h=>b c o (a c o h)
theorem Xp.seq {K:PySem.W.Frag}{H H':Hp}{a:Addr}{xs:List V}(e:Xp H H')(h:SqL K H a xs):SqL K H' a xs:=by
 rcases h with(h | ⟨o,h⟩) |h
 ·exact .inl (.inl (e _ _ h))
 ·exact .inl (.inr ⟨o,e _ _ h⟩)
 ·exact .inr h
section
variable {κ:Type}[DecidableEq κ]
noncomputable def Bp (kvs:List (κ×V))(k:κ):Option V:=(kvs.find? λkv=>decide (kv.1=k)).map (·.2)
noncomputable def G7 (kvs:List (κ×V))(k:κ)(v:V):List (κ×V):=
 if(kvs.any λkv=>decide (kv.1=k))=true then kvs.map (λkv=>if kv.1=k then(kv.1,v) else kv) else kvs++[(k,v)]
theorem V5 {p:κ×V}{r:List (κ×V)}{k:κ}(e:p.1=k):Bp (p::r) k=some p.2:=by simp[Bp,List.find?_cons,e]
theorem V4 {p:κ×V}{r:List (κ×V)}{k:κ}(e:¬p.1=k):Bp (p::r) k=Bp r k:=by simp[Bp,List.find?_cons,e]
theorem Cj (k:κ):∀kvs:List (κ×V),(kvs.any λkv=>decide (kv.1=k))=(Bp kvs k).isSome
 | []=>rfl
 |p::r=>by
  rw[List.any_cons]
  by_cases e:p.1=k
  ·simp only[V5 e,decide_eq_true e,Bool.true_or,Option.isSome_some]
  ·rw[V4 e,decide_eq_false e,Bool.false_or];exact Cj k r
theorem UF (kvs:List (κ×V))(k:κ)(v:V):(G7 kvs k v).length<=kvs.length+1:=by
 unfold G7
 split
 ·rw[List.length_map];omega
 ·rw[List.length_append,List.length_cons,List.length_nil];omega
theorem OS.isSome_eq {o:Option V}{u:Option Value}(r:OS o u):o.isSome=u.isSome:=by
 cases o with
 |none=>cases u with
  |none=>rfl
  |some _=>exact(show False from r).elim
 |some _=>cases u with
  |none=>exact(show False from r).elim
  |some _=>rfl
theorem KV.val {kvs:List (κ×V)}{vs:List (κ×Value)}(r:KV kvs vs)(k:κ):OS (Bp kvs k) (valueAt vs k):=by
 unfold KV at r
 induction r with
 |nil=>exact True.intro
 | @cons p q ps qs h t ih=>
  obtain⟨h1,h2⟩:=h
  by_cases e:p.1=k
  ·have e':q.1=k:=h1.symm.trans e
   have b:valueAt (q::qs) k=some q.2:=by simp[valueAt,List.find?_cons,e']
   rw[V5 e,b];exact h2
  ·have e':¬q.1=k:=λz=>e (h1.trans z)
   have b:valueAt (q::qs) k=valueAt qs k:=by simp[valueAt,List.find?_cons,e']
   rw[V4 e,b];exact ih
theorem KV.any {kvs:List (κ×V)}{vs:List (κ×Value)}(r:KV kvs vs)(k:κ):(kvs.any λkv=>decide (kv.1=k))=vs.any λkv=>decide (kv.1=k):=by
 unfold KV at r
 induction r with
 |nil=>rfl
 |cons h t ih=>rw[List.any_cons,List.any_cons,ih,h.1]
theorem KV.repl {kvs:List (κ×V)}{vs:List (κ×Value)}(r:KV kvs vs)(k:κ){y:V}{u:Value}(ry:X9 y u):
  KV (kvs.map λkv=>if kv.1=k then(kv.1,y) else kv) (vs.map λkv=>if kv.1=k then(kv.1,u) else kv):=by
 unfold KV at r⊢
 induction r with
 |nil=>exact .nil
 | @cons p q ps qs h t ih=>
  rw[List.map_cons,List.map_cons]
  refine .cons ?_ ih
  obtain⟨h1,h2⟩:=h
  by_cases e:p.1=k
  ·rw[if_pos e,if_pos (h1.symm.trans e)];exact⟨h1,ry⟩
  ·rw[if_neg e,if_neg (λz=>e (h1.trans z))];exact⟨h1,h2⟩
theorem KV.put {kvs:List (κ×V)}{vs:List (κ×Value)}(r:KV kvs vs)(k:κ){y:V}{u:Value}(ry:X9 y u):KV (G7 kvs k y) (stored vs k u):=by
 unfold G7 stored
 rw[r.any k]
 by_cases e:(vs.any λkv=>decide (kv.1=k))=true
 ·rw[if_pos e,if_pos e];exact r.repl k ry
 ·rw[if_neg e,if_neg e];exact Paired.snoc r ⟨rfl,ry⟩
theorem KV.length {kvs:List (κ×V)}{vs:List (κ×Value)}(r:KV kvs vs):kvs.length=vs.length:=Paired.length r
end
theorem MU {P:Program}{w:World}{k:Key}{u:Value}(r:X9 (kV k) u):(YN P w).is k u=true:=by
 cases k with
 |inl i=>obtain⟨t,e⟩:=(show ∃t,u=Value.int i t from r);subst e;exact F5 P w i t
 |inr x=>obtain⟨t,e⟩:=(show ∃t,u=Value.str x t from r);subst e;exact FV P w x t
theorem GP {P:Program}{w:World}:∀{ks:List Key}{us:List Value},X5 (ks.map kV) us->ItemsAre (YN P w) ks us
 | [],_,r=>by rw[List.map_nil] at r;cases r;exact .nil
 |k::ks,_,r=>by
  rw[List.map_cons] at r
  cases r with
  |cons h t=>exact .cons (MU h) (GP t)
noncomputable abbrev KT (H:Hp):List (List Key×V)->List (List Key×Addr×Value)->Prop:=Paired λp q=>p.1=q.1/\H q.2.1=some (.tup (p.1.map kV))/\X9 p.2 q.2.2
theorem KT.val {H:Hp}{kvs:List (List Key×V)}{xs:List (List Key×Addr×Value)}(r:KT H kvs xs)(k:List Key):OS (Bp kvs k) ((atKey xs k).map (·.2)):=by
 induction r with
 |nil=>exact True.intro
 | @cons p q ps qs h t ih=>
  obtain⟨h1,_,h2⟩:=h
  by_cases e:p.1=k
  ·have e':q.1=k:=h1.symm.trans e
   have b:atKey (q::qs) k=some q.2:=by simp[atKey,List.find?_cons,e']
   rw[V5 e,b];exact h2
  ·have e':¬q.1=k:=λz=>e (h1.trans z)
   have b:atKey (q::qs) k=atKey qs k:=by simp[atKey,List.find?_cons,e']
   rw[V4 e,b];exact ih
theorem KT.repl {H:Hp}{kvs:List (List Key×V)}{xs:List (List Key×Addr×Value)}(r:KT H kvs xs)(k:List Key){y:V}{u:Value}(ry:X9 y u):
  KT H (kvs.map λkv=>if kv.1=k then(kv.1,y) else kv) (xs.map (putAt k u)):=by
 induction r with
 |nil=>exact .nil
 | @cons p q ps qs h t ih=>
  rw[List.map_cons,List.map_cons]
  refine .cons ?_ ih
  obtain⟨h1,h2,h3⟩:=h
  unfold putAt
  by_cases e:p.1=k
  ·rw[if_pos e,if_pos (h1.symm.trans e)];exact⟨h1,h2,ry⟩
  ·rw[if_neg e,if_neg (λz=>e (h1.trans z))];exact⟨h1,h2,h3⟩
theorem KT.put {H:Hp}{kvs:List (List Key×V)}{xs:List (List Key×Addr×Value)}(r:KT H kvs xs)(k:List Key){b:Addr}{y:V}{u:Value}(hb:H b=some (.tup (k.map kV)))(ry:X9 y u):
  KT H (G7 kvs k y) (storedH xs k b u):=by
 have e:(kvs.any λkv=>decide (kv.1=k))=(atKey xs k).isSome:=by
  rw[Cj,(r.val k).isSome_eq,Option.isSome_map]
 unfold G7 storedH
 rw[e]
 by_cases q:(atKey xs k).isSome=true
 ·rw[if_pos q,if_pos q];exact r.repl k ry
 ·rw[if_neg q,if_neg q];exact Paired.snoc r ⟨rfl,hb,ry⟩
theorem KT.keeps {H H':Hp}{kvs:List (List Key×V)}{xs:List (List Key×Addr×Value)}(r:KT H kvs xs)(ht:∀b ys,H b=some (.tup ys)->H' b=some (.tup ys)):KT H' kvs xs:=
 Paired.mapP r λ_ _ z=>⟨z.1,ht _ _ z.2.1,z.2.2⟩
section
variable {P:Program}{w:World}{H:Hp}{h:Heap}{a:Addr}
theorem O7 {u:HO}(ok:HOk P w H h)(e:Rd H a u):ZA P w H h a u:=e.ok ok
theorem Rb {kvs:List (Key×V)}(ok:HOk P w H h)(e:Rd H a (.dK kvs)):kvs.length<=sizeLine/\(a==sysModules)=false/\∃vs,KV kvs vs/\h.DictOf (YN P w) a vs:=
 show ZA P w H h a (.dK kvs) from O7 ok e
theorem RW {kvs:List (Key×V)}(ok:HOk P w H h)(e:H a=some (.dK kvs)):kvs.length<=sizeLine/\(a==sysModules)=false/\∃vs,KV kvs vs/\h.DictOf (YN P w) a vs:=Rb ok (.inl e)
theorem HP {ks:List Key}(ok:HOk P w H h)(e:H a=some (.tup (ks.map kV))):(tupleKind (YN P w)).is h ks a:=by
 obtain⟨_,its,r,o,h1,h2,n,h3⟩:=(show ZA P w H h a (.tup (ks.map kV)) from ok a _ e)
 exact⟨o,its.toArray,n,h1,h2.1,h3,by simpa using GP r⟩
theorem PK {kvs:List (List Key×V)}(ok:HOk P w H h)(e:Rd H a (.dT kvs)):kvs.length<=sizeLine/\(a==sysModules)=false/\
  ∃xs,KT H kvs xs/\h.DictOfH (tupleKind (YN P w)) a xs:=by
 obtain⟨z,y,xs,r,o,es,ep,h1,h2,h3,h4,h5⟩:=(show ZA P w H h a (.dT kvs) from O7 ok e)
 refine⟨z,y,xs,r,o,es,ep,h1,h2,h3,h4,λx hx=>?_,h5⟩
 have all:∀{l:List (List Key×V)}{m:List (List Key×Addr×Value)},KT H l m->∀x∈m,(tupleKind (YN P w)).is h x.1 x.2.1:=by
  intro l m q
  induction q with
  |nil=>intro x hx;exact nomatch hx
  | @cons p q ps qs hq t ih=>
   intro x hx
   rcases List.mem_cons.mp hx with e |hx
   ·subst e
    exact HP ok (by rw[←hq.1];exact hq.2.1)
   ·exact ih x hx
 exact all r x hx
theorem RT {kvs:List (List Key×V)}(ok:HOk P w H h)(e:H a=some (.dT kvs)):kvs.length<=sizeLine/\(a==sysModules)=false/\
  ∃xs,KT H kvs xs/\h.DictOfH (tupleKind (YN P w)) a xs:=PK ok (.inl e)
end
noncomputable def SH (H:Hp)(a:Addr)(y:V)(r:Option V):Prop:=
 (∃kvs k,Rd H a (.dK kvs)/\y=kV k/\r=Bp kvs k)∨∃kvs k b,Rd H a (.dT kvs)/\y= .ref b/\H b=some (.tup (k.map kV))/\r=Bp kvs k
noncomputable def SS (H:Hp)(a:Addr)(y v:V)(H':Hp):Prop:=
 (∃kvs k,H a=some (.dK kvs)/\y=kV k/\kvs.length<sizeLine/\H'=upd H a (.dK (G7 kvs k v)))∨
 ∃kvs k b,H a=some (.dT kvs)/\y= .ref b/\H b=some (.tup (k.map kV))/\kvs.length<sizeLine/\H'=upd H a (.dT (G7 kvs k v))
section
variable {X:Cx}{pins:List (Addr×Obj)}{σ:St}{H:Hp}{s:Shared}{a:Addr}{y v:V}{u r:Value}{o:Option V}{A:Around}{E:Value->Shared->Prop}
theorem Inv.big (I:Inv X pins σ H s):sysModules<s.heap.objs.size:=by
 have h:mainGlobals<s.heap.objs.size:=(I.mod.glob.keeps I.bk).lt
 exact Nat.lt_trans (by decide) h
theorem S9 {Q:Value->Shared->Prop}(hu:A.units+1<cLine)(I:Inv X pins σ H s)(g:SH H a y o)(ry:X9 y u)(h:∀s',Inv X pins σ H s'->Q (.bool o.isSome) s'):
  wpAny (model X.prog X.w) A (compareOp .In u (.ref a)) Q E s:=by
 rcases g with⟨kvs,k,e,ey,l⟩ | ⟨kvs,k,b,e,ey,eb,l⟩
 ·subst ey
  obtain⟨z,hd,vs,rel,dd⟩:=Rb I.hok e
  refine wpAny_in_of (MU ry) hd dd.mapOf ?_
  rw[←(rel.val k).isSome_eq, ←l]
  exact h _ (I.tok _)
 ·subst ey
  cases(show u=Value.ref b from ry)
  obtain⟨z,hd,xs,rel,dd⟩:=PK I.hok e
  refine wpAny_in_heap (tupleKind_room_in1 hu) (HP I.hok eb) hd dd ?_
  have q:=(rel.val k).isSome_eq
  rw[Option.isSome_map] at q
  rw[←q, ←l]
  exact h _ (I.tok _)
theorem Ea {h':Heap}{t':Nat}{ob:HO}(I:Inv X pins σ H s)(mu:Mut (H a))(hs:Heap.SameBut a s.heap h')(he:∃q,h'.get? a=some q)(new:ZA X.prog X.w (upd H a ob) h' a ob):
  Inv X pins σ (upd H a ob) {s with heap:=h',toks:=t'}:=
 I.write (x:=a) (e:=a) mu (.inl rfl) (λb q hb z=>(hs.2 b hb).trans z) he new
theorem Ra {P:Program}{w:World}{H':Hp}{h':Heap}{kvs:List (Key×V)}{vs:List (Key×Value)}(z:kvs.length<=sizeLine)(hd:(a==sysModules)=false)(rel:KV kvs vs)(dd:h'.DictOf (YN P w) a vs):
  ZA P w H' h' a (.dK kvs):=⟨z,hd,vs,rel,dd⟩
theorem Hl {H':Hp}{Q:Unit->Shared->Prop}(hu:A.units+1<cLine)(I:Inv X pins σ H s)(g:SS H a y v H')(ry:X9 y u)(rv:X9 v r)(h:∀s',Inv X pins σ H' s'->Q () s'):
  wpAny (model X.prog X.w) A (setItem (.ref a) u r) Q E s:=by
 rcases g with⟨kvs,k,e,ey,l,eH⟩ | ⟨kvs,k,b,e,ey,eb,l,eH⟩
 ·subst ey eH
  obtain⟨z,hd,vs,rel,dd⟩:=RW I.hok e
  have hz:vs.length<=sizeLine:=by rw[←rel.length];exact z
  have hl:(G7 kvs k v).length<=sizeLine:=by have:=UF kvs k v;omega
  refine wpAny_setItem_pairs (hsz:=hz) (MU ry) dd λh' dd' hs=>h _ ?_
  have he:∃q,h'.get? a=some q:=let ⟨q,_,_,hq,_⟩:=dd';⟨q,hq⟩
  exact Ea I (by rw[e];exact True.intro) hs he (Ra hl hd (rel.put k rv) dd')
 ·subst ey eH
  cases(show u=Value.ref b from ry)
  obtain⟨z,hd,xs,rel,dd⟩:=RT I.hok e
  have hz:xs.length<=sizeLine:=by rw[←Paired.length rel];exact z
  have hl:(G7 kvs k v).length<=sizeLine:=by have:=UF kvs k v;omega
  refine wpAny_setItem_heap (hsz:=hz) (tupleKind_room_in1 hu) (HP I.hok eb) dd λh' dd' hs=>h _ ?_
  obtain⟨q,es,ep,hq,h2,h3,h4,_,h5⟩:=dd'
  refine Ea I (by rw[e];exact True.intro) hs ⟨q,hq⟩ ⟨hl,hd,_,(rel.put k eb rv).keeps λc ys ec=>?_,q,es,ep,hq,h2,h3,h4,h5⟩
  rw[XF (R4 ec e (λz=>nomatch z))]
  exact ec
end
section
variable {X:Cx}{pins:List (Addr×Obj)}{σ:St}{H:Hp}{s:Shared}{a:Addr}{kvs:List (Key×V)}{k:Key}{u:Value}{A:Around}{E:Value->Shared->Prop}
end
noncomputable def SV (ty td:TE):TE:=λσ H Q=>ty σ H λy H1=>td σ H1 λx H2=>∃ a o,x= .ref a/\SH H2 a y o/\Q (.bl o.isSome) H2
noncomputable def Nv (td ty tv:TE):TS:=λD σ H=>tv σ H λv H1=>td σ H1 λx H2=>ty σ H2 λy H3=>∃ a H4,x= .ref a/\SS H3 a y v H4/\D.nx σ H4
section
variable {X:Cx}{o i e value:Expr}{pos pos' tpos:Pos}{td ty tv:TE}
theorem MC (hu:X.A.units+1<cLine)(hi:PE X i ty)(ho:PE X o td):PC X .In i o (SV ty td):=by
 intro pins s σ H Q I h
 refine thn (hi pins s σ H _ I h) λiv s1 ⟨y,H1,I1,ry,q1⟩=>thn (ho pins s1 σ H1 _ I1 q1) λu s2 r9=>?_
 obtain⟨x,H2,I2,rx,a,ov,ex,g,q2⟩:=r9
 subst ex
 obtain rfl:u=Value.ref a:=rx
 exact S9 hu I2 g ry λs3 I3=>⟨.bl ov.isSome,H2,I3,rfl,q2⟩
theorem Nd (hu:X.A.units+1<cLine)(ho:PE X o td)(hi:PE X i ty)(hv:PE X value tv)(hs:swapsWith value (some (.Subscript o i pos')) pos.line X.env=pure false):
  PS X (.Assign [.Subscript o i pos'] value pos) (Nv td ty tv):=by
 intro pins s σ H D I h
 refine wpAny_Assign_Subscript (thn (hv pins s σ H _ I h) λr s1 ⟨v,H1,I1,rv,q1⟩=>thn (ho pins s1 σ H1 _ I1 q1) λu s2 ⟨x,H2,I2,rx,q2⟩=>thn (hi pins s2 σ H2 _ I2 q2) λiv s3 r9=>?_) hs
 obtain⟨y,H3,I3,ry,a,H4,ex,g,q3⟩:=r9
 subst ex
 obtain rfl:u=Value.ref a:=rx
 exact Hl hu I3 g ry rv λs4 I4=>⟨σ,H4,I4,q3⟩
end
theorem Iz {P:Program}{w:World}{H:Hp}(h:Heap)(hb:sysModules<h.objs.size):ZA P w H (h.push {cls:=.type "dict",data:=.dict #[]}) h.objs.size (.dK []):=
 ⟨Nat.zero_le _,beq_eq_false_iff_ne.mpr (Ne.symm (Nat.ne_of_lt hb)),[], .nil,Heap.DictOf.new h⟩
noncomputable def Mz:TE:=λ_ H Q=>∀ p,H p=none->Q (.ref p) (upd H p (.dK []))
section
variable {X:Cx}{pos:Pos}
theorem Lc:PE X (.Dict [] [] pos) Mz:=λpins s σ H Q I h=>
 wpAny_Dict_empty ⟨.ref s.heap.objs.size,_,I.laid (a:=s.heap.objs.size) (o:=.dK []) (t':=s.toks) (λ_ _ q=>Heap.get?_push_of_some _ q) (Nat.le_refl _) (Iz s.heap I.big),rfl,h _ (I.hok.fresh (Nat.le_refl _))⟩
end
section
variable {X:Cx}{pins:List (Addr×Obj)}{σ:St}{H:Hp}{s:Shared}{a:Addr}{y d:V}{u r:Value}{o:Option V}{A:Around}{E:Value->Shared->Prop}
end
section
variable {X:Cx}{o e f:Expr}{apos cpos:Pos}{td ty tx:TE}
end
section
variable {X:Cx}{pins:List (Addr×Obj)}{σ:St}{H:Hp}{s:Shared}{a:Addr}{kvs:List (Key×V)}{A:Around}{E:Value->Shared->Prop}
end
section
variable {X:Cx}{pins:List (Addr×Obj)}{σ:St}{H:Hp}{s:Shared}{a:Addr}{y:V}{u:Value}{A:Around}{E:Value->Shared->Prop}
end
section
variable {X:Cx}
end
section
variable {κ:Type}[DecidableEq κ]
end
theorem BO {env:Env}:∀(names:List (Str×NameKind)),(∀x∈names,x.2=NameKind.free->∃c,env.cells.lookup x.1=some c)->
  ∀cs:List (Str×Addr),(∀x c,cs.lookup x=some c->env.cells.lookup x=some c)->
  ∃cl:List (Str×Addr),(forIn names cs (λ(x:Str×NameKind) (r:List (Str×Addr))=>(if(x.2==NameKind.free)=true then do let a ←cellOf env x.1;pure (ForInStep.yield ((x.1,a)::r)) else pure (ForInStep.yield r):Sem (ForInStep (List (Str×Addr))))))=(pure cl:Sem (List (Str×Addr)))/\
   (∀x c,cl.lookup x=some c->env.cells.lookup x=some c)/\(∀x,((x,NameKind.free)∈names∨∃c,cs.lookup x=some c)->∃c,cl.lookup x=some c)
 | [],_,cs,hs=>⟨cs,by rw[List.forIn_nil],hs,λx h=>h.elim (λz=>nomatch z) id⟩
 | (n,k)::r,hf,cs,hs=>by
  have hr:∀x∈r,x.2=NameKind.free->∃c,env.cells.lookup x.1=some c:=λx hx=>hf x (List.mem_cons_of_mem _ hx)
  by_cases hk:k=NameKind.free
  ·subst hk
   obtain⟨a,ha⟩:=hf (n,NameKind.free) List.mem_cons_self rfl
   have hs':∀x c,((n,a)::cs).lookup x=some c->env.cells.lookup x=some c:=λx c h=>by
    rw[List.lookup_cons] at h
    by_cases hx:x=n
    ·subst hx
     simp only[beq_self_eq_true] at h
     rw[←h];exact ha
    ·have:(x==n)=false:=beq_eq_false_iff_ne.mpr hx
     rw[this] at h
     exact hs x c h
   obtain⟨cl,e,h1,h2⟩:=BO r hr ((n,a)::cs) hs'
   refine⟨cl,?_,h1,λx h=>h2 x ?_⟩
   ·rw[List.forIn_cons]
    have e1:cellOf env n=pure a:=by unfold cellOf;rw[show env.cells.lookup n=some a from ha]
    simp only[beq_self_eq_true,if_true,e1]
    exact e
   ·rcases h with h | ⟨c,h⟩
    ·rcases List.mem_cons.mp h with h |h
     ·have:x=n:=congrArg Prod.fst h
      subst this
      exact .inr ⟨a,by rw[List.lookup_cons];simp⟩
     ·exact .inl h
    ·by_cases hx:x=n
     ·subst hx;exact .inr ⟨a,by rw[List.lookup_cons];simp⟩
     ·exact .inr ⟨c,by rw[List.lookup_cons,beq_eq_false_iff_ne.mpr hx];exact h⟩
  ·obtain⟨cl,e,h1,h2⟩:=BO r hr cs hs
   refine⟨cl,?_,h1,λx h=>h2 x ?_⟩
   ·rw[List.forIn_cons]
    have hb:(k==NameKind.free)=false:=by simpa using hk
    simp only[hb,Bool.false_eq_true,if_false]
    exact e
   ·rcases h with h |h
    ·rcases List.mem_cons.mp h with h |h
     ·exact absurd (congrArg Prod.snd h).symm hk
     ·exact .inl h
    ·exact .inr h
theorem Gm {scope:Scope}{env:Env}(hf:∀x∈scope.names,x.2=NameKind.free->∃c,env.cells.lookup x.1=some c):
  ∃cl:List (Str×Addr),closureFor scope env=pure cl/\(∀x c,cl.lookup x=some c->env.cells.lookup x=some c)/\(∀x,(x,NameKind.free)∈scope.names->∃c,cl.lookup x=some c):=by
 obtain⟨cl,e,h1,h2⟩:=BO scope.names hf [] (λx c h=>by simp at h)
 refine⟨cl,?_,h1,λx h=>h2 x (.inl h)⟩
 unfold closureFor
 show((forIn scope.names [] (λ(x:Str×NameKind) (r:List (Str×Addr))=>(if(x.2==NameKind.free)=true then do let a ←cellOf env x.1;pure (ForInStep.yield ((x.1,a)::r)) else pure (ForInStep.yield r):Sem (ForInStep (List (Str×Addr)))))) >>= λs=>pure s)=pure cl
 rw[e]
 rfl
theorem JW {env:Env}:∀{names:List (Str×NameKind)}{x:Str}{k:NameKind},(∀y∈names,y.2≠NameKind.cell)->
  (names.map λ(n,k)=>if(k==NameKind.free&&env.scope.kind== .function&&env.kindOf n==some .cell) then(n,NameKind.cell) else(n,k)).lookup x=some k->(k= .cell∨k= .free)->(x,NameKind.free)∈names
 | [],_,_,_,h,_=>by simp at h
 | (n,kk)::r,x,k,hc,h,hk=>by
  have ih:=@JW env r x k (λy hy=>hc y (List.mem_cons_of_mem _ hy))
  have hh:=hc (n,kk) List.mem_cons_self
  simp only[List.map_cons] at h
  by_cases hcond:(kk==NameKind.free&&env.scope.kind== .function&&env.kindOf n==some .cell)=true
  ·rw[if_pos hcond,List.lookup_cons] at h
   have hfree:kk=NameKind.free:=by
    rw[Bool.and_eq_true,Bool.and_eq_true] at hcond
    simpa using hcond.1.1
   cases hx:x==n with
   |true=>
    have:x=n:=by simpa using hx
    subst this;subst hfree
    exact List.mem_cons_self
   |false=>rw[hx] at h;exact List.mem_cons_of_mem _ (ih h hk)
  ·rw[if_neg hcond,List.lookup_cons] at h
   cases hx:x==n with
   |true=>
    rw[hx] at h
    have hkk:kk=k:=Option.some.inj h
    have:x=n:=by simpa using hx
    subst this;subst hkk
    rcases hk with z |z
    ·exact absurd z hh
    ·subst z;exact List.mem_cons_self
   |false=>rw[hx] at h;exact List.mem_cons_of_mem _ (ih h hk)
theorem Q8 {env:Env}:∀{names:List (Str×NameKind)}{x:Str},names.lookup x=some .free->
  let l:=(names.map λ(n,k)=>if(k==NameKind.free&&env.scope.kind== .function&&env.kindOf n==some .cell) then(n,NameKind.cell) else(n,k))
  l.lookup x=some .cell∨l.lookup x=some .free
 | [],_,h=>by simp at h
 | (n,kk)::r,x,h=>by
  have ih:=@Q8 env r x
  simp only[List.map_cons]
  rw[List.lookup_cons] at h
  by_cases hcond:(kk==NameKind.free&&env.scope.kind== .function&&env.kindOf n==some .cell)=true
  ·rw[if_pos hcond,List.lookup_cons]
   cases hx:x==n with
   |true=>exact .inl rfl
   |false=>rw[hx] at h;exact ih h
  ·rw[if_neg hcond,List.lookup_cons]
   cases hx:x==n with
   |true=>rw[hx] at h;exact .inr h
   |false=>rw[hx] at h;exact ih h
noncomputable abbrev Cx.comp (X:Cx)(N:List Str)(scope:Scope)(cl:List (Str×Addr))(C:Addr)(s:Shared)(H:Hp)(ex:List Addr)(E:Value->Shared->Prop):Cx:=
 {X with N:=N,s₀:=s,H₀:=H,env:=compEnvC scope cl C X.env,outer:=X.stack,ex:=ex,fn:=λ_=>false,pn:=[],xe:=E}
noncomputable def PTs (X:Cx)(ifs:List Expr)(t:TT):Prop:=
 ∀(pins:List (Addr×Obj)) (s:Shared) (σ:St) (H:Hp) (Q:Bool->Hp->Prop),Inv X pins σ H s->t σ H Q->
  wpAny (model X.prog X.w) X.A (forIn ifs true λc r=>if r=true then do let ok ←isTrue c X.env (eval c X.env);pure (ForInStep.yield ok) else pure (ForInStep.yield r)) (TP X pins σ Q) X.xe s
noncomputable def KN:TT:=λ_ H Q=>Q true H
theorem Ps {σ:St}{H:Hp}{A B:Hp->Prop}(h:A H):KN σ H λc H5=>if c=true then A H5 else B H5:=by
 show if true=true then A H else B H
 rw[if_pos rfl]
 exact h
theorem Yy {X:Cx}:PTs X [] KN:=λ_ _ _ H _ I h=>wpAny_tests_nil ⟨H,I,h⟩
theorem UN {X:Cx}{c:Expr}{t:TT}(h:PT X c t):PTs X [c] t:=λpins s σ H Q I hw=>wpAny_tests_one (h pins s σ H Q I hw)
noncomputable def Vj (n:Nat)(g:TG):Prop:=∀ x σ H Q,g x σ H Q->g x σ H λσ2 H2=>Q σ2 H2/\σ2.length=σ.length/\∀i,n<=i->σ2[i]?=σ[i]?
theorem Yf {n i:Nat}(h:i<n):Vj n (YE i):=λx σ H Q q=>⟨q,by simp,λj hj=>by rw[List.getElem?_set_ne (by lia)]⟩
theorem Oc {K:PySem.W.Frag}{n i j:Nat}(hi:i<n)(hj:j<n):Vj n (Mj K 2 (Qm (YE i) (Qm (YE j) NS))):=λx σ H Q q=>by
 obtain⟨a,xs,e1,hq,hl,v,r,e2,w,r2,e3,e4,q⟩:=q
 exact⟨a,xs,e1,hq,hl,v,r,e2,w,r2,e3,e4,q,by simp,λk hk=>by rw[List.getElem?_set_ne (by lia),List.getElem?_set_ne (by lia)]⟩
noncomputable def Yb (n:Nat)(caps:List (Nat×Str))(σ:St):St:=List.replicate n none++caps.map λp=>(σ[p.1]?).join
noncomputable def IP (g:TG)(tt:TT)(te:TE)(σ:St)(Q:VK)(J:It)(W:Nat->Nat->List V->Hp->Prop):Prop:=
 ∀i m ys H2,W i m ys H2->ys.length<=sizeLine/\
  ((J.stop i H2/\∀p,H2 p=none->Q (.ref p) (upd H2 p (.lst ys)))∨
  (J.go i H2/\∃N:List V->Hp->Prop,(∀ys' H',N ys' H'->∃m',m'<m/\W (i+1) m' ys' H')/\∀x H3,J.yld i H2 x H3->g x σ H3 λσ4 H4=>tt σ4 H4 λc H5=>
   if c=true then te σ4 H5 λv H6=>N (ys++[v]) H6 else N ys H5))
noncomputable def HA (n:Nat)(caps:List (Nat×Str))(g:TG)(tt:TT)(te:TE)(σ:St)(Q:VK)(J:It)(H1:Hp):Prop:=
 ∃W:Nat->Nat->List V->Hp->Prop,(∃m,W 0 m [] H1)/\IP g tt te (Yb n caps σ) Q J W
noncomputable def K3 (n:Nat)(caps:List (Nat×Str))(wi:TI)(g:TG)(tt:TT)(te:TE):TE:=λσ H Q=>wi σ H λJ H1=>HA n caps g tt te σ Q J H1
noncomputable def U9 (sc scope:Scope)(N0 tns:List Str)(caps:List (Nat×Str)):Bool:=
 scope.kind== .function&&scope.names.all (λy=>!(y.2== .cell))&&scope.names.all (λy=>!(y.2== .local) || scope.names.lookup y.1==some .local)&&
 scope.names.all (λy=>!(y.2== .free) || sc.names.lookup y.1==some .cell)&&caps.all (λp=>N0[p.1]?==some p.2&&sc.names.lookup p.2==some .cell&&scope.names.lookup p.2==some .free)
theorem U5 {α:Type}{p:α}{P:Prop}(h:p∈([]:List α)):P:=nomatch h
noncomputable def Ro (M:Model)(A:Around)(elt tg:Expr)(ifs:List Expr)(acc:Value)(env:Env)(E:Value->Shared->Prop)(K:Shared->Prop)(v:Value)(s:Shared):Prop:=
 wpAny M A (assign tg env v) (λ_ s₂=>wpAny M A (forIn ifs true λc r=>if r=true then do let ok ←isTrue c env (eval c env);pure (ForInStep.yield ok) else pure (ForInStep.yield r)) (λok s₃=>
  if ok=true then wpAny M A (eval elt env) (λx s₄=>wpAny M A (call (.builtin "list.append") [acc,x]) (λ_ s₅=>K s₅) E s₄) E s₃ else K s₃) E s₂) E s
noncomputable def So (M:Model)(A:Around)(elt tg:Expr)(ifs:List Expr)(it acc:Value)(env:Env)(E:Value->Shared->Prop)(Rn K:Shared->Prop)(s:Shared):Prop:=
 wpAny M A (pyNext it) (λr s₁=>r=none/\Rn s₁∨∃v,r=some v/\wpAny M A (letOwnedTupleGo tg it v) (λ_ s₁=>Ro M A elt tg ifs acc env E K v s₁) E s₁) E s
section
variable {prog:Program}{w:World}{A:Around}{R:Result->Shared->Prop}{s:Shared}
theorem GJ {elt target iter:Expr}{ifs:List Expr}{scope:Scope}{pos:Pos}{it acc:Value}{env:Env}{E:Value->Shared->Prop}(I:Nat->Shared->Prop)(hE:(notedBy (model prog w) A env λe s'=>R (.error e) s')=E)
  (turn:∀n s,I n s->So (model prog w) A elt target ifs it acc env E (λs=>R (.ok .next) s) (λs=>∃ m,m<n/\I m s) s)(n:Nat)(h:I n s):
  codeAny (model prog w) A (.compLoop (.ListComp elt [⟨target,iter,ifs,0⟩] scope pos) 0 it acc env) R s:=by
 subst hE
 refine codeAny_loop rfl I (λn s hI=>?_) n h
 show wpAny _ A ((compTurn (.ListComp elt [⟨target,iter,ifs,0⟩] scope pos) 0 it acc env).onRaise (λx=>do noteFrame x env;theTreesLotGoes x)) _ _ s
 refine wpAny_noted ?_
 rw[compTurn_list]
 refine wpAny_bind (wpAny_standAt (wpAny_bind (thn (turn n s hI) λr s₁ h₁=>?_)))
 rcases h₁ with⟨rfl,h₁⟩ | ⟨v,rfl,h₁⟩
 ·exact wpAny_pure h₁
 ·refine wpAny_bind (thn h₁ λ_ s₁' h₁'=>wpAny_bind (thn h₁' λ_ s₂ h₂=>wpAny_bind (thn h₂ λok s₃ h₃=>?_)))
  cases ok with
  |false=>exact wpAny_pure ⟨rfl,h₃⟩
  |true=>exact wpAny_bind (wpAny_bind (thn h₃ λx s₄ h₄=>wpAny_bind (thn h₄ λ_ s₅ h₅=>wpAny_pure (wpAny_pure ⟨rfl,h₅⟩))))
end
noncomputable def lob (its:List Value)(k:Nat):Obj:={cls:=.type "list",data:=.seq (List.toArray its) k}
structure CIn (Y:Cx)(tn:Nat->Heap->Prop)(fp:List Addr)(D:Addr)(σ:St)(i:Nat)(H:Hp)(o:Obj)(s:Shared):Prop where
 I:Inv Y [] σ H s
 t:tn i s.heap
 f:∀b∈fp,H b=none
 l:s.heap.get? D=some o
 n:H D=none
inductive CI (Y:Cx)(tn:Nat->Heap->Prop)(fp:List Addr)(D:Addr)(σ:St)(W:Nat->Nat->List V->Hp->Prop)(m:Nat)(s:Shared):Prop
 |mk (i:Nat) (H:Hp) (ys:List V) (its:List Value) (k:Nat) (c:CIn Y tn fp D σ i H (lob its k) s) (r:X5 ys its) (w:W i m ys H)
structure CAt (Y:Cx)(fp:List Addr)(D:Addr):Prop where
 calm:Y.calm=true
 pn:Y.pn=[]
 ne:D≠Y.env.locals
 fs:D∉Y.fs
 sz:Y.s₀.heap.objs.size<=D
 cl:∀x c,Y.env.cells.lookup x=some c->c≠D
 fpn:∀b∈fp,b≠D
 ok:∀b∈fp,∀H:Hp,H b=none->Fj Y [] H b
section
variable {Y:Cx}{tn:Nat->Heap->Prop}{fp:List Addr}{D it:Addr}{σ:St}{tg elt iter:Expr}{ifs:List Expr}{J:It}{g:TG}{tt:TT}{te:TE}{n i:Nat}{H:Hp}{s:Shared}{o:Obj}{Kn:Shared->Prop}
theorem CAt.pins (c:CAt Y fp D)(hn:∀b∈fp,H b=none):∀b∈fp,Fj Y [(D,o)] H b:=λb hb=>
 have z:=c.ok b hb H (hn b hb)
 ⟨z.1,z.2.1,z.2.2.1,z.2.2.2.1,z.2.2.2.2.1,λp hp e=>by
  rw[c.pn] at hp
  cases List.mem_singleton.mp hp
  exact c.fpn b hb e.symm⟩
theorem Cd (T:Turn Y.prog Y.w Y.K tg J fp it tn){h5:Heap}(t:tn i h5)(I:Inv Y ([(D,o)]++G4 fp h5) σ H s):CIn Y tn fp D σ i H o s:=
 have p:=I.pin (D,o) (List.mem_append_right _ (.head _))
 have q:∀b∈fp,∀o',h5.get? b=some o'->s.heap.get? b=some o'/\H b=none:=λb hb o' e=>have z:=I.pin (b,o') (List.mem_append_right _ (.tail _ (Vp hb e)));⟨z.1,z.2.1⟩
 ⟨I.pins_of (pins':=[]) λ_ h=>U5 h,T.keep _ _ _ t λb hb o' e=>(q b hb o' e).1,λb hb=>(T.obj _ _ t b hb).elim λo' e=>(q b hb o' e.1).2,p.1,p.2.1⟩
theorem S3 (T:Turn Y.prog Y.w Y.K tg J fp it tn)(a:CAt Y fp D){its:List Value}{k:Nat}{v:Value}{E:Value->Shared->Prop}(c:CIn Y tn fp D σ i H (lob its k) s)(hz:its.length<=sizeLine)
  (hQ:∀k' s',CIn Y tn fp D σ i H (lob (its++[v]) k') s'->Kn s'):wpAny (model Y.prog Y.w) Y.A (call (.builtin "list.append") [.ref D,v]) (λ_ s=>Kn s) E s:=by
 refine call_meets F.slot_list_append ⟨_,c.l,rfl⟩ F.entry_list_append (F.args_list_append_2 _ _) (PySem.list_append D (List.toArray its) k v hz) ⟨c.l,?_⟩
 have q:∃k',PySem.IsL (s.heap.update D (Obj.mapSeq (·.push v))) D ((List.toArray its).push v) k':=⟨_,PySem.IsL.update c.l (·.push v)⟩
 rw[List.push_toArray] at q
 obtain⟨k',q⟩:=q
 exact hQ k' _ ⟨c.I.turned (t':=s.toks) (h':=s.heap.update D (Obj.mapSeq (·.push v))) (it:=D) (λb o hb' e=>(Heap.get?_update_other s.heap _ (Ne.symm hb')).trans e) c.n a.ne (.inr a.sz) a.cl (λp hp=>by rw[a.pn] at hp;exact U5 hp),
  T.keep _ _ _ c.t λb hb o e=>(Heap.get?_update_other s.heap _ (Ne.symm (a.fpn b hb))).trans e,c.f,q,c.n⟩
theorem IW {acc:Value}{pins:List (Addr×Obj)}{N:List V->Hp->Prop}{ys:List V}{x:V}{u:Value}(hg:PG Y tg g)(ht:PTs Y ifs tt)(he:PE Y elt te)(hG:Vj n g)(h0:∀(j:Nat) v,σ[j]?=some (some v)->n<=j)
  (I:Inv Y pins σ H s)(r:X9 x u)(st:g x σ H λσ4 H4=>tt σ4 H4 λc H5=>if c=true then te σ4 H5 λv H6=>N (ys++[v]) H6 else N ys H5)
  (hF:∀H7 s7,Inv Y pins σ H7 s7->N ys H7->Kn s7)(hT:∀H8 s8 y v,Inv Y pins σ H8 s8->X9 y v->N (ys++[y]) H8->wpAny (model Y.prog Y.w) Y.A (call (.builtin "list.append") [acc,v]) (λ_ s=>Kn s) Y.xe s8):
  Ro (model Y.prog Y.w) Y.A elt tg ifs acc Y.env Y.xe Kn u s:=by
 refine thn (hg _ s _ H x u _ I r (hG _ _ _ _ st)) λ_ s6 r9=>?_
 obtain⟨σ6,H6,I6,q6,l6,k6⟩:=r9
 have wk:∀(j:Nat) v,σ[j]?=some (some v)->σ6[j]?=some (some v):=λj v e=>(k6 j (h0 j v e)).trans e
 refine thn (ht _ s6 σ6 H6 _ I6 q6) λc s7 r9=>?_
 obtain⟨H7,I7,q7⟩:=r9
 cases c with
 |false=>exact hF _ _ (I7.weak l6.symm wk) q7
 |true=>exact thn (he _ s7 σ6 H7 _ I7 q7) λv8 s8 r9=>by obtain⟨y8,H8,I8,r8,n8⟩:=r9;exact hT _ _ _ _ (I8.weak l6.symm wk) r8 n8
theorem Vs {scope:Scope}{pos:Pos}{Q:V->Hp->Prop}{R:Result->Shared->Prop}(hE:(notedBy (model Y.prog Y.w) Y.A Y.env λe s'=>R (.error e) s')=Y.xe)
  (T:Turn Y.prog Y.w Y.K tg J fp it tn)(hG:Vj n g)(hg:PG Y tg g)(ht:PTs Y ifs tt)(he:PE Y elt te)(a:CAt Y fp D)(h0:∀(j:Nat) v,σ[j]?=some (some v)->n<=j)
  {W:Nat->Nat->List V->Hp->Prop}(turn:IP g tt te σ Q J W)
  (hEnd:∀ys its k H3 s4,Inv Y [(D,lob its k)] σ H3 s4->X5 ys its->ys.length<=sizeLine->Q (.ref D) (upd H3 D (.lst ys))->R (.ok .next) s4){m0:Nat}(hi:CI Y tn fp D σ W m0 s):
  codeAny (model Y.prog Y.w) Y.A (.compLoop (.ListComp elt [⟨tg,iter,ifs,0⟩] scope pos) 0 (.ref it) (.ref D) Y.env) R s:=by
 refine GJ (CI Y tn fp D σ W) hE (λm s3 c=>?_) m0 hi
 cases c with
 |mk i H3 ys its k c rv w3=>
 have I3:Inv Y [(D,lob its k)] σ H3 s3:=c.I.pins_of λp hp=>List.mem_singleton.mp hp▸⟨c.l,c.n,a.ne,a.fs,λ_ z=>by cases z⟩
 have t:=turn i m ys H3 w3
 refine t.2.elim (λq=>?_) λq=>?_
 ·exact thn (T.done Y rfl rfl rfl a.calm i _ s3 _ H3 Y.xe I3 (a.pins c.f) c.t q.1) λr s4 h=>.inl ⟨h.1,hEnd ys its k H3 s4 h.2 rv t.1 (q.2 D c.n)⟩
 ·refine q.2.elim λNN h=>?_
  refine thn (T.item Y rfl rfl rfl a.calm i _ s3 _ H3 Y.xe I3 (a.pins c.f) c.t q.1) λr s4 h4=>.inr (h4.elim λu h4=>⟨u,h4.1,thn h4.2 λ_ s5 h5=>h5.elim λx h5=>h5.elim λH5 h5=>?_⟩)
  exact IW hg ht he hG h0 (h5.1.pinned (a.pins h5.2.2.2.2) (T.obj _ _ h5.2.2.2.1)) h5.2.1 (h.2 x H5 h5.2.2.1)
   (λH7 s7 I7 q7=>(h.1 _ _ q7).elim λm' z=>⟨m',z.1, .mk (i+1) H7 ys its k (Cd T h5.2.2.2.1 I7) rv z.2⟩)
   λH8 s8 y v I8 r8 q8=>(h.1 _ _ q8).elim λm' z=>S3 T a (Cd T h5.2.2.2.1 I8) (rv.length▸t.1) λk' s' c'=>⟨m',z.1, .mk (i+1) H8 (ys++[y]) (its++[v]) k' c' (rv.append (.cons r8 .nil)) z.2⟩
end
section
variable {X:Cx}{elt tg iter:Expr}{ifs:List Expr}{scope sc:Scope}{pos:Pos}{n:Nat}{tns:List Str}{caps:List (Nat×Str)}{wi:TI}{g:TG}{tt:TT}{te:TE}
structure CompEnd (X:Cx)(pins:List (Addr×Obj))(σ:St)(H3:Hp)(D C:Addr)(ys:List V)(s':Shared):Prop where
 inv:Inv X pins σ (upd H3 D (.lst ys)) s'
 fresh:H3 D=none
 fp:Fj X pins (upd H3 D (.lst ys)) C
 ns:∃m,s'.heap.Ns C m
theorem Kp {pins:List (Addr×Obj)}{σ σ':St}{H H3:Hp}{s s4:Shared}{D C:Addr}{fp:List Addr}{its:List Value}{k:Nat}{ys:List V}{Y:Cx}(I:Inv X pins σ H s)(hf:∀b∈fp,Fj X pins H b)(hD:s.heap.objs.size<=D)(hDlt:D<C)
  (I4:Inv Y [(D,lob its k)] σ' H3 s4)(hos:s4.os=s.os)(u:Un (frs X.stack) fp H H3 s.heap s4.heap)(hok:HOk X.prog X.w H3 s4.heap)(hC:Y.env.locals=C)(rv:X5 ys its)(hz:ys.length<=sizeLine):CompEnd X pins σ H3 D C ys s4:=by
 subst hC
 have p:=I4.pin (D,lob its k) (List.mem_append_right _ (.head _))
 have hDn:H3 D=none:=p.2.1
 have up:∀{b:Addr}{o:HO},H3 b=some o->upd H3 D (.lst ys) b=some o:=λe=>(XF (XU e hDn)).trans e
 refine⟨I.call' (ch:=fp) hos ⟨u.keep,u.slot,λb o e nn hx=>(XF (Nat.ne_of_lt (Nat.lt_of_lt_of_le (Heap.lt_size e) hD))).trans (u.free b o e nn hx),u.there,λb xs e=>up (u.tups b xs e),λb o xs e=>up (u.frzs b o xs e),λb ps e=>(u.tbls b ps e).elim λmore z=>⟨more,up z⟩⟩ (λa o e=>?_) I4.bare λb hb=>have z:=hf b hb;⟨z.2.2.2.1,z.2.1,z.2.2.2.2.1,z.2.2.2.2.2⟩,hDn,I.fpOk (Nat.le_trans hD (Nat.le_of_lt hDlt)) ((XF (Nat.ne_of_gt hDlt)).trans I4.free),I4.loc.elim λm z=>⟨m,z.1⟩⟩
 by_cases ha:a=D
 ·subst ha
  rw[Yk] at e;cases e
  exact⟨hz,its,k,rv,p.1⟩
 ·rw[XF ha] at e
  exact(hok a o e).stay (λb u _ q=>q) (λb q=>up q) λb xs q=>up q
noncomputable def S7 (X:Cx)(elt tg iter:Expr)(ifs:List Expr)(scope:Scope)(pos:Pos)(it:Value)(cl:List (Str×Addr))(RR:Value->Addr->Result->Shared->Prop)(E:Value->Shared->Prop)(s:Shared):Prop:=
 wpAny (model X.prog X.w) X.A (newList []) (λacc s₃=>wpAny (model X.prog X.w) X.A (newFunctionEnv scope X.env.globals cl [] X.env.qual none .none (some X.env)) (λcenv s₄=>
   codeAny (model X.prog X.w) X.A (.compStart (.ListComp elt [⟨tg,iter,ifs,0⟩] scope pos) 0 it acc {cenv with scope:=relabel scope X.env}) (RR acc cenv.locals) s₄) E s₃) E s
theorem JZ {σ:St}{i:Nat}{v:V}(e:(Yb n caps σ)[i]?=some (some v)):n<=i/\∃p,caps[i-n]?=some p/\σ[p.1]?=some (some v):=by
 unfold Yb at e
 by_cases h:i<n
 ·rw[List.getElem?_append_left (by simpa using h),List.getElem?_replicate,if_pos h] at e
  cases e
 ·have hi:=Nat.le_of_not_lt h
  rw[List.getElem?_append_right (by simpa using hi),List.length_replicate,List.getElem?_map] at e
  refine⟨hi,?_⟩
  cases hcp:caps[i-n]? with
  |none=>rw[hcp] at e;cases e
  |some p=>
   rw[hcp] at e
   exact⟨p,rfl,Option.join_eq_some_iff.mp (Option.some.inj e)⟩
structure COk (X:Cx)(scope:Scope)(caps:List (Nat×Str)):Prop where
 kind:scope.kind= .function
 cell:∀y∈scope.names,y.2≠NameKind.cell
 loc:∀y∈scope.names,y.2= .local->scope.names.lookup y.1=some .local
 free:∀y∈scope.names,y.2= .free->X.env.scope.names.lookup y.1=some .cell
 caps:∀p∈caps,(X.N[p.1]?=some p.2/\X.env.scope.names.lookup p.2=some .cell)/\scope.names.lookup p.2=some .free
theorem COk.of {N0:List Str}(hsc:X.env.scope=sc)(hN0:X.N=N0)(ok:U9 sc scope N0 tns caps=true):COk X scope caps:=by
 subst hsc
 subst hN0
 unfold U9 at ok
 simp only[Bool.and_eq_true,List.all_eq_true,beq_iff_eq,Bool.or_eq_true,Bool.not_eq_true',beq_eq_false_iff_ne] at ok
 exact⟨ok.1.1.1.1,ok.1.1.1.2,λy hy e=>(ok.1.1.2 y hy).resolve_left (absurd e),λy hy e=>(ok.1.2 y hy).resolve_left (absurd e),ok.2⟩
section
variable {pins:List (Addr×Obj)}{σ:St}{H:Hp}{s:Shared}{fp:List Addr}{cl:List (Str×Addr)}{C:Addr}{E:Value->Shared->Prop}{N:List Str}{h₁:Heap}
theorem EV (ok:COk X scope caps)(I:Inv X pins σ H s)(hf:∀b∈fp,Fj X pins H b)(hlt:∀b∈fp,b<s.heap.objs.size)
  (hsub:∀x c,cl.lookup x=some c->X.env.cells.lookup x=some c)(hall:∀x,(x,NameKind.free)∈scope.names->∃c,cl.lookup x=some c)(hC:s.heap.objs.size<C):(X.comp N scope cl C s H fp E).Ok:=
 ⟨I.ok.mod,ok.kind,I.ok.glob,I.ok.blt,Nat.le_of_lt hC,λx y c h1 h2=>I.ok.inj x y c (hsub x c h1) (hsub y c h2),λx hx=>hall x (hx.elim (λz=>JW ok.cell z (.inl rfl)) λz=>JW ok.cell z (.inr rfl)),(λx c hx=>by cases hx),I.ok.hd,I.ok.frames, .inl rfl,
  λb hb=>⟨Nat.ne_of_lt (Nat.lt_trans (hlt b hb) hC),λx c e=>(hf b hb).2.2.2.2.1 x c (hsub x c e)⟩,I.bs,Nat.le_trans I.ok.bsz I.sz,λb o e hb=>(hf b hb).2.2.2.1.elim (I.ok.noex b o e) λz=>absurd (Nat.lt_of_lt_of_le (Heap.lt_size e) (Nat.le_trans I.ok.bsz z)) (Nat.lt_irrefl _),
  λb hb hz=>(List.mem_cons.mp (I.stkSub b hz)).elim (hf b hb).2.1 (hf b hb).2.2.1,I.stack,I.stkFree⟩
theorem DW (okc:COk X scope caps)(hn:tns.length=n)(ok:(X.comp (tns++caps.map (·.2)) scope cl C s H fp E).Ok)(I:Inv X pins σ H s)
  (hsub:∀x c,cl.lookup x=some c->X.env.cells.lookup x=some c)(hall:∀x,(x,NameKind.free)∈scope.names->∃c,cl.lookup x=some c)(hC:s.heap.objs.size<C)(hns:h₁.Ns C λ_=>none)(old:∀b o,s.heap.get? b=some o->h₁.get? b=some o){tk:Nat}:
  Inv (X.comp (tns++caps.map (·.2)) scope cl C s H fp E) [] (Yb n caps σ) H {s with heap:=h₁,toks:=tk}:=by
 refine⟨ok,rfl,I.bare,Un.kept old,⟨_,hns,λi x v e1 e2 _=>?_⟩,λx c e=>(I.cell x c (hsub x c e)).elim λv z=>z.elim λo z=>⟨v,o,old _ _ z.1,z.2⟩,I.hok.fresh (Nat.le_of_lt hC),λx c e=>I.freeC x c (hsub x c e),λp hp=>U5 (α:=Addr×Obj) hp,I.hok.kept old,by simp[Yb,hn]⟩
 obtain⟨hi,p,hp,hσ⟩:=JZ e2
 have e1':(tns++caps.map (·.2))[i]?=some x:=e1
 rw[List.getElem?_append_right (hn▸hi),hn,List.getElem?_map,hp] at e1'
 cases Option.some.inj e1'
 have p5:=okc.caps p (List.mem_of_getElem? hp)
 obtain⟨m,hm,hl⟩:=I.loc
 obtain⟨u,r,l⟩:=hl p.1 p.2 v p5.1.1 hσ (.inr (.inl p5.1.2))
 refine⟨u,r, .inr ?_⟩
 rcases l with⟨k,_⟩ | ⟨k,c,e,z⟩
 ·cases p5.1.2.symm.trans k
 ·obtain⟨c',e'⟩:=hall p.2 (PySem.mem_of_lookup p5.2)
  cases e.symm.trans (hsub _ _ e')
  exact⟨Q8 (env:=X.env) p5.2,c,e',z.elim λo z=>⟨o,old _ _ z.1,z.2⟩⟩
variable {J:It}{it:Addr}{tn:Nat->Heap->Prop}{Q:V->Hp->Prop}{RR:Value->Addr->Result->Shared->Prop}{W:Nat->Nat->List V->Hp->Prop}{m0:Nat}
theorem NB (ok:COk X scope caps)(hc:X.calm=true)(hn:tns.length=n)(hG:Vj n g)
  (hb:∀cl C s H ex E,PG (X.comp (tns++caps.map (·.2)) scope cl C s H ex E) tg g/\PTs (X.comp (tns++caps.map (·.2)) scope cl C s H ex E) ifs tt/\PE (X.comp (tns++caps.map (·.2)) scope cl C s H ex E) elt te)
  (I:Inv X pins σ H s)(T:Turn X.prog X.w X.K tg J fp it tn)(t0:tn 0 s.heap)(hf:∀b∈fp,Fj X pins H b)
  (hsub:∀x c,cl.lookup x=some c->X.env.cells.lookup x=some c)(hall:∀x,(x,NameKind.free)∈scope.names->∃c,cl.lookup x=some c)
  (w0:W 0 m0 [] H)(turn:IP g tt te (Yb n caps σ) Q J W)
  (hRR:∀D C ys H3 s',CompEnd X pins σ H3 D C ys s'->Q (.ref D) (upd H3 D (.lst ys))->RR (.ref D) C (.ok .next) s')
  (hC:s.heap.objs.size<C)(hns:h₁.Ns C λ_=>none)(old:∀b o,s.heap.get? b=some o->h₁.get? b=some o)(hacc:h₁.get? s.heap.objs.size=some (lob [] 0)){tk:Nat}:
  codeAny (model X.prog X.w) X.A (.compStart (.ListComp elt [⟨tg,iter,ifs,0⟩] scope pos) 0 (.ref it) (.ref s.heap.objs.size) (compEnvC scope cl C X.env)) (RR (.ref s.heap.objs.size) C) {s with heap:=h₁,toks:=tk}:=by
 have hlt:∀b∈fp,b<s.heap.objs.size:=λb hb=>(T.obj _ _ t0 b hb).elim λo e=>Heap.lt_size e.1
 have okY:∀E,(X.comp (tns++caps.map (·.2)) scope cl C s H fp E).Ok:=λE=>EV ok I hf hlt hsub hall hC
 have t1:tn 0 h₁:=T.keep _ _ _ t0 λb _ o e=>old b o e
 have loop:∀tk,codeAny (model X.prog X.w) X.A (.compLoop (.ListComp elt [⟨tg,iter,ifs,0⟩] scope pos) 0 (.ref it) (.ref s.heap.objs.size) (compEnvC scope cl C X.env)) (RR (.ref s.heap.objs.size) C) {s with heap:=h₁,toks:=tk}:=λtk=>
  have z:=hb cl C s H fp (notedBy (model X.prog X.w) X.A (compEnvC scope cl C X.env) λe s'=>RR (.ref s.heap.objs.size) C (.error e) s')
  Vs (Y:=X.comp (tns++caps.map (·.2)) scope cl C s H fp _) rfl T hG z.1 z.2.1 z.2.2
   ⟨hc,rfl,Nat.ne_of_lt hC,λhz=>(I.stack.mem hz).2.elim λo ho=>absurd (Heap.lt_size ho.1) (Nat.lt_irrefl _),Nat.le_refl _,λx c e=>(I.cell x c (hsub x c e)).elim λv z=>Nat.ne_of_lt z.lt,λb hb=>Nat.ne_of_lt (hlt b hb),
    λb hb H' h'=>⟨h',Nat.ne_of_lt (Nat.lt_trans (hlt b hb) hC),(okY λ_ _=>True).exfs b hb, .inl hb,λx c e=>(hf b hb).2.2.2.2.1 x c (hsub x c e),λp hp=>U5 (α:=Addr×Obj) hp⟩⟩
   (λj v e=>(JZ e).1) turn (λys its k H3 s4 I4 rv hz q=>hRR _ C ys H3 s4 (Kp I hf (Nat.le_refl _) hC I4 I4.os I4.base I4.hok rfl rv hz) q)
   (.mk 0 H [] [] 0 ⟨DW ok hn (okY _) I hsub hall hC hns old,t1,λb hb=>(hf b hb).1,hacc,I.hok.fresh (Nat.le_refl _)⟩ .nil w0)
 exact codeAny_compStart_list (loop _) (T.self _ 0 _ _ _ t1 (loop _))
theorem Kd (ok:COk X scope caps)(hc:X.calm=true)(hn:tns.length=n)(hG:Vj n g)
  (hb:∀cl C s H ex E,PG (X.comp (tns++caps.map (·.2)) scope cl C s H ex E) tg g/\PTs (X.comp (tns++caps.map (·.2)) scope cl C s H ex E) ifs tt/\PE (X.comp (tns++caps.map (·.2)) scope cl C s H ex E) elt te)
  {itv:Value}(h:PIE X pins σ tg (λJ H1=>HA n caps g tt te σ Q J H1) itv s)
  (hsub:∀x c,cl.lookup x=some c->X.env.cells.lookup x=some c)(hall:∀x,(x,NameKind.free)∈scope.names->∃c,cl.lookup x=some c)
  (hRR:∀D C ys H3 s',CompEnd X pins σ H3 D C ys s'->Q (.ref D) (upd H3 D (.lst ys))->RR (.ref D) C (.ok .next) s'):
  S7 X elt tg iter ifs scope pos itv cl RR E s:=by
 obtain⟨it,fp,tn,J,H',rfl,I,T,t0,hf,W,⟨m0,w0⟩,turn⟩:=h
 refine wpAny_newObj_type (wpAny_newFunctionEnv ok.cell (by intro y hy;simp at hy) (λh₁ hns₁ hsb₁=>?_) ok.kind)
 have hs:∀o,(s.heap.push o).objs.size=s.heap.objs.size+1:=λo=>Heap.size_push ..
 exact NB ok hc hn hG hb I T t0 hf hsub hall w0 turn hRR (Nat.lt_of_lt_of_eq (Nat.lt_succ_self _) (hs _).symm) hns₁
  (λb o e=>hsb₁.extBut b o (Nat.ne_of_lt (Nat.lt_trans (Heap.lt_size e) (Nat.lt_of_lt_of_eq (Nat.lt_succ_self _) (hs _).symm))) (Heap.get?_push_of_some _ (Heap.get?_push_of_some _ e)))
  (hsb₁.extBut _ _ (Nat.ne_of_lt (Nat.lt_of_lt_of_eq (Nat.lt_succ_self _) (hs _).symm)) (Heap.get?_push_of_some _ (Heap.get?_push_size _ rfl)))
end
theorem OF (sc:Scope)(N0:List Str)(tns:List Str)(caps:List (Nat×Str))(hc:X.calm=true)(hi:PI X tg iter wi)(hG:Vj tns.length g)
  (hb:∀cl C s H ex E,PG (X.comp (tns++caps.map (·.2)) scope cl C s H ex E) tg g/\PTs (X.comp (tns++caps.map (·.2)) scope cl C s H ex E) ifs tt/\PE (X.comp (tns++caps.map (·.2)) scope cl C s H ex E) elt te)
  (hsc:X.env.scope=sc:=by rfl)(hN0:X.N=N0:=by rfl)(ok:U9 sc scope N0 tns caps=true:=by decide+kernel)
  (hs:∀x,foldedSetIterable iter X.env x=pure x:=by intro _;rfl):
  PE X (.ListComp elt [⟨tg,iter,ifs,0⟩] scope pos) (K3 tns.length caps wi g tt te):=by
 intro pins s σ H Q I h
 have okc:=COk.of hsc hN0 ok
 obtain⟨cl,ecl,hsub,hall⟩:=Gm (scope:=scope) (env:=X.env) λx hx hfr=>I.ok.has x.1 (.inl (okc.free x hx hfr))
 rw[eval_ListComp]
 exact wpAny_comprehension_free (use:=none) rfl hs ecl okc.kind okc.loc (thn (hi pins s σ H _ I h) λxv s₁ h₁=>thn h₁ λitv s₂ h₂=>
  Kd (RR:=λacc C=>compPost (model X.prog X.w) X.A X.xe none (EP X pins σ Q) acc C) okc hc rfl hG hb h₂ hsub hall λD C ys H3 s' ce q=>ce.ns.elim λmm hns=>
   ⟨mm,hns,λh' hs'=>⟨.ref D,_,ce.inv.turned (t':=s'.toks) (λb o hb' e=>(hs'.extBut b o hb' e)) ce.fp.1 ce.fp.2.1 ce.fp.2.2.2.1 ce.fp.2.2.2.2.1 ce.fp.2.2.2.2.2,rfl,q⟩⟩)
theorem KP {x:Str}{px spos:Pos}(j:Nat)(sc:Scope)(N0:List Str)(tns:List Str)(caps:List (Nat×Str))(hc:X.calm=true)(hN:X.N.Nodup)(hj:X.N[j]?=some x)(hx:X.env.scope.names.lookup x=some .local)(hi:PI X tg iter wi)(hG:Vj tns.length g)
  (hb:∀cl C s H ex E,PG (X.comp (tns++caps.map (·.2)) scope cl C s H ex E) tg g/\PTs (X.comp (tns++caps.map (·.2)) scope cl C s H ex E) ifs tt/\PE (X.comp (tns++caps.map (·.2)) scope cl C s H ex E) elt te)
  (hsc:X.env.scope=sc:=by rfl)(hN0:X.N=N0:=by rfl)(ok:U9 sc scope N0 tns caps=true:=by decide+kernel)
  (hsw:swapsWith (.ListComp elt [⟨tg,iter,ifs,0⟩] scope pos) (some (.Name x px)) spos.line X.env=pure true:=by rfl)
  (hs:∀x,foldedSetIterable iter X.env x=pure x:=by intro _;rfl):
  PS X (.Assign [.Name x px] (.ListComp elt [⟨tg,iter,ifs,0⟩] scope pos) spos) (Bf (K3 tns.length caps wi g tt te) (YE j)):=by
 intro pins s σ H D I h
 have okc:=COk.of hsc hN0 ok
 obtain⟨cl,ecl,hsub,hall⟩:=Gm (scope:=scope) (env:=X.env) λx hx hfr=>I.ok.has x.1 (.inl (okc.free x hx hfr))
 rw[exec_Assign_Name_used _ _ _ _ hsw]
 refine wpAny_bind (wpAny_standAt (wpAny_bind ?_))
 show wpAny _ _ (do let _ ←comprehension (.ListComp elt [⟨tg,iter,ifs,0⟩] scope pos) scope X.env _ (newList []) false (eval iter X.env) (some (assign (.Name x px) X.env))) _ _ s
 refine wpAny_bind (thn (wpAny_comprehension_free (use:=some (assign (.Name x px) X.env)) (Q:=λ_ s'=>SP X pins D .next s') rfl hs ecl okc.kind okc.loc
  (thn (hi pins s σ H _ I h) λxv s₁ h₁=>thn h₁ λitv s₂ h₂=>?_)) λ_ s' hq=>wpAny_pure (wpAny_pure hq))
 refine Kd (Q:=λv H1=>YE j v σ H1 D.nx) (RR:=λacc C=>compPost (model X.prog X.w) X.A X.xe (some (assign (.Name x px) X.env)) (λ_ s'=>SP X pins D .next s') acc C) okc hc rfl hG hb h₂ hsub hall ?_
 intro DD C ys H3 s' ce q
 obtain⟨mm,hns⟩:=ce.ns
 obtain⟨c0,c1,c2,c3,c4,c5⟩:=ce.fp
 show wpAny _ _ (assign (.Name x px) X.env (.ref DD)) _ _ _
 refine wpAny_assign_Name (G2 ce.inv hN hj (.inl hx) (v:=.ref DD) rfl (λs2 I2 chg=>?_) (.inr hx))
 obtain⟨c,hsb,hcc⟩:=chg
 have hCc:C≠c:=by
  rcases hcc with z |z
  ·rw[z];exact c1
  ·exact λe=>c4 x c z e.symm
 refine⟨mm,?_,λh' hs'=>?_⟩
 ·obtain⟨o,es,ep,ho,r⟩:=hns
  exact⟨o,es,ep,(hsb.2 C hCc).trans ho,r⟩
 ·exact⟨_,_,I2.turned (t':=s2.toks) (λb o hb' e=>(hs'.extBut b o hb' e)) c0 c1 c3 c4 c5,q⟩
end
section
variable {K:PySem.W.Frag}{a:Addr}{xs:List V}{n:Nat}{caps:List (Nat×Str)}{g:TG}{tt:TT}{te:TE}{σ:St}{H:Hp}{Q:V->Hp->Prop}
theorem Ek (Pv:Nat->List V->Hp->Prop)(h0:Pv 0 [] H)(hl:∀i ys H,i<=xs.length->Pv i ys H->SqL K H a xs/\ys.length<=sizeLine)
  (hs:∀i x ys H,xs[i]?=some x->Pv i ys H->g x (Yb n caps σ) H λσ4 H4=>tt σ4 H4 λc H5=>if c=true then te σ4 H5 λv H6=>Pv (i+1) (ys++[v]) H6 else Pv (i+1) ys H5)
  (hd:∀ys H p,Pv xs.length ys H->H p=none->Q (.ref p) (upd H p (.lst ys))):
  HA n caps g tt te σ Q (Itl K a) H:=by
 refine⟨λi m ys H=>m=xs.length-i/\i<=xs.length/\Pv i ys H,⟨xs.length,by simp,Nat.zero_le _,h0⟩,?_⟩
 rintro i m ys H2 ⟨rfl,hi,p⟩
 obtain⟨q,hz⟩:=hl i ys H2 hi p
 refine⟨hz,?_⟩
 by_cases hlt:i<xs.length
 ·refine .inr ⟨⟨xs,xs[i],q,by simp[hlt]⟩,Pv (i+1),λys' H' p'=>⟨xs.length-(i+1),by(clear p' hz q p hi hd hs hl h0;omega),rfl,hlt,p'⟩,λx H' y=>?_⟩
  obtain⟨e,y⟩:=y
  subst e
  exact hs i x ys _ (y xs q) p
 ·have e:i=xs.length:=by lia
  subst e
  exact .inl ⟨⟨xs,q,Nat.le_refl _⟩,λp' hp'=>hd ys H2 p' p hp'⟩
end
section
variable {X:Cx}{pos:Pos}
noncomputable def KQ (K:PySem.W.Frag):List V->Hp->VK->Prop:=λxs H Q=>∃ p ys,xs=[.ref p]/\(SqL K H p ys∨SqT K H p ys)/\∀l,H l=none->Q (.ref l) (upd H l (.lst ys))
noncomputable def UU (K:PySem.W.Frag):List V->Hp->VK->Prop:=λxs H Q=>∃ p ys,xs=[.ref p]/\(SqL K H p ys∨SqT K H p ys)/\Q (.int ys.length) H
theorem Qq (K:PySem.W.Frag)(h:X.K=K):Va X (.type "list") (KQ K):=by subst h;exact GG
theorem Xj (K:PySem.W.Frag)(h:X.K=K):Va X (.builtin "len") (UU K):=by subst h;exact GD
theorem Yv (K:PySem.W.Frag)(h:X.K=K):IxR X (BN K):=by subst h;exact NT
theorem Ul (K:PySem.W.Frag)(h:X.K=K):IxR X (FR K):=by subst h;exact PU
theorem V8 (K:PySem.W.Frag)(h:X.K=K):SlR X (Pm K):=by subst h;exact Og
theorem EF (K:PySem.W.Frag)(h:X.K=K){es:List Expr}{k:Nat}{t:TGs}{n:Nat}(hc:X.calm=true)(hh:PGs X es t)
  (hn:(assignEach es X.env).length=n:=by rfl)(hst:(assignEach es X.env).findIdx? (·.1)=none:=by rfl):PG X (.Tuple es k pos) (Mj K n t):=by subst h;exact VG hc hh hn hst
end
structure Fn (P:Program)(w:World)(K:PySem.W.Frag)(mg:Str->Option Value)(base:Heap)(k:Nat)(x:Str)(ps:List Str)(sp:Sp):Prop where
 ex:∃f fd,FnOk P w K mg base CX0 k f fd ps sp/\GR K fd ps []/\PySem.W.keepIn K (.ref f)=true/\mg x=some (.ref f)
section
variable {X:Cx}{k j:Nat}{x:Str}{ps:List Str}{sp:Sp}{e:Expr}{es:List Expr}{t:TA}{p pos:Pos}
theorem Yg (G:Fn X.prog X.w X.K X.mg X.base k x ps sp)(hr:Room j X.A)(hj:k<=j)(ha:PA X (e::es) t)(hg:Gl X x:=by rfl)(hdb:(x==("__debug__":Str))=false:=by decide)
  (he:starEach (e::es) X.env=(false,eval e X.env)::starEach es X.env:=by rfl)(hpl:(backTo pos (starEach es X.env)).any (·.1)=false:=by rfl):
  PE X (.Call (.Name x p) (e::es) [] pos) (Qj sp [] E0 t):=by
 obtain⟨f,fd,F,b,kp,m⟩:=G.ex
 exact Hc F (hr.mono hj) hg m kp b .nil RX ha hdb he hpl
end
noncomputable def Def (K:PySem.W.Frag)(mg:Str->Option Value)(x:Str)(st:Stmt)(ps:List Str):Prop:=∃ f fd,Fun K x x st f fd/\GR K fd ps []/\mg x=some (.ref f)
theorem UH {P:Program}{w:World}{K:PySem.W.Frag}{mg:Str->Option Value}{base:Heap}{x:Str}{st:Stmt}{N ps:List Str}{k:Nat}{sp:Sp}(D:Def K mg x st ps)(S:FnScope N ps (Xf st))(len:∀vs H Q E,sp vs H Q E->vs.length=ps.length)
  (hbody:∀(f:Addr) (cdv:Value) (A:Around) (outer:List Env) (s:Shared) (H:Hp) (vs:List V) (Q:VK) (E:XK),Room k (A.deeper (envOfC x (Xf st) s.heap.objs.size f cdv))->sp vs H Q E->
   ∃t,PSs (Uj CX0 P w K mg base N x (Xf st) f cdv A outer s H E).nox (XR st) t/\t {nx:=λ_ H'=>Q .non H',rt:=Q} (VU N vs) H):Fn P w K mg base (k+1) x ps sp:=by
 obtain⟨f,fd,F,b,m⟩:=D
 exact⟨f,fd,F.ok S len (hbody f),b,F.kp,m⟩
theorem LH {a d c:Nat}(h:d<=8)(hu:a+8<c):a+d<c:=by omega
theorem Xv {H:Hp}{p:Addr}(h:H p=none)(o:HO):Xp H (upd H p o):=λb u q=>by rw[XF (XU q h)];exact q
theorem Xp.seqT {K:PySem.W.Frag}{H H':Hp}{a:Addr}{xs:List V}(e:Xp H H')(h:SqT K H a xs):SqT K H' a xs:=by
 rcases h with(h | ⟨o,h⟩) |h
 ·exact .inl (.inl (e _ _ h))
 ·exact .inl (.inr ⟨o,e _ _ h⟩)
 ·exact .inr h
theorem hu8 {A:Around}{k:Nat}(hr:Room k A):A.units+8<cLine:=Nat.lt_of_le_of_lt (Nat.add_le_add_left (by decide:8<=64) _) hr.units
noncomputable abbrev Enc (α:Type):=PySem.W.Frag->Hp->V->α->Prop
noncomputable def Xd:Enc Int:=λ_ _ v i=>v= .int i
noncomputable def rL {α:Type}(r:Enc α):Enc (List α):=λK H v as=>∃ a xs,v= .ref a/\SqL K H a xs/\Paired (r K H) xs as
noncomputable def rT2 {α β:Type}(r:Enc α)(q:Enc β):Enc (α×β):=λK H v p=>∃ a x y,v= .ref a/\SqT K H a [x,y]/\r K H x p.1/\q K H y p.2
theorem Paired.getL {α β:Type}{F:α->β->Prop}:∀{l:List α}{m:List β}{i:Nat}{a:α},Paired F l m->l[i]?=some a->∃b,m[i]?=some b/\F a b
 |_,_,_,_, .nil,e=>by simp at e
 |_,_,0,_, .cons r _,e=>by simp at e;subst e;exact⟨_,rfl,r⟩
 |_,_,i+1,a, .cons _ t,e=>by
  obtain⟨b,h1,h2⟩:=Paired.getL (i:=i) (a:=a) t (by simpa using e)
  exact⟨b,by simpa using h1,h2⟩
theorem Paired.getR {α β:Type}{F:α->β->Prop}:∀{l:List α}{m:List β}{i:Nat}{b:β},Paired F l m->m[i]?=some b->∃a,l[i]?=some a/\F a b
 |_,_,_,_, .nil,e=>by simp at e
 |_,_,0,_, .cons r _,e=>by simp at e;subst e;exact⟨_,rfl,r⟩
 |_,_,i+1,b, .cons _ t,e=>by
  obtain⟨a,h1,h2⟩:=Paired.getR (i:=i) (b:=b) t (by simpa using e)
  exact⟨a,by simpa using h1,h2⟩
theorem Paired.len {α β:Type}{F:α->β->Prop}{l:List α}{m:List β}(h:Paired F l m):l.length=m.length:=Paired.length h
theorem Paired.app {α β:Type}{F:α->β->Prop}:∀{l l':List α}{m m':List β},Paired F l m->Paired F l' m'->Paired F (l++l') (m++m'):=λp h=>by
 induction p with
 |nil=>exact h
 |cons r _ ih=>exact .cons r ih
theorem Dm (ns:List Int):∀{K:PySem.W.Frag}{H:Hp},Paired (Xd K H) (ns.map V.int) ns:=by
 intro K H
 induction ns with
 |nil=>exact .nil
 |cons n r ih=>exact .cons rfl ih
theorem QG:∀{xs:List V}{ns:List Int}{K:PySem.W.Frag}{H:Hp},Paired (Xd K H) xs ns->xs=ns.map V.int
 |_,_,_,_, .nil=>rfl
 |_,_,_,_, .cons r t=>by
  have r':_=V.int _:=r
  rw[r',QG t];rfl
structure EqOk {α:Type}[DecidableEq α](r:Enc α)(d:Nat):Prop where
 uniq:∀{X:Cx}{pins:List (Addr×Obj)}{σ:St}{H:Hp}{s:Shared}{x:V}{a b:α},Inv X pins σ H s->r X.K H x a->r X.K H x b->a=b
 eq:∀{X:Cx}{pins:List (Addr×Obj)}{σ:St}{H:Hp}{s:Shared}{x y:V}{v u:Value}{a b:α}{A:Around},Inv X pins σ H s->X9 x v->X9 y u->r X.K H x a->r X.K H y b->A.units+d<cLine->SeqAt.EqAt A s v u (decide (a=b))
 rc:∀{X:Cx}{pins:List (Addr×Obj)}{σ:St}{H:Hp}{s:Shared}{x y:V}{v u:Value}{a b:α}{A:Around},Inv X pins σ H s->X9 x v->X9 y u->r X.K H x a->r X.K H y b->A.units+d<cLine->SeqAt.RcAt A s v u (decide (a=b))
 ne:∀{X:Cx}{pins:List (Addr×Obj)}{σ:St}{H:Hp}{s:Shared}{x y:V}{v u:Value}{a b:α}{A:Around},Inv X pins σ H s->X9 x v->X9 y u->r X.K H x a->r X.K H y b->A.units+d<cLine->SeqAt.RcNeAt A s v u (!decide (a=b))
 keep:∀{K:PySem.W.Frag}{H H':Hp}{x:V}{a:α},Xp H H'->r K H x a->r K H' x a
theorem ZI (A:Around):A.in1.units=A.units+1:=rfl
theorem LD {a b:Int}:(a==b)=decide (a=b):=by rw[Bool.eq_iff_iff];simp
theorem eq_int:EqOk Xd 0 where
 uniq:=λ_ h1 h2=>by
  have h1':_=V.int _:=h1
  have h2':_=V.int _:=h2
  rw[h1'] at h2';injection h2'
 eq:=fun {X pins σ H s x y v u a b A} I rx ry h1 h2 _=>by
  have h1':x=V.int a:=h1
  have h2':y=V.int b:=h2
  subst h1' h2'
  obtain⟨t,rfl⟩:=rx
  obtain⟨t',rfl⟩:=ry
  rw[←LD];exact SeqAt.EqAt.int_int a t b t'
 rc:=fun {X pins σ H s x y v u a b A} I rx ry h1 h2 _=>by
  have h1':x=V.int a:=h1
  have h2':y=V.int b:=h2
  subst h1' h2'
  obtain⟨t,rfl⟩:=rx
  obtain⟨t',rfl⟩:=ry
  rw[←LD];exact SeqAt.RcAt.int_int a t b t'
 ne:=fun {X pins σ H s x y v u a b A} I rx ry h1 h2 _=>by
  have h1':x=V.int a:=h1
  have h2':y=V.int b:=h2
  subst h1' h2'
  obtain⟨t,rfl⟩:=rx
  obtain⟨t',rfl⟩:=ry
  rw[←LD];exact SeqAt.RcNeAt.int_int a t b t'
 keep:=λ_ h=>h
theorem B5 {α:Type}[DecidableEq α]{as bs:List α}(h:as.length=bs.length):(List.range as.length).all (λj=>decide (as[j]?=bs[j]?))=decide (as=bs):=by
 rw[Bool.eq_iff_iff]
 simp only[List.all_eq_true,List.mem_range,decide_eq_true_eq]
 constructor
 ·intro hh
  apply List.ext_getElem?
  intro i
  by_cases hi:i<as.length
  ·exact hh i hi
  ·rw[List.getElem?_eq_none (by omega),List.getElem?_eq_none (by omega)]
 ·rintro rfl;intros;rfl
theorem Paired.uniq {α β:Type}{F:α->β->Prop}(hu:∀a b c,F a b->F a c->b=c):∀{l:List α}{m m':List β},Paired F l m->Paired F l m'->m=m':=fun {l m m'} p=>by
 induction p generalizing m' with
 |nil=>intro q;cases q;rfl
 |cons r _ ih=>intro q;cases q with |cons r' t'=>rw[hu _ _ _ r r',ih t']
theorem Paired.imp2 {α β:Type}{F G:α->β->Prop}(h:∀a b,F a b->G a b):∀{l:List α}{m:List β},Paired F l m->Paired G l m:=λp=>by
 induction p with
 |nil=>exact .nil
 |cons r _ ih=>exact .cons (h _ _ r) ih
section
variable {α:Type}[DecidableEq α]{r:Enc α}{d:Nat}
theorem U7 (E:EqOk r d){X:Cx}{pins:List (Addr×Obj)}{σ:St}{H:Hp}{s:Shared}{A:Around}(I:Inv X pins σ H s)(hu:A.units+(d+1)<cLine){xs ys:List V}{as bs:List α}{its its2:List Value}
  (r1:X5 xs its)(r2:X5 ys its2)(p1:Paired (r X.K H) xs as)(p2:Paired (r X.K H) ys bs):
  ∀j (h1:j<its.toArray.size) (h2:j<its2.toArray.size),SeqAt.EqAt A.in1 s its.toArray[j] its2.toArray[j] (decide (as[j]?=bs[j]?)):=by
 intro j h1 h2
 have h1':j<its.length:=by simpa using h1
 have h2':j<its2.length:=by simpa using h2
 obtain⟨x,ex,rx⟩:=Paired.getR (i:=j) (b:=its[j]) r1 (by simp[h1'])
 obtain⟨y,ey,ry⟩:=Paired.getR (i:=j) (b:=its2[j]) r2 (by simp[h2'])
 obtain⟨a,ea,ra⟩:=Paired.getL p1 ex
 obtain⟨b,eb,rb⟩:=Paired.getL p2 ey
 have:=E.eq (A:=A.in1) I rx ry ra rb (by rw[ZI];omega)
 rw[ea,eb]
 simpa using this
theorem Hd (E:EqOk r d):EqOk (rL r) (d+1):=by
 have un:∀{X:Cx}{pins:List (Addr×Obj)}{σ:St}{H:Hp}{s:Shared}{x:V}{a b:List α},Inv X pins σ H s->rL r X.K H x a->rL r X.K H x b->a=b:=by
  intro X pins σ H s x as bs I h1 h2
  obtain⟨a,xs,rfl,q1,p1⟩:=h1
  obtain⟨b,ys,e,q2,p2⟩:=h2
  cases e
  cases I.list_inj q1 q2
  exact Paired.uniq (F:=r X.K H) (λ_ _ _ z z'=>E.uniq I z z') p1 p2
 have rc:∀{X:Cx}{pins:List (Addr×Obj)}{σ:St}{H:Hp}{s:Shared}{x y:V}{v u:Value}{a b:List α}{A:Around},Inv X pins σ H s->X9 x v->X9 y u->rL r X.K H x a->rL r X.K H y b->A.units+(d+1)<cLine->SeqAt.RcAt A s v u (decide (a=b)):=by
  intro X pins σ H s x y v u as bs A I rx ry h1 h2 hu
  obtain⟨a,xs,rfl,q1,p1⟩:=h1
  obtain⟨b,ys,rfl,q2,p2⟩:=h2
  cases rx;cases ry
  obtain⟨its,r1,l1,_⟩:=I.list q1
  obtain⟨its2,r2,l2,_⟩:=I.list q2
  have n1:=r1.length
  have n2:=r2.length
  have m1:=Paired.len p1
  have m2:=Paired.len p2
  by_cases hl:as.length=bs.length
  ·have:=SeqAt.RcAt.lists (A:=A) (e:=λj=>decide (as[j]?=bs[j]?)) l1.isList l2.isList (by simp only[List.size_toArray];omega) (by omega) (U7 E I hu r1 r2 p1 p2)
   rw[show its.toArray.size=as.length by simp only[List.size_toArray];omega,B5 hl] at this
   exact this
  ·rw[decide_eq_false (λe=>hl (congrArg List.length e))]
   exact SeqAt.RcAt.lists_lengths l1.isList l2.isList (by simp only[List.size_toArray,bne_iff_ne];omega) (by omega)
 refine⟨un,?_,rc,?_,?_⟩
 ·intro X pins σ H s x y v u as bs A I rx ry h1 h2 hu
  obtain⟨a,xs,rfl,q1,p1⟩:=id h1
  obtain⟨b,ys,rfl,q2,p2⟩:=id h2
  have R:=rc (A:=A) I rx ry h1 h2 hu
  cases rx;cases ry
  by_cases e:a=b
  ·subst e
   rw[decide_eq_true (un I h1 h2)]
   exact SeqAt.EqAt.same _
  ·exact SeqAt.EqAt.of_refs e R
 ·intro X pins σ H s x y v u as bs A I rx ry h1 h2 hu
  obtain⟨a,xs,rfl,q1,p1⟩:=h1
  obtain⟨b,ys,rfl,q2,p2⟩:=h2
  cases rx;cases ry
  obtain⟨its,r1,l1,_⟩:=I.list q1
  obtain⟨its2,r2,l2,_⟩:=I.list q2
  have n1:=r1.length
  have n2:=r2.length
  have m1:=Paired.len p1
  have m2:=Paired.len p2
  by_cases hl:as.length=bs.length
  ·have:=SeqAt.RcNeAt.lists (A:=A) (e:=λj=>decide (as[j]?=bs[j]?)) l1.isList l2.isList (by simp only[List.size_toArray];omega) (by omega) (U7 E I hu r1 r2 p1 p2)
   rw[show its.toArray.size=as.length by simp only[List.size_toArray];omega,B5 hl] at this
   exact this
  ·rw[decide_eq_false (λe=>hl (congrArg List.length e))]
   exact SeqAt.RcNeAt.lists_lengths l1.isList l2.isList (by simp only[List.size_toArray,bne_iff_ne];omega) (by omega)
 ·intro K H H' x as e h
  obtain⟨a,xs,rfl,q1,p1⟩:=h
  exact⟨a,xs,rfl,e.seq q1,Paired.imp2 (λ_ _ z=>E.keep e z) p1⟩
end
section
variable {α β:Type}[DecidableEq α][DecidableEq β]{r:Enc α}{q:Enc β}{d:Nat}
theorem CJ {a1 a2:α}{b1 b2:β}:(decide (a1=a2)&&decide (b1=b2))=decide ((a1,b1)=(a2,b2)):=by
 rw[Bool.eq_iff_iff];simp
theorem Oh (E:EqOk r d)(F:EqOk q d):EqOk (rT2 r q) (d+1):=by
 have un:∀{X:Cx}{pins:List (Addr×Obj)}{σ:St}{H:Hp}{s:Shared}{x:V}{a b:α×β},Inv X pins σ H s->rT2 r q X.K H x a->rT2 r q X.K H x b->a=b:=by
  rintro X pins σ H s x ⟨a1,a2⟩ ⟨b1,b2⟩ I h1 h2
  obtain⟨a,x1,x2,rfl,q1,p1,p2⟩:=h1
  obtain⟨b,y1,y2,e,q2,p3,p4⟩:=h2
  cases e
  cases I.tuple_inj q1 q2
  rw[show a1=b1 from E.uniq I p1 p3,show a2=b2 from F.uniq I p2 p4]
 have its:∀{X:Cx}{pins:List (Addr×Obj)}{σ:St}{H:Hp}{s:Shared}{x1 x2 y1 y2:V}{u1 u2 w1 w2:Value}{a b:α×β}{A:Around},Inv X pins σ H s->X9 x1 u1->X9 x2 u2->X9 y1 w1->X9 y2 w2->
   r X.K H x1 a.1->q X.K H x2 a.2->r X.K H y1 b.1->q X.K H y2 b.2->A.units+(d+1)<cLine->
   ∀j (h1:j< [u1,u2].toArray.size) (h2:j< [w1,w2].toArray.size),SeqAt.EqAt A.in1 s [u1,u2].toArray[j] [w1,w2].toArray[j] ((λj=>if j=0 then decide (a.1=b.1) else decide (a.2=b.2)) j):=by
  intro X pins σ H s x1 x2 y1 y2 u1 u2 w1 w2 a b A I e1 e2 e3 e4 p1 p2 p3 p4 hu j h1 h2
  have hj:j=0∨j=1:=by
   have h1':j<2:=h1
   omega
  rcases hj with rfl |rfl
  ·exact E.eq (A:=A.in1) I e1 e3 p1 p3 (by rw[ZI];omega)
  ·exact F.eq (A:=A.in1) I e2 e4 p2 p4 (by rw[ZI];omega)
 have rc:∀{X:Cx}{pins:List (Addr×Obj)}{σ:St}{H:Hp}{s:Shared}{x y:V}{v u:Value}{a b:α×β}{A:Around},Inv X pins σ H s->X9 x v->X9 y u->rT2 r q X.K H x a->rT2 r q X.K H y b->A.units+(d+1)<cLine->SeqAt.RcAt A s v u (decide (a=b)):=by
  rintro X pins σ H s x y v u ⟨a1,a2⟩ ⟨b1,b2⟩ A I rx ry h1 h2 hu
  obtain⟨a,x1,x2,rfl,q1,p1,p2⟩:=h1
  obtain⟨b,y1,y2,rfl,q2,p3,p4⟩:=h2
  cases rx;cases ry
  obtain⟨i1,r1,l1,_⟩:=I.tuple q1
  obtain⟨i2,r2,l2,_⟩:=I.tuple q2
  obtain⟨u1,u2,rfl,e1,e2⟩:=X5.two r1
  obtain⟨w1,w2,rfl,e3,e4⟩:=X5.two r2
  have:=SeqAt.RcAt.tuples (A:=A) l1 l2 (by omega) (its (a:=(a1,a2)) (b:=(b1,b2)) I e1 e2 e3 e4 p1 p2 p3 p4 hu)
  rw[←CJ]
  simpa[List.range_succ] using this
 refine⟨un,?_,rc,?_,?_⟩
 ·intro X pins σ H s x y v u as bs A I rx ry h1 h2 hu
  obtain⟨a,x1,x2,rfl,q1,p1,p2⟩:=id h1
  obtain⟨b,y1,y2,rfl,q2,p3,p4⟩:=id h2
  have R:=rc (A:=A) I rx ry h1 h2 hu
  cases rx;cases ry
  by_cases e:a=b
  ·subst e
   rw[decide_eq_true (un I h1 h2)]
   exact SeqAt.EqAt.same _
  ·exact SeqAt.EqAt.of_refs e R
 ·rintro X pins σ H s x y v u ⟨a1,a2⟩ ⟨b1,b2⟩ A I rx ry h1 h2 hu
  obtain⟨a,x1,x2,rfl,q1,p1,p2⟩:=h1
  obtain⟨b,y1,y2,rfl,q2,p3,p4⟩:=h2
  cases rx;cases ry
  obtain⟨i1,r1,l1,_⟩:=I.tuple q1
  obtain⟨i2,r2,l2,_⟩:=I.tuple q2
  obtain⟨u1,u2,rfl,e1,e2⟩:=X5.two r1
  obtain⟨w1,w2,rfl,e3,e4⟩:=X5.two r2
  have:=SeqAt.RcNeAt.tuples (A:=A) l1 l2 (by omega) (its (a:=(a1,a2)) (b:=(b1,b2)) I e1 e2 e3 e4 p1 p2 p3 p4 hu)
  rw[←CJ]
  simpa[List.range_succ] using this
 ·intro K H H' x as e h
  obtain⟨a,x1,x2,rfl,q1,p1,p2⟩:=h
  exact⟨a,x1,x2,rfl,e.seqT q1,E.keep e p1,F.keep e p2⟩
end
section
variable {X:Cx}{α:Type}[DecidableEq α]{r:Enc α}{d:Nat}
noncomputable def RK (K:PySem.W.Frag)(r:Enc α):R2:=λx y H Q=>∃ a b,r K H x a/\r K H y b/\Q (.bl (decide (a=b))) H
noncomputable def RI (K:PySem.W.Frag)(r:Enc α):R2:=λx y H Q=>∃ a b,r K H x a/\r K H y b/\Q (.bl (!decide (a=b))) H
theorem PL (E:EqOk r d)(hu:X.A.units+d<cLine):OpR X (compareOp .Eq) (RK X.K r):=by
 intro pins s σ H x y v u Q I rx ry h
 obtain⟨a,b,h1,h2,q⟩:=h
 exact E.rc (A:=X.A) I rx ry h1 h2 hu _ _ _ _ ⟨.bl _,H,I,rfl,q⟩
theorem PY (E:EqOk r d)(hu:X.A.units+d<cLine):OpR X (compareOp .NotEq) (RI X.K r):=by
 intro pins s σ H x y v u Q I rx ry h
 obtain⟨a,b,h1,h2,q⟩:=h
 exact E.ne (A:=X.A) I rx ry h1 h2 hu _ _ _ _ ⟨.bl _,H,I,rfl,q⟩
theorem Ks:OpR X (binaryOp .FloorDiv) (rI (λ_ j=>0<j/\j.natAbs.log2<9000) λi j=>.int (i/j)):=opI λi j _ _ _ _ _ hc q=>by
 refine floordiv_int (by omega) ?_ (.inl (PyProof.noPylong_of_log2 hc.2))
 rw[Int.fdiv_eq_ediv_of_nonneg i (by omega)]
 exact q
end
end L2
namespace PySem
open Sem (wp)
section
variable {prog:Program}{w:World}{A:Around}{E:Value->Shared->Prop}{s:Shared}
end
end PySem
namespace L2
open PySem PySem.Spec PyProof.Rows
theorem KR {α β:Type}{F:α->β->Prop}:∀{l:List α}{m:List β}{i:Nat}{b:β},Paired F l m->m[i]?=some b->∃a,l[i]?=some a/\F a b
 |_,_,_,_, .nil,e=>by simp at e
 |_,_,0,_, .cons r _,e=>by simp at e;subst e;exact⟨_,rfl,r⟩
 |_,_,i+1,b, .cons _ t,e=>by
  obtain⟨a,h1,h2⟩:=KR (i:=i) (b:=b) t (by simpa using e)
  exact⟨a,by simpa using h1,h2⟩
section
variable {X:Cx}{e:Expr}{te:TE}
noncomputable def SD (K:PySem.W.Frag)(te ts:TE):TE:=λσ H Q=>te σ H λx H1=>ts σ H1 λy H2=>y= .int (-1)/\∃a xs,x= .ref a/\SqL K H2 a xs/\∀p,H2 p=none->Q (.ref p) (upd H2 p (.lst xs.reverse))
theorem Hy {st:Expr}{ts:TE}{p2 pos:Pos}(K:PySem.W.Frag)(hK:X.K=K)(he:PE X e te)(hst:PE X st ts):PE X (.Subscript e (.Slice none none (some st) p2) pos) (SD K te ts):=by
 intro pins s σ H Q I h
 subst hK
 refine Subscript_ (thn (he pins s σ H _ I h) λv s1 r9=>?_)
 obtain⟨x,H1,I1,r1,q1⟩:=r9
 refine wpAny_Slice ?_
 rw[evalPart_none]
 refine wpAny_pure ?_
 refine wpAny_pure ?_
 rw[evalPart_some]
 refine thn (hst pins s1 σ H1 _ I1 q1) λvk s3 r9=>?_
 obtain⟨y,H3,I3,r3,ey,a,xs,ex,hx,q⟩:=r9
 subst ey ex
 cases r1
 obtain⟨t,rfl⟩:=r3
 have I4:Inv X pins σ H3 {s3 with heap:=s3.heap.push {cls:=.type "slice",data:=.fields #[.none, .none, .int (-1) t]}}:=I3.kept (t':=s3.toks) λb ob q=>Heap.get?_push_of_some _ q
 obtain⟨its,r,ht,hz⟩:=I4.list hx
 have hlen:=r.length
 have hg:wpAny (model X.prog X.w) X.A (getItem (.ref a) (.ref s3.heap.objs.size)) (EP X pins σ Q) X.xe {s3 with heap:=s3.heap.push {cls:=.type "slice",data:=.fields #[.none, .none, .int (-1) t]}}:=by
  refine wpAny_getItem_list_slice ht.isList (Heap.IsSliceOf.new ..) .none .none (.int (-1) t) (by decide) ?_ (by rw[List.size_toArray];omega)
  rw[PySem.W.krv_pick]
  refine⟨.ref _,_,I4.laid (t':=s3.toks) (o:=.lst xs.reverse) (λb ob q=>Heap.get?_push_of_some _ q) (Nat.le_refl _) ?_,rfl,q _ (I4.hok.fresh (Nat.le_refl _))⟩
  exact⟨by rw[List.length_reverse];exact hz,its.reverse,0,r.reverse,Heap.get?_push_size _ rfl⟩
 show wpAny (model X.prog X.w) X.A (subscriptTail e (.Slice none none (some st) p2) (.ref a) (.ref s3.heap.objs.size)) (EP X pins σ Q) X.xe _
 exact tail_any (ops:=[.ref a, .ref s3.heap.objs.size]) ht.isList.typeIs slot_list_getitem.lookup hg (by with_unfolding_all rfl)
noncomputable def Sz (K:PySem.W.Frag):List V->Hp->VK->Prop:=λxs H Q=>∃ (a:Addr) (ns:List Int),xs=[.ref a]/\SqL K H a (ns.map V.int)/\Q (.int ns.sum) H
theorem EM (hc:X.calm=true):Va X (.builtin "sum") (Sz X.K):=by
 intro pins s σ H xs us Q I r h
 obtain⟨a,ns,rfl,hq,q⟩:=h
 obtain⟨u,rfl,ru⟩:=Dj r
 cases ru
 obtain⟨its,rv,pl,hz⟩:=I.list hq
 have hi:IntsAre its ns:=Bx rv
 have hlen:=hi.length
 have hlt:a<s.heap.objs.size:=by obtain⟨o,n,ho,_⟩:=pl;exact Heap.lt_size ho
 refine call_sum_walkG ?_
 refine wpAny_pyIter_list pl.isList ?_
 have W:=Walks.list (prog:=X.prog) (w:=X.w) (A:=X.A.in1) (I.ok.hd hc) s.heap.objs.size a (Nat.ne_of_lt hlt) its.toArray
 refine⟨s.heap.objs.size,_,_,_,_,_,λi=>ns.getD i 0,rfl,W,⟨⟨_,Heap.get?_push_size _ rfl,rfl,rfl⟩,pl.isList.at λo e=>Heap.get?_push_of_some _ e⟩,λb hb=>?_,λi v hv=>?_,λh' tk t' hk=>?_⟩
 ·rcases List.mem_cons.mp hb with e |hb
  ·rw[e,Heap.size_push];exact Nat.lt_succ_self _
  ·rw[List.mem_singleton.mp hb,Heap.size_push];exact Nat.lt_succ_of_lt hlt
 ·have hv':its[i]?=some v:=by simpa using hv
  have hil:i<its.length:=(List.getElem?_eq_some_iff.mp hv').1
  obtain⟨x,ex,rx⟩:=KR rv hv'
  rw[List.getElem?_map] at ex
  cases e:ns[i]? with
  |none=>rw[e] at ex;cases ex
  |some z=>
   rw[e] at ex
   have ex':V.int z=x:=Option.some.inj ex
   subst ex'
   obtain⟨t,rfl⟩:=rx
   exact⟨t,by simp[List.getD,e]⟩
 ·have I2:Inv X pins σ H {s with heap:=h',toks:=tk}:=I.kept (t':=tk) λb o e=>hk b o (λhm=>by
   rw[List.mem_singleton.mp hm] at e
   exact absurd (Heap.lt_size e) (Nat.lt_irrefl _)) (Heap.get?_push_of_some _ e)
  refine⟨.int ns.sum,H,I2,⟨t',?_⟩,q⟩
  rw[List.size_toArray,hlen,preSum_getD,List.take_length]
end
section
variable {X:Cx}{pins:List (Addr×Obj)}{σ:St}{H:Hp}{s:Shared}{h':Heap}
theorem Inv.turnLay {t':Nat}{ch:List Addr}{T:Addr}{u:HO}(I:Inv X pins σ H s)(k:∀b o,b∉ch->s.heap.get? b=some o->h'.get? b=some o)(hf:∀b∈ch,Fj X pins H b)
  (hp:s.heap.objs.size<=T)(new:ZA X.prog X.w (upd H T u) h' T u):Inv X pins σ (upd H T u) {s with heap:=h',toks:=t'}:=by
 have hn:H T=none:=I.hok.fresh hp
 have nit:∀b o,H b=some o->b∉ch:=λb o e z=>by rw[(hf b z).1] at e;cases e
 refine I.step (g':=s.gens) (d':=s.drawn) (ch:=ch) (λb hb=>?_) (λb o _ _ hc e _=>k b o hc e) (λb o _ _ hc e _=>⟨o.slots,k b o hc e⟩)
  (λb o _ e n=>by rw[XF (Nat.ne_of_lt (Nat.lt_of_lt_of_le (Heap.lt_size e) hp))];exact n)
  (λb o hc e=>⟨o,k b o hc e⟩) (λb xs e=>by rw[XF (XU e hn)];exact e) (λb o xs e=>by rw[XF (XU e hn)];exact e) (λb ps e=>⟨#[],by rw[XF (XU e hn),e];simp⟩) (λm hm=>?_) (λb v e=>?_) I.bare
 ·obtain⟨f0,f1,f2,f3,f4,f5⟩:=hf b hb
  exact⟨f3,f1,f4,f5⟩
 ·obtain⟨o,es,ep,ho,r⟩:=hm
  exact⟨o,es,ep,k _ o (λz=>(hf _ z).2.1 rfl) ho,r⟩
 ·by_cases hb:b=T
  ·subst hb;rw[Yk] at e;cases e;exact new
  ·rw[XF hb] at e
   refine(I.hok b v e).stay (λc o hc q=>k c o ?_ q) (λc q=>by rw[XF (XU q hn)];exact q) λc xs q=>by rw[XF (XU q hn)];exact q
   rcases hc with z |z
   ·rw[z];exact nit b v e
   ·exact nit c _ z
end
noncomputable def Ite (K:PySem.W.Frag)(a:Addr):It:=
 ⟨λi H=>∃ xs x,SqL K H a xs/\xs[i]?=some x,λi H y H'=>∃ p x,y= .ref p/\H p=none/\H'=upd H p (.tup [.int (i:Int),x])/\∀xs,SqL K H a xs->xs[i]?=some x,λi H=>∃ xs,SqL K H a xs/\xs.length<=i⟩
theorem E4 {P:Program}{w:World}{K:PySem.W.Frag}{elts:List Expr}{k:Nat}{pos:Pos}(a e it:Addr)(h1:e≠it)(h2:a≠e)(h3:a≠it):
  Turn P w K (.Tuple elts k pos) (Ite K a) [e,it] e (λi h=>(∃old,IsEnum h e it (i:Int) old)/\h.IsListIter it a i) where
 mem:=by simp
 obj:=λi h st b hb=>by
  obtain⟨⟨old,eo⟩,o,io,c,d⟩:=st
  rcases List.mem_cons.mp hb with z |z
  ·subst z
   exact⟨_,eo,λv z=>by cases z⟩
  ·have z:=List.mem_singleton.mp z
   subst z
   exact⟨o,io,λv z=>by rw[d] at z;cases z⟩
 keep:=λi h h' st k=>⟨let ⟨old,eo⟩:=st.1;⟨old,k e (by simp) _ eo⟩,st.2.at λo q=>k it (by simp) o q⟩
 item:=by
  intro X hP hw hK hc i pins s σ H E I hf st hg
  subst hP hw hK
  obtain⟨xs,x,hq,hx⟩:=hg
  obtain⟨its,rv,p,hz⟩:=I.list hq
  obtain⟨u,hu,ru⟩:=rv.get hx
  obtain⟨⟨old,eo⟩,io⟩:=id st
  have hu':its.toArray[i]?=some u:=by simpa using hu
  have W:=WalksT.enumerate (prog:=X.prog) (w:=X.w) (A:=X.A) (I.ok.hd hc) e it a h1 h2 h3 its.toArray
  refine wpAny_pyNext_enum_item eo io p.isList hu' h1 λh' eo' io' tup sz kk=>?_
  have hT:∀b o,s.heap.get? b=some o->s.heap.objs.size≠b:=λb o q z=>absurd (Heap.lt_size q) (by rw[←z];exact Nat.lt_irrefl _)
  have hTe:=hT e _ eo
  have hTi:s.heap.objs.size≠it:=by obtain⟨o,q,_⟩:=io;exact hT it o q
  have ha':h'.IsList a its.toArray:=p.isList.at λo q=>kk a o h2 h3 q
  refine⟨_,rfl,W.go elts k pos i s.heap.objs.size _ _ _ ⟨⟨_,eo'⟩,io',ha',hTe,hTi⟩ λh'' st' kk'=>?_⟩
  obtain⟨st2,io2,_⟩:=st'
  have tup2:=kk' _ _ (by simp[hTe,hTi]) tup
  have k2:∀b o,b∉ [e,it]->s.heap.get? b=some o->h''.get? b=some o:=λb o q1 q=>kk' b o q1 (kk b o (λz=>q1 (by simp[z])) (λz=>q1 (by simp[z])) q)
  refine⟨.ref s.heap.objs.size,upd H s.heap.objs.size (.tup [.int (i:Int),x]),I.turnLay (h':=h'') (t':=s.toks+1) k2 hf (Nat.le_refl _) ⟨by show 2<=sizeLine;decide,[.int (i:Int) s.toks,u], .cons ⟨_,rfl⟩ (.cons ru .nil),⟨_,tup2,⟨rfl,rfl⟩,_,rfl⟩⟩,rfl,
   ⟨_,x,rfl,I.hok.fresh (Nat.le_refl _),rfl,λys hy=>by rw[I.list_inj hy hq];exact hx⟩,⟨by simpa using st2,io2⟩,λb hb=>?_⟩
  rcases List.mem_cons.mp hb with z |z
  ·rw[z,XF hTe.symm];exact(hf e (by simp)).1
  ·rw[List.mem_singleton.mp z,XF hTi.symm];exact(hf it (by simp)).1
 done:=by
  intro X hP hw hK hc i pins s σ H E I hf st hg
  subst hP hw hK
  obtain⟨xs,hq,hx⟩:=hg
  obtain⟨its,rv,p,hz⟩:=I.list hq
  obtain⟨⟨old,eo⟩,io⟩:=id st
  obtain⟨f0,f1,f2,f3,f4,f5⟩:=hf it (by simp)
  have hl:=rv.length
  exact wpAny_pyNext_enum_end (I.ok.hd hc) eo io p.isList (by simp;omega) λh' eb=>⟨rfl,I.turned (t':=s.toks) (λb o hb q=>eb b o hb q) f0 f1 f3 f4 f5⟩
 self:=by
  intro A i s Q E st h
  obtain⟨⟨old,eo⟩,io⟩:=st
  exact wpAny_pyIter_enum eo h
section
variable {X:Cx}{elts:List Expr}{k:Nat}{pos0:Pos}
noncomputable def Rp (K:PySem.W.Frag)(tl:TE):TI:=λσ H R=>tl σ H λx H1=>∃ a,x= .ref a/\(∃xs,SqL K H1 a xs)/\R (Ite K a) H1
theorem UP {l:Expr}{tl:TE}{p pos:Pos}(hg:Gl X "enumerate")(hm:X.mg "enumerate" =none)(hl:PE X l tl)(hs:starEach [l] X.env=[(false,eval l X.env)]:=by rfl):
  PI X (.Tuple elts k pos0) (.Call (.Name "enumerate" p) [l] [] pos) (Rp X.K tl):=by
 intro pins s σ H R I h
 refine wpAny_Call_Name_kw (Kg I hg hm boot_enumerate ?_)
 refine PyProof.Rows.callWith_type1 ?_ hs rfl
 rw[hs]
 show wpAny _ _ (spliced ((false,eval l X.env)::backTo pos [])) _ _ s
 refine Calls.spliced_cons (thn (hl pins s σ H _ I h) λv s1 ⟨x,H1,I1,r1,a,ex,⟨xs,hq⟩,q⟩=>?_)
 subst ex
 cases r1
 obtain⟨its,rv,pl,hz⟩:=I1.list hq
 refine Calls.spliced_nil ?_
 have hlt:a<s1.heap.objs.size:=by obtain⟨o,n,ho,_⟩:=pl;exact Heap.lt_size ho
 refine call_enumerate_list pl.isList λh' en io sz kk=>?_
 refine wpAny_pyIter_enum en ?_
 refine⟨_,[s1.heap.objs.size+1,s1.heap.objs.size],_,_,H1,rfl,I1.kept (t':=s1.toks) kk,E4 a _ _ (Nat.ne_of_gt (Nat.lt_succ_self _)) (Nat.ne_of_lt (Nat.lt_succ_of_lt hlt)) (Nat.ne_of_lt hlt),⟨⟨_,en⟩,io⟩,λb hb=>?_,q⟩
 have hb':s1.heap.objs.size<=b:=by
  rcases List.mem_cons.mp hb with z |z
  ·rw[z];exact Nat.le_succ _
  ·rw[List.mem_singleton.mp z];exact Nat.le_refl _
 exact I1.fpOk hb' (I1.hok.fresh hb')
end
noncomputable def Ht (K:PySem.W.Frag):V->List V->Hp->VK->Prop:=λx vs H Q=>∃ l xs y,∃j:Nat,x= .ref l/\vs=[y]/\SqL K H l xs/\J9 y=true/\xs.all J9=true/\(∃z,xs[j]?=some z/\eqV z y=true)/\(∀(m:Nat) z,m<j->xs[m]?=some z->eqV z y=false)/\Q (.int (j:Int)) H
section
variable {X:Cx}
theorem IN:MtR X "list.index" (Ht X.K):=by
 intro pins s σ H x vs v us Q I rx rv h
 obtain⟨l,xs,y,j,rfl,rfl,hq,fy,fs,⟨z,hz,ez⟩,hm,q⟩:=h
 cases rx
 obtain⟨u,rfl,ry⟩:=X5.one rv
 obtain⟨its,r,pl,hle⟩:=I.list hq
 have hl:=r.length
 have hjl:=(List.getElem?_eq_some_iff.mp hz).1
 have ge:∀(m:Nat) (w:V),xs[m]?=some w->∀hm:m<its.toArray.size,eqU y its.toArray[m]=eqV w y:=λm w hw hm=>by
  obtain⟨u',hu',ru'⟩:=r.get hw
  have e:its.toArray[m]=u':=by
   have:=(List.getElem?_eq_some_iff.mp hu').2
   simpa using this
  rw[e]
  exact DI ru' (List.all_eq_true.mp fs w (List.mem_of_getElem? hw))
 obtain⟨o,n,ho,hc,hd,hs⟩:=id pl
 obtain⟨cls,dict,data,slots⟩:=o
 cases hc;cases hd;cases hs
 refine call_meets F.slot_list_index ⟨_,ho,rfl⟩ F.entry_list_index (F.args_list_index_2 _ _) (SeqAt.list_indexAt l its.toArray n none slots u (eqU y) j (by rw[List.size_toArray];omega) ?_ ?_ ?_) ⟨ho,λw hw=>Qu ry fy r fs w (by simpa using hw),?_⟩
 ·have:sizeLine<2^63-1:=by decide
  omega
 ·rw[ge j z hz];exact ez
 ·intro m hm' hlt
  rw[ge m xs[m] (List.getElem?_eq_getElem (by omega))]
  exact hm m _ hlt (List.getElem?_eq_getElem (by omega))
 ·exact⟨.int (j:Int),H,I.tok _,⟨_,rfl⟩,q⟩
end
section
variable {α:Type}[DecidableEq α]{r:Enc α}{d:Nat}
end
section
variable {X:Cx}{o e f:Expr}{td ty tx:TE}{apos cpos:Pos}
end
theorem Y5:∀(names:List (Str×NameKind)) (n:Nat) (acc:List (Str×Addr)) {x:Str},(x,NameKind.cell)∉names->(cellsFrom n names acc).lookup x=acc.lookup x
 | [],_,_,_,_=>rfl
 | (y,k)::r,n,acc,x,h=>by
  have hr:(x,NameKind.cell)∉r:=λz=>h (List.mem_cons_of_mem _ z)
  unfold cellsFrom
  split
  ·rename_i hk
   have hk':k=NameKind.cell:=by simpa using hk
   rw[Y5 r _ _ hr,List.lookup_cons]
   have:(x==y)=false:=beq_eq_false_iff_ne.mpr λe=>h (by rw[e,hk'];exact List.mem_cons_self)
   rw[this]
  ·exact Y5 r _ _ hr
theorem QN:∀(names:List (Str×NameKind)) (n:Nat) (acc:List (Str×Addr)) {x:Str}{c:Addr},(x,NameKind.cell)∈names->(cellsFrom n names acc).lookup x=some c->n<=c
 | [],_,_,_,_,h,_=>nomatch h
 | (y,k)::r,n,acc,x,c,h,e=>by
  unfold cellsFrom at e
  split at e
  ·by_cases hr:(x,NameKind.cell)∈r
   ·exact Nat.le_of_succ_le (QN r _ _ hr e)
   ·rw[Y5 r _ _ hr,List.lookup_cons] at e
    rcases List.mem_cons.mp h with h |h
    ·have hx:x=y:=congrArg Prod.fst h
     rw[hx,beq_self_eq_true] at e
     exact Nat.le_of_eq (Option.some.inj e)
    ·exact absurd h hr
  ·rename_i hk
   rcases List.mem_cons.mp h with h |h
   ·exact absurd (by simpa using (congrArg Prod.snd h).symm) hk
   ·exact QN r _ _ h e
theorem QF:∀(names:List (Str×NameKind)) (n:Nat) (acc:List (Str×Addr)) {x:Str},((x,NameKind.cell)∈names∨∃c,acc.lookup x=some c)->∃c,(cellsFrom n names acc).lookup x=some c
 | [],_,_,_,h=>h.elim (λz=>nomatch z) id
 | (y,k)::r,n,acc,x,h=>by
  unfold cellsFrom
  split
  ·refine QF r _ _ ?_
   by_cases hx:x=y
   ·subst hx;exact .inr ⟨n,by rw[List.lookup_cons];simp⟩
   ·rcases h with h | ⟨c,h⟩
    ·rcases List.mem_cons.mp h with h |h
     ·exact absurd (congrArg Prod.fst h) hx
     ·exact .inl h
    ·exact .inr ⟨c,by rw[List.lookup_cons,beq_eq_false_iff_ne.mpr hx];exact h⟩
  ·rename_i hk
   refine QF r _ _ ?_
   rcases h with h |h
   ·rcases List.mem_cons.mp h with h |h
    ·exact absurd (by simpa using (congrArg Prod.snd h).symm) hk
    ·exact .inl h
   ·exact .inr h
theorem QE:∀(names:List (Str×NameKind)) (n:Nat) (acc:List (Str×Addr)),(∀x y c,acc.lookup x=some c->acc.lookup y=some c->x=y)->(∀x c,acc.lookup x=some c->c<n)->
  ∀x y c,(cellsFrom n names acc).lookup x=some c->(cellsFrom n names acc).lookup y=some c->x=y
 | [],_,_,h,_=>h
 | (z,k)::r,n,acc,h,hl=>by
  unfold cellsFrom
  split
  ·refine QE r (n+1) _ (λx y c h1 h2=>?_) λx c h1=>?_
   ·rw[List.lookup_cons] at h1 h2
    cases hx:x==z<;> cases hy:y==z<;> rw[hx] at h1<;> rw[hy] at h2<;> simp only at h1 h2
    ·exact h x y c h1 h2
    ·cases h2;exact absurd (hl x n h1) (Nat.lt_irrefl _)
    ·cases h1;exact absurd (hl y n h2) (Nat.lt_irrefl _)
    ·rw[beq_iff_eq.mp hx,beq_iff_eq.mp hy]
   ·rw[List.lookup_cons] at h1
    cases hx:x==z<;> rw[hx] at h1<;> simp only at h1
    ·exact Nat.lt_succ_of_lt (hl x c h1)
    ·cases h1;exact Nat.lt_succ_self _
  ·exact QE r n acc h hl
theorem Z3:∀(names:List (Str×NameKind)) (h:Heap) (acc:List (Str×Addr)) {x:Str}{c:Addr},(cellsFrom h.objs.size names acc).lookup x=some c->acc.lookup x=some c∨((pushCells h names).IsCell c none/\h.objs.size<=c)
 | [],_,_,_,_,e=>.inl e
 | (z,k)::r,h,acc,x,c,e=>by
  unfold cellsFrom at e
  unfold pushCells
  split at e
  ·rename_i hk
   rw[if_pos hk]
   have e':(cellsFrom (h.push {cls:=.type "cell",data:=.cell none}).objs.size r ((z,h.objs.size)::acc)).lookup x=some c:=by rw[Heap.size_push];exact e
   rcases Z3 r _ _ e' with q | ⟨q1,q2⟩
   ·rw[List.lookup_cons] at q
    cases hx:x==z<;> rw[hx] at q<;> simp only at q
    ·exact .inl q
    ·cases q
     exact .inr ⟨⟨_,pushCells_keeps _ _ _ _ (Heap.get?_push_size _ rfl),rfl⟩,Nat.le_refl _⟩
   ·exact .inr ⟨q1,by rw[Heap.size_push] at q2;omega⟩
  ·rename_i hk
   rw[if_neg hk]
   exact Z3 r h acc e
theorem U0:∀{l:List (Str×NameKind)}{x:Str}{j k:NameKind},(l.map (·.1)).Nodup->(x,j)∈l->(x,k)∈l->j≠k->False
 | [],_,_,_,_,h,_,_=>nomatch h
 | (y,i)::r,x,j,k,hn,h1,h2,ne=>by
  rw[List.map_cons,List.nodup_cons] at hn
  rcases List.mem_cons.mp h1 with h1 |h1<;> rcases List.mem_cons.mp h2 with h2 |h2
  ·cases h1;cases h2;exact ne rfl
  ·cases h1;exact hn.1 (List.mem_map.mpr ⟨_,h2,rfl⟩)
  ·cases h2;exact hn.1 (List.mem_map.mpr ⟨_,h1,rfl⟩)
  ·exact U0 hn.2 h1 h2 ne
theorem QY {env:Env}:∀{names:List (Str×NameKind)}{x:Str}{k:NameKind},
  (names.map λ(n,k)=>if(k==NameKind.free&&env.scope.kind== .function&&env.kindOf n==some .cell) then(n,NameKind.cell) else(n,k)).lookup x=some k->(k= .cell∨k= .free)->(x,NameKind.free)∈names∨(x,NameKind.cell)∈names
 | [],_,_,h,_=>by simp at h
 | (n,kk)::r,x,k,h,hk=>by
  have ih:=@QY env r x k
  simp only[List.map_cons] at h
  have up:((x,NameKind.free)∈r∨(x,NameKind.cell)∈r)->((x,NameKind.free)∈(n,kk)::r∨(x,NameKind.cell)∈(n,kk)::r):=λz=>z.elim (λz=>.inl (List.mem_cons_of_mem _ z)) λz=>.inr (List.mem_cons_of_mem _ z)
  by_cases hcond:(kk==NameKind.free&&env.scope.kind== .function&&env.kindOf n==some .cell)=true
  ·rw[if_pos hcond,List.lookup_cons] at h
   have hfree:kk=NameKind.free:=by
    rw[Bool.and_eq_true,Bool.and_eq_true] at hcond
    simpa using hcond.1.1
   cases hx:x==n with
   |true=>
    have:x=n:=by simpa using hx
    subst this;subst hfree
    exact .inl List.mem_cons_self
   |false=>rw[hx] at h;exact up (ih h hk)
  ·rw[if_neg hcond,List.lookup_cons] at h
   cases hx:x==n with
   |true=>
    rw[hx] at h
    have hkk:kk=k:=Option.some.inj h
    have:x=n:=by simpa using hx
    subst this;subst hkk
    rcases hk with z |z
    ·subst z;exact .inr List.mem_cons_self
    ·subst z;exact .inl List.mem_cons_self
   |false=>rw[hx] at h;exact up (ih h hk)
theorem BB {M:Model}{A:Around}{E:Value->Shared->Prop}{s:Shared}{scope:Scope}{globals:Addr}{cl:List (Str×Addr)}{qual:Str}{outer:Env}{Q:Env->Shared->Prop}
  (hQ:∀h',h'.Ns s.heap.objs.size (λ_=>none)->(∀b o,s.heap.get? b=some o->h'.get? b=some o)->
   (∀x c,(cellsFrom (s.heap.objs.size+1) scope.names cl).lookup x=some c->cl.lookup x=some c∨(h'.IsCell c none/\s.heap.objs.size+1<=c))->
   Q (newEnv scope s.heap.objs.size globals (cellsFrom (s.heap.objs.size+1) scope.names cl) qual none .none (some outer) builtinsNs) {s with heap:=h'}):
  wpAny M A (newFunctionEnv scope globals cl [] qual none .none (some outer)) Q E s:=by
 simp only[newFunctionEnv,Option.isSome_some,if_true]
 refine wpAny_bind (wpAny_alloc ?_)
 refine wpAny_bind (wpAny_layCells _ (λname kind cells=>by cases hkc:kind==NameKind.cell<;> simp[hkc]) _ _ _ _ ?_)
 rw[show({s with heap:=s.heap.push {cls:=.type "dict",data:=.dict #[]}}:Shared).heap.objs.size=s.heap.objs.size+1 from Heap.size_push ..]
 rw[List.forIn_nil]
 refine wpAny_bind (wpAny_pure (wpAny_pure (hQ _ ((Heap.Ns.new s.heap (.type "dict")).keeps (pushCells_keeps _ _)) (λb o e=>pushCells_keeps _ _ b o (Heap.get?_push_of_some _ e)) λx c e=>?_)))
 have e':(cellsFrom (s.heap.push {cls:=.type "dict",data:=.dict #[]}).objs.size scope.names cl).lookup x=some c:=by rw[Heap.size_push];exact e
 rcases Z3 scope.names _ cl e' with q | ⟨q1,q2⟩
 ·exact .inl q
 ·exact .inr ⟨q1,by rw[Heap.size_push] at q2;exact q2⟩
noncomputable def Uf (sc scope:Scope)(N0 tns:List Str)(caps:List (Nat×Str)):Bool:=
 scope.kind== .function&&decide (scope.names.map (·.1)).Nodup&&scope.names.all (λy=>!(y.2== .local) || scope.names.lookup y.1==some .local)&&
 scope.names.all (λy=>!(y.2== .free) || (sc.names.lookup y.1==some .cell || sc.names.lookup y.1==some .free))&&caps.all (λp=>N0[p.1]?==some p.2&&(sc.names.lookup p.2==some .cell || sc.names.lookup p.2==some .free)&&scope.names.lookup p.2==some .free)
noncomputable abbrev Cx.compN (X:Cx)(N:List Str)(scope:Scope)(cl:List (Str×Addr))(C:Addr)(s:Shared)(H:Hp)(ex:List Addr)(E:Value->Shared->Prop):Cx:=
 {X.comp N scope cl C s H ex E with fn:=λx=>scope.names.lookup x==some .cell}
noncomputable def OZ (scope sc:Scope):Scope:=
 {scope with names:=scope.names.map λ(n,k)=>if(k== .free&&sc.kind== .function&&sc.names.lookup n==some .cell) then(n, .cell) else(n,k)}
section
variable {X:Cx}{elt tg iter:Expr}{ifs:List Expr}{scope sc:Scope}{pos:Pos}{n:Nat}{tns:List Str}{caps:List (Nat×Str)}{wi:TI}{g:TG}{tt:TT}{te:TE}
theorem Do {N0:List Str}(hc:X.calm=true)(hsc:X.env.scope=sc)(hN0:X.N=N0)(ok:Uf sc scope N0 tns caps=true)(hn:tns.length=n)(hG:Vj n g)
  (hb:∀cl C s H ex E,PG (X.compN (tns++caps.map (·.2)) scope cl C s H ex E) tg g/\PTs (X.compN (tns++caps.map (·.2)) scope cl C s H ex E) ifs tt/\PE (X.compN (tns++caps.map (·.2)) scope cl C s H ex E) elt te)
  {pins:List (Addr×Obj)}{σ:St}{H:Hp}{s:Shared}{J:It}{fp:List Addr}{it:Addr}{tn:Nat->Heap->Prop}{cl:List (Str×Addr)}{Q:V->Hp->Prop}{RR:Value->Addr->Result->Shared->Prop}
  (I:Inv X pins σ H s)(T:Turn X.prog X.w X.K tg J fp it tn)(t0:tn 0 s.heap)(hf:∀b∈fp,Fj X pins H b)
  (hsub:∀x c,cl.lookup x=some c->X.env.cells.lookup x=some c)(hall:∀x,(x,NameKind.free)∈scope.names->∃c,cl.lookup x=some c)
  (W:Nat->Nat->List V->Hp->Prop){m0:Nat}(w0:W 0 m0 [] H)
  (turn:IP g tt te (Yb n caps σ) Q J W)
  (hRR:∀D C ys H3 s',CompEnd X pins σ H3 D C ys s'->Q (.ref D) (upd H3 D (.lst ys))->RR (.ref D) C (.ok .next) s'){E:Value->Shared->Prop}:
  wpAny (model X.prog X.w) X.A (newList []) (λacc s₃=>wpAny (model X.prog X.w) X.A (newFunctionEnv scope X.env.globals cl [] X.env.qual none .none (some X.env)) (λcenv s₄=>
   codeAny (model X.prog X.w) X.A (.compStart (.ListComp elt [⟨tg,iter,ifs,0⟩] scope pos) 0 (.ref it) acc {cenv with scope:=relabel scope X.env}) (RR acc cenv.locals) s₄) E s₃) E s:=by
 subst hsc
 subst hN0
 unfold Uf at ok
 simp only[Bool.and_eq_true,List.all_eq_true] at ok
 obtain⟨⟨⟨⟨ok1,ok2⟩,ok3⟩,ok4⟩,ok5⟩:=ok
 have hkind:scope.kind= .function:=by simpa using ok1
 have hnd:(scope.names.map (·.1)).Nodup:=by simpa using ok2
 refine wpAny_newObj_type (BB (λh₁ hns₁ hsb₁ hc₁=>?_))
 dsimp only at hns₁ hsb₁ hc₁⊢
 generalize hH2:s.heap.push {cls:=.type "list",dict:=none,data:=.seq ([]:List Value).toArray}=H2 at hns₁ hsb₁ hc₁⊢
 have hC:H2.objs.size=s.heap.objs.size+1:=by rw[←hH2,Heap.size_push]
 have hDC:s.heap.objs.size≠H2.objs.size:=by rw[hC];exact Nat.ne_of_lt (Nat.lt_succ_self _)
 have hCle:s.heap.objs.size<=H2.objs.size:=by rw[hC];exact Nat.le_succ _
 have below:∀b,b<s.heap.objs.size->b≠H2.objs.size/\b≠s.heap.objs.size:=λb hb=>⟨by rw[hC];exact Nat.ne_of_lt (Nat.lt_succ_of_lt hb),Nat.ne_of_lt hb⟩
 have old:∀b o,s.heap.get? b=some o->h₁.get? b=some o:=λb o e=>hsb₁ b o (hH2▸Heap.get?_push_of_some _ e)
 have hacc:h₁.get? s.heap.objs.size=some {cls:=.type "list",data:=.seq ([]:List Value).toArray 0}:=hsb₁ _ _ (hH2▸Heap.get?_push_size _ rfl)
 have hst₁:tn 0 h₁:=T.keep _ _ _ t0 λb _ o e=>old b o e
 have cf2:∀x,(x,NameKind.free)∈scope.names->∃c,(cellsFrom (H2.objs.size+1) scope.names cl).lookup x=some c/\cl.lookup x=some c:=λx hx=>by
  obtain⟨c,hc⟩:=hall x hx
  exact⟨c,by rw[Y5 scope.names _ _ (λhm=>U0 hnd hx hm (by decide))];exact hc,hc⟩
 have cf3:∀x,(x,NameKind.cell)∈scope.names->∃c,(cellsFrom (H2.objs.size+1) scope.names cl).lookup x=some c:=λx hx=>QF scope.names _ _ (.inl hx)
 have cf4:∀x y c,(cellsFrom (H2.objs.size+1) scope.names cl).lookup x=some c->(cellsFrom (H2.objs.size+1) scope.names cl).lookup y=some c->x=y:=
  QE scope.names _ _ (λx y c h1 h2=>I.ok.inj x y c (hsub x c h1) (hsub y c h2)) (λx c e=>by
   obtain⟨v,z⟩:=I.cell x c (hsub x c e)
   exact Nat.lt_of_lt_of_le z.lt (by rw[hC];omega))
 have cf5:∀x c,scope.names.lookup x=some NameKind.cell->(cellsFrom (H2.objs.size+1) scope.names cl).lookup x=some c->H2.objs.size+1<=c:=λx c hx e=>QN scope.names _ _ (PySem.mem_of_lookup hx) e
 generalize hcl:cellsFrom (H2.objs.size+1) scope.names cl=cl' at*
 -- addresses
 generalize hD:s.heap.objs.size=D at*
 generalize hCe:H2.objs.size=C at*
 have fpLt:∀b∈fp,b<D:=λb hb=>by
  obtain⟨o,e,_⟩:=T.obj _ _ t0 b hb
  rw[←hD];exact Heap.lt_size e
 have hDlt:D<C:=by omega
 have cellNe:∀x c,cl'.lookup x=some c->c≠D:=λx c e=>by
  rcases hc₁ x c e with q | ⟨_,q⟩
  ·obtain⟨v,z⟩:=I.cell x c (hsub x c q)
   rw[←hD];exact Nat.ne_of_lt z.lt
  ·exact Nat.ne_of_gt (Nat.lt_trans hDlt (Nat.lt_of_succ_le q))
 have fpNe:∀b∈fp,∀x c,cl'.lookup x=some c->c≠b:=λb hb x c e=>by
  rcases hc₁ x c e with q | ⟨_,q⟩
  ·exact(hf b hb).2.2.2.2.1 x c (hsub x c q)
  ·exact Nat.ne_of_gt (Nat.lt_trans (fpLt b hb) (Nat.lt_trans hDlt (Nat.lt_of_succ_le q)))
 let X':Cx:=X.compN (tns++caps.map (·.2)) scope cl' C s H fp (notedBy (model X.prog X.w) X.A (compEnvC scope cl' C X.env) λe s'=>RR (.ref D) C (.error e) s')
 have okX:X'.Ok:=by
  refine⟨I.ok.mod,hkind,I.ok.glob,I.ok.blt,by show s.heap.objs.size<=C;omega,cf4,λx hx=>?_,λx c hx hcx=>(by show s.heap.objs.size<=c;have:=cf5 x c (by have hx2:(scope.names.lookup x==some NameKind.cell)=true:=hx;simpa using hx2) hcx;omega),I.ok.hd,I.ok.frames, .inl rfl,λb hb=>?_,I.bs,Nat.le_trans I.ok.bsz I.sz,λb o e hb=>?_,λb hb hz=>?_,I.stack,I.stkFree⟩
  ·have hx':(relabel scope X.env).names.lookup x=some .cell∨(relabel scope X.env).names.lookup x=some .free:=hx
   have hz:(x,NameKind.free)∈scope.names∨(x,NameKind.cell)∈scope.names:=by
    rcases hx' with z |z
    ·exact QY z (.inl rfl)
    ·exact QY z (.inr rfl)
   rcases hz with z |z
   ·obtain⟨c,q,_⟩:=cf2 x z
    exact⟨c,q⟩
   ·exact cf3 x z
  ·refine⟨Nat.ne_of_lt (Nat.lt_trans (fpLt b hb) hDlt),fpNe b hb⟩
  ·rcases(hf b hb).2.2.2.1 with z |z
   ·exact I.ok.noex b o e z
   ·exact absurd (Nat.lt_of_lt_of_le (Heap.lt_size e) (Nat.le_trans I.ok.bsz z)) (Nat.lt_irrefl _)
  ·rcases List.mem_cons.mp (I.stkSub b hz) with z |z
   ·exact(hf b hb).2.1 z
   ·exact(hf b hb).2.2.1 z
 have lenc:(Yb n caps σ).length=(tns++caps.map (·.2)).length:=by unfold Yb;simp[hn]
 have I1:∀tk,Inv X' [] (Yb n caps σ) H {s with heap:=h₁,toks:=tk}:=λtk=>by
  refine⟨okX,rfl,I.bare,Un.kept old,⟨_,hns₁,λi x v e1 e2 e3=>?_⟩,λx c e=>?_,I.hok.fresh (by rw[hD];exact Nat.le_of_lt hDlt),λx c e=>?fc,λp hp=>absurd (show p∈([]:List (Addr×Obj)) from hp) (by simp),I.hok.kept old,lenc⟩
  ·have hi:n<=i:=by
    by_cases h:n<=i
    ·exact h
    ·have e2':(Yb n caps σ)[i]?=some (some v):=e2
     unfold Yb at e2'
     rw[List.getElem?_append_left (by simp;omega),List.getElem?_replicate] at e2'
     split at e2'<;> cases e2'
   have e2':(Yb n caps σ)[i]?=some (some v):=e2
   unfold Yb at e2'
   rw[List.getElem?_append_right (by simpa using hi),List.length_replicate,List.getElem?_map] at e2'
   have e1':(tns++caps.map (·.2))[i]?=some x:=e1
   rw[List.getElem?_append_right (by rw[hn];exact hi),hn,List.getElem?_map] at e1'
   cases hcp:caps[i-n]? with
   |none=>rw[hcp] at e2';cases e2'
   |some p=>
    rw[hcp] at e2' e1'
    simp only[Option.map_some,Option.some.injEq] at e2' e1'
    have hp5:=ok5 p (List.mem_of_getElem? hcp)
    simp only[beq_iff_eq,Bool.or_eq_true] at hp5
    obtain⟨⟨p1,p2⟩,p3⟩:=hp5
    have hσ:σ[p.1]?=some (some v):=by
     cases hq:σ[p.1]? with
     |none=>rw[hq] at e2';cases e2'
     |some o=>rw[hq] at e2';simp at e2';rw[e2']
    subst e1'
    obtain⟨m,hm,hl⟩:=I.loc
    obtain⟨u,r,l⟩:=hl p.1 p.2 v p1 hσ (.inr p2)
    refine⟨u,r, .inr ?_⟩
    rcases l with⟨k,_⟩ | ⟨k,c,e,z⟩
    ·have k':X.env.scope.names.lookup p.2=some .local:=k
     rcases p2 with p2 |p2<;> (rw[p2] at k';cases k')
    ·obtain⟨c',e',e''⟩:=cf2 p.2 (PySem.mem_of_lookup p3)
     have:=hsub _ _ e''
     rw[e] at this;cases this
     obtain⟨o,ho,hd⟩:=z
     exact⟨Q8 (env:=X.env) p3,c,e',⟨o,old _ _ ho,hd⟩⟩
  ·rcases hc₁ x c e with q | ⟨q,_⟩
   ·obtain⟨v,o,ho,hd⟩:=I.cell x c (hsub x c q)
    exact⟨v,o,old _ _ ho,hd⟩
   ·exact⟨_,q⟩
  case fc=>
   rcases hc₁ x c e with q | ⟨_,q⟩
   ·exact I.freeC x c (hsub x c q)
   ·exact I.hok.fresh (by rw[hD];omega)
 obtain⟨hg,ht,he⟩:=hb cl' C s H fp X'.xe
 have fsLt:∀b∈X'.fs,b<D:=λb hb=>by
  obtain⟨_,o,ho,_⟩:=I.stack.mem hb
  rw[←hD];exact Heap.lt_size ho
 have aY:CAt X' fp D:=⟨hc,rfl,Nat.ne_of_lt hDlt,λhz=>absurd (fsLt _ hz) (Nat.lt_irrefl _),by show s.heap.objs.size<=D;omega,cellNe,λb hb=>Nat.ne_of_lt (fpLt b hb),λb hb H' h'=>⟨h',Nat.ne_of_lt (Nat.lt_trans (fpLt b hb) hDlt),okX.exfs b hb, .inl hb,fpNe b hb,λp hp=>U5 (α:=Addr×Obj) hp⟩⟩
 have loop:∀s₃:Shared,(∃tk,s₃={s with heap:=h₁,toks:=tk})->
   codeAny (model X.prog X.w) X.A (.compLoop (.ListComp elt [⟨tg,iter,ifs,0⟩] scope pos) 0 (.ref it) (.ref D) (compEnvC scope cl' C X.env)) (RR (.ref D) C) s₃:=by
  rintro s₃ ⟨tk,rfl⟩
  exact Vs (Y:=X') rfl T hG hg ht he aY (λj v e=>(JZ e).1) turn (λys its k H3 s4 I4 rv hz q=>hRR _ C ys H3 s4 (Kp I hf (Nat.le_of_eq hD) hDlt I4 I4.os I4.base I4.hok rfl rv hz) q)
   (.mk 0 H [] [] 0 ⟨I1 tk,hst₁,λb hb=>(hf b hb).1,hacc,I.hok.fresh (by rw[hD];exact Nat.le_refl _)⟩ .nil w0)
 exact codeAny_compStart_list (loop _ ⟨_,rfl⟩) (T.self _ 0 _ _ _ hst₁ (loop _ ⟨_,rfl⟩))
theorem Lv (sc:Scope)(N0:List Str)(tns:List Str)(caps:List (Nat×Str))(hc:X.calm=true)(hi:PI X tg iter wi)(hG:Vj tns.length g)
  (hb:∀cl C s H ex E,PG (X.compN (tns++caps.map (·.2)) scope cl C s H ex E) tg g/\PTs (X.compN (tns++caps.map (·.2)) scope cl C s H ex E) ifs tt/\PE (X.compN (tns++caps.map (·.2)) scope cl C s H ex E) elt te)
  (hsc:X.env.scope=sc:=by rfl)(hN0:X.N=N0:=by rfl)(ok:Uf sc scope N0 tns caps=true:=by decide+kernel)
  (hs:∀x,foldedSetIterable iter X.env x=pure x:=by intro _;rfl):
  PE X (.ListComp elt [⟨tg,iter,ifs,0⟩] scope pos) (K3 tns.length caps wi g tt te):=by
 intro pins s σ H Q I h
 have ok':=ok
 unfold Uf at ok'
 simp only[Bool.and_eq_true,List.all_eq_true] at ok'
 obtain⟨⟨⟨⟨ok1,ok2⟩,ok3⟩,ok4⟩,ok5⟩:=ok'
 obtain⟨cl,ecl,hsub,hall⟩:=Gm (scope:=scope) (env:=X.env) λx hx hfr=>by
  have:=ok4 x hx
  rw[hfr] at this
  have z:sc.names.lookup x.1=some .cell∨sc.names.lookup x.1=some .free:=by simpa using this
  exact I.ok.has x.1 (by show X.env.scope.names.lookup x.1=_∨X.env.scope.names.lookup x.1=_;rw[hsc];exact z)
 rw[eval_ListComp]
 refine wpAny_comprehension_free (use:=none) rfl hs ecl (by simpa using ok1) (λx hx hl=>by have:=ok3 x hx;rw[hl] at this;simpa using this) (thn (hi pins s σ H _ I h) λxv s₁ h₁=>thn h₁ λitv s₂ h₂=>?_)
 obtain⟨it,fp,tn,J,H',rfl,I2,T,st2,f2,W,⟨m0,w0⟩,turn⟩:=h₂
 refine Do (RR:=λacc C=>compPost (model X.prog X.w) X.A X.xe none (EP X pins σ Q) acc C) hc hsc hN0 ok rfl hG hb I2 T st2 f2 hsub hall W w0 turn ?_
 intro D C ys H3 s' ce q
 obtain⟨mm,hns⟩:=ce.ns
 refine⟨mm,hns,λh' hs'=>⟨.ref D,_,?_,rfl,q⟩⟩
 obtain⟨c0,c1,c2,c3,c4,c5⟩:=ce.fp
 exact ce.inv.turned (t':=s'.toks) (λb o hb' e=>(hs'.extBut b o hb' e)) c0 c1 c3 c4 c5
end
variable {X:Cx}
theorem XJ {l:List Expr}{p:Pos}{es:List Expr}{env:Env}:starEach (.List l p::es) env=(false,eval (.List l p) env)::starEach es env:=rfl
theorem Hq {X:Cx}(K:PySem.W.Frag)(h:X.K=K):MtR X "list.index" (Ht K):=by subst h;exact IN
variable {X:Cx}{o e:Expr}{es:List Expr}{to:TE}{t:TA}{name:Str}{apos cpos:Pos}{T id:String}{r:V->List V->Hp->VK->Prop}
theorem PB (K:PySem.W.Frag)(hK:X.K=K)(pa:PlainAttrs T)(slot:Slot T name id)(hty:typeOf (.builtin id)=pure (.type "method_descriptor"))(hm:MtR X id r)(ho:PE X o to)(ha:PA X (e::es) t)
  (hbase:attributeBase o name X.env (eval o X.env)=eval o X.env:=by rfl)
  (hfew:((backTo cpos (starEach (e::es) X.env)).all (λx=>!x.1)&&(backToKw cpos (keywordEach [] X.env)).all (λx=>x.1.isSome)
   &&decide ((e::es).length+([]:List Keyword).length+(if([]:List Keyword).isEmpty then 0 else 1)<30))=true:=by rfl)
  (hline:(apos.endLine==cpos.line)=true:=by rfl)(hs:starEach (e::es) X.env=(false,eval e X.env)::starEach es X.env:=by rfl)(hplain:(backTo cpos (starEach es X.env)).any (·.1)=false:=by rfl):
  PE X (.Call (.Attribute o name apos) (e::es) [] cpos) (tBM K T r to t):=by
 subst hK
 exact Y8 pa slot hty hm ho ha hbase hfew hline hs hplain
end L2
namespace PySem
open PySem.Spec
namespace SeqAt
open MeetsSeq
theorem list_indexFrom (l:Addr)(items:Array Value)(n:Nat)(dd:Option Addr)(sl:Array (Option Value))(x:Value)(e:Value->Bool)(k:Nat)(t:Tok)(j:Nat)(hk:k<=j)(hj:j<items.size)(hsmall:(j:Int)<2^63-1)
  (hit:e items[j]=true)(hno:∀m (hm:m<items.size),k<=m->m<j->e items[m]=false):
  Meets (Builtin.«list.index» ⟨[.ref l,x, .int (k:Int) t],[]⟩)
   (λA R s=>s.heap.get? l=some {cls:=.type "list",dict:=dd,data:=.seq items n,slots:=sl}/\(∀y,y∈items->EqAt A.in1 s y x (e y))/\R (.ok (.ret (.int j s.toks))) {s with toks:=s.toks+1}):=by
 intro prog w A R s h
 obtain⟨hp,g,d,tk,os⟩:=s;obtain⟨hl,he,h⟩:=h
 wp_walk using wpAny_loadPart' hl
 have a1:((λi:Int=>if i<0 then max 0 (i+(items.size:Int)) else i) ((some (k:Int)).getD 0))=((k:Nat):Int):=by
  show(if(k:Int)<0 then max 0 ((k:Int)+(items.size:Int)) else(k:Int))=_
  rw[if_neg (by omega)]
 have a2:((λi:Int=>if i<0 then max 0 (i+(items.size:Int)) else i) ((none:Option Int).getD (2^63-1)))=2^63-1:=by simp
 rw[a1,a2]
 exact⟨plainId_quiet plain_index_loop _,codeAny_builtin entry_index_loop (by
  rw[Around.under_plainId plain_index_loop _]
  exact index_loopAt l items n dd sl x e (2^63-1) j hj hsmall hit _ k rfl hk (λm hm h1 h2=>hno m hm h1 h2) prog w A R _ ⟨hl,he,h⟩)⟩
end SeqAt
end PySem
namespace L2
open PySem PySem.Spec PyProof.Rows
noncomputable def EZ (K:PySem.W.Frag):V->List V->Hp->VK->Prop:=λx vs H Q=>∃ l xs y,∃k j:Nat,∃kk:Int,x= .ref l/\vs=[y, .int kk]/\kk=(k:Int)/\SqL K H l xs/\J9 y=true/\xs.all J9=true/\k<=j/\(∃z,xs[j]?=some z/\eqV z y=true)/\(∀(m:Nat) z,k<=m->m<j->xs[m]?=some z->eqV z y=false)/\Q (.int (j:Int)) H
section
variable {X:Cx}
theorem E7:MtR X "list.index" (EZ X.K):=by
 intro pins s σ H x vs v us Q I rx rv h
 obtain⟨l,xs,y,k,j,kk,rfl,rfl,rfl,hq,fy,fs,hkj,⟨z,hz,ez⟩,hm,q⟩:=h
 cases rx
 obtain⟨u,u2,rfl,ry,rk⟩:=X5.two rv
 obtain⟨t,rfl⟩:=rk
 obtain⟨its,r,pl,hle⟩:=I.list hq
 have hl:=r.length
 have hjl:=(List.getElem?_eq_some_iff.mp hz).1
 have ge:∀(m:Nat) (w:V),xs[m]?=some w->∀hm:m<its.toArray.size,eqU y its.toArray[m]=eqV w y:=λm w hw hm=>by
  obtain⟨u',hu',ru'⟩:=r.get hw
  have e:its.toArray[m]=u':=by
   have:=(List.getElem?_eq_some_iff.mp hu').2
   simpa using this
  rw[e]
  exact DI ru' (List.all_eq_true.mp fs w (List.mem_of_getElem? hw))
 obtain⟨o,n,ho,hc,hd,hs⟩:=id pl
 obtain⟨cls,dict,data,slots⟩:=o
 cases hc;cases hd;cases hs
 refine call_meets F.slot_list_index ⟨_,ho,rfl⟩ F.entry_list_index (F.args_list_index_3 _ _ _) (SeqAt.list_indexFrom l its.toArray n none slots u (eqU y) k t j hkj (by rw[List.size_toArray];omega) ?_ ?_ ?_) ⟨ho,λw hw=>Qu ry fy r fs w (by simpa using hw),?_⟩
 ·have:sizeLine<2^63-1:=by decide
  omega
 ·rw[ge j z hz];exact ez
 ·intro m hm' hle1 hlt
  rw[ge m xs[m] (List.getElem?_eq_getElem (by omega))]
  exact hm m _ hle1 hlt (List.getElem?_eq_getElem (by omega))
 ·exact⟨.int (j:Int),H,I.tok _,⟨_,rfl⟩,q⟩
end
noncomputable def ST (K:PySem.W.Frag):List V->Hp->VK->Prop:=λxs H Q=>∃ (a:Addr) (bs:List Bool),xs=[.ref a]/\SqL K H a (bs.map V.bl)/\Q (.bl (bs.all id)) H
section
variable {X:Cx}
theorem Pe:∀(bs:List Bool),((List.range bs.length).all λi=>(bs[i]?).getD true)=bs.all id:=λbs=>by
 rw[Bool.eq_iff_iff,List.all_eq_true,List.all_eq_true]
 constructor
 ·intro h b hb
  obtain⟨i,hi,rfl⟩:=List.getElem_of_mem hb
  have:=h i (List.mem_range.mpr hi)
  simpa[List.getElem?_eq_getElem hi] using this
 ·intro h i hi
  have hi':=List.mem_range.mp hi
  simpa[List.getElem?_eq_getElem hi'] using h _ (List.getElem_mem hi')
theorem GO (hc:X.calm=true):Va X (.builtin "all") (ST X.K):=by
 intro pins s σ H xs us Q I r h
 obtain⟨a,bs,rfl,hq,q⟩:=h
 obtain⟨u,rfl,ru⟩:=Dj r
 cases ru
 obtain⟨its,rv,pl,hz⟩:=I.list hq
 have hlen:bs.length=its.length:=by have:=rv.length;rwa [List.length_map] at this
 have hlt:a<s.heap.objs.size:=by obtain⟨o,n,ho,_⟩:=pl;exact Heap.lt_size ho
 refine call_all_walk (wpAny_pyIter_list pl.isList ?_)
 refine⟨s.heap.objs.size,[s.heap.objs.size,a],[s.heap.objs.size],its.toArray.size,_,_,λi=>(bs[i]?).getD true,rfl,Walks.list (A:=X.A.in1) (I.ok.hd hc) _ a (Nat.ne_of_lt hlt) its.toArray,
  ⟨⟨_,Heap.get?_push_size _ rfl,rfl,rfl⟩,pl.isList.at λo e=>Heap.get?_push_of_some _ e⟩,λi v s' Q' E' hP hQ=>?_,λh' tk hk=>?_⟩
 ·have hv':its[i]?=some v:=by simpa using hP
  obtain⟨x,ex,rx⟩:=KR rv hv'
  rw[List.getElem?_map] at ex
  cases e:bs[i]? with
  |none=>rw[e] at ex;cases ex
  |some z=>
   rw[e] at ex
   have ex':V.bl z=x:=Option.some.inj ex
   subst ex'
   cases rx
   simp only[e,Option.getD_some] at hQ
   exact wpAny_truthy_bool hQ
 ·have e:((List.range its.toArray.size).all λi=>(bs[i]?).getD true)=bs.all id:=by
   rw[List.size_toArray, ←hlen];exact Pe bs
  rw[e]
  have I2:Inv X pins σ H {s with heap:=h',toks:=tk}:=I.kept (t':=tk) λb o e=>hk b o (λhm=>by
   rw[List.mem_singleton.mp hm] at e
   exact absurd (Heap.lt_size e) (Nat.lt_irrefl _)) (Heap.get?_push_of_some _ e)
  exact⟨.bl (bs.all id),H,I2,rfl,q⟩
noncomputable def Pc (i j k:Nat)(ta:TA):TS:=λD σ H=>ta σ H λvs H1=>∃ v w z,vs=[v,w,z]/\D.nx (((σ.set i (some v)).set j (some w)).set k (some z)) H1
theorem Ob {i j k:Nat}{x y z:Str}{a b c:Expr}{ta:TA}{px py pz pt pos:Pos}{kt k2 pt2}(hc:X.calm=true)(hN:X.N.Nodup)(hi:X.N[i]?=some x)(hj:X.N[j]?=some y)(hk:X.N[k]?=some z)(hij:i≠j)(hik:i≠k)(hjk:j≠k)
  (hx:X.env.scope.names.lookup x=some .local)(hy:X.env.scope.names.lookup y=some .local)(hz:X.env.scope.names.lookup z=some .local)(ha:PA X [a,b,c] ta)
  (hw:swappedStores [.Tuple [.Name x px, .Name y py, .Name z pz] kt pt] (.Tuple [a,b,c] k2 pt2) X.env=pure (some [x,y,z]))
  (hs:swapsWithSole [.Tuple [.Name x px, .Name y py, .Name z pz] kt pt] (.Tuple [a,b,c] k2 pt2) pos.line X.env=pure false:=by rfl):
  PS X (.Assign [.Tuple [.Name x px, .Name y py, .Name z pz] kt pt] (.Tuple [a,b,c] k2 pt2) pos) (Pc i j k ta):=by
 intro pins s σ H D I h
 rw[exec_Assign_arm]
 refine wpAny_bind (wpAny_standAt ?_)
 rw[hs]
 refine wpAny_bind (wpAny_pure ?_)
 rw[if_neg (by decide)]
 refine wpAny_bind (Tuple_ (thn (ha _ pins s σ H _ I h) λus s1 r9=>?_))
 obtain⟨vs,H1,I1,r1,q1⟩:=r9
 obtain⟨v,w,t,e1,q1⟩:=q1
 subst e1
 obtain⟨u1,u2,u3,rfl,rv,rw',rt⟩:∃u1 u2 u3,us=[u1,u2,u3]/\X9 v u1/\X9 w u2/\X9 t u3:=by
  cases r1 with
  |cons p q=>
   cases q with
   |cons p' q'=>
    cases q' with
    |cons p'' q''=>
     cases q''
     exact⟨_,_,_,rfl,p,p',p''⟩
 refine wpAny_newObj_type ?_ (by show 3<=sizeLine;decide)
 have I2:Inv X pins σ H1 {s1 with heap:=s1.heap.push {cls:=.type "tuple",data:=.seq [u1,u2,u3].toArray}}:=I1.kept (t':=s1.toks) λb o e=>Heap.get?_push_of_some _ e
 rw[hw]
 refine wpAny_bind (wpAny_pure ?_)
 show wpAny (model X.prog X.w) X.A (do rule "assign.swapped-stores";let items ←unpackItems (.ref s1.heap.objs.size) 3 none;assignInOrder [λv=>bindName X.env z v,λv=>bindName X.env y v,λv=>bindName X.env x v] items.reverse;pure Flow.next) _ _ _
 refine wpAny_bind (wpAny_rule (wpAny_bind (unpackItems_tuple (items:=#[u1,u2,u3]) (I.ok.hd hc) (IsTup.new s1.heap _) λh' hx'=>?_)))
 have I3:=I2.kept (h':=h') (t':=s1.toks) λb o e=>hx' b o (Nat.ne_of_lt (Heap.lt_size e)) e
 show wpAny _ _ (assignInOrder [λv=>bindName X.env z v,λv=>bindName X.env y v,λv=>bindName X.env x v] [u3,u2,u1] >>= λ_=>pure Flow.next) _ _ _
 refine wpAny_bind (assignInOrder_cons (wpAny_bindName (Qw I3 hN hk (.inl hz) rt (λs2 I4=>?_) (.inr hz))))
 refine assignInOrder_cons (wpAny_bindName (Qw I4 hN hj (.inl hy) rw' (λs3 I5=>?_) (.inr hy)))
 refine assignInOrder_cons (wpAny_bindName (Qw I5 hN hi (.inl hx) rv (λs4 I6=>assignInOrder_nil (wpAny_pure ?_)) (.inr hx)))
 have e:(((σ.set k (some t)).set j (some w)).set i (some v))=(((σ.set i (some v)).set j (some w)).set k (some t)):=by
  rw[List.set_comm _ _ hjk.symm,List.set_comm _ _ hik.symm,List.set_comm _ _ hij.symm]
 rw[e] at I6
 exact⟨_,H1,I6,q1⟩
end
section
variable {X:Cx}{α:Type}[DecidableEq α]{r:Enc α}{d:Nat}
end
section
variable {X:Cx}
end
section
variable {X:Cx}
theorem KH (K:PySem.W.Frag)(h:X.K=K):OpR X (compareOp .NotIn) (rIn K true):=by subst h;exact VA
variable {T:String}{name:Str}{id:String}{r:V->List V->Hp->VK->Prop}{o e:Expr}{es:List Expr}{to:TE}{t:TA}{apos cpos:Pos}
theorem Pi {K:PySem.W.Frag}(hK:X.K=K)(pa:PlainAttrs T)(slot:Slot T name id)(hty:typeOf (.builtin id)=pure (.type "method_descriptor"))(hm:MtR X id r)(ho:PE X o to)(ha:PA X (e::es) t)
  (hbase:attributeBase o name X.env (eval o X.env)=eval o X.env:=by rfl)
  (hfew:((backTo cpos (starEach (e::es) X.env)).all (λx=>!x.1)&&(backToKw cpos (keywordEach [] X.env)).all (λx=>x.1.isSome)
   &&decide ((e::es).length+([]:List Keyword).length+(if([]:List Keyword).isEmpty then 0 else 1)<30))=true:=by rfl)
  (hline:(apos.endLine==cpos.line)=true:=by rfl)(hs:starEach (e::es) X.env=(false,eval e X.env)::starEach es X.env:=by rfl)(hplain:(backTo cpos (starEach es X.env)).any (·.1)=false:=by rfl):
  PE X (.Call (.Attribute o name apos) (e::es) [] cpos) (tBM K T r to t):=PB K hK pa slot hty hm ho ha hbase hfew hline hs hplain
end
section
variable {X:Cx}{elt tg iter:Expr}{ifs:List Expr}{scope:Scope}{pos:Pos}{wi:TI}{g:TG}{tt:TT}{te:TE}
theorem Gf {sc:Scope}{N0:List Str}{tns:List Str}{caps:List (Nat×Str)}(hc:X.calm=true)(hi:PI X tg iter wi)(hG:Vj tns.length g)
  (hb:∀cl C s H ex E,PG (X.compN (tns++caps.map (·.2)) scope cl C s H ex E) tg g/\PTs (X.compN (tns++caps.map (·.2)) scope cl C s H ex E) ifs tt/\PE (X.compN (tns++caps.map (·.2)) scope cl C s H ex E) elt te)
  (hsc:X.env.scope=sc:=by rfl)(hN0:X.N=N0:=by rfl)(ok:Uf sc scope N0 tns caps=true:=by decide+kernel)
  (hs:∀x,foldedSetIterable iter X.env x=pure x:=by intro _;rfl):
  PE X (.ListComp elt [⟨tg,iter,ifs,0⟩] scope pos) (K3 tns.length caps wi g tt te):=Lv sc N0 tns caps hc hi hG hb hsc hN0 ok hs
theorem YA {sc:Scope}{N0:List Str}{tns:List Str}{caps:List (Nat×Str)}(hc:X.calm=true)(hi:PI X tg iter wi)(hG:Vj tns.length g)
  (hb:∀cl C s H ex E,PG (X.comp (tns++caps.map (·.2)) scope cl C s H ex E) tg g/\PTs (X.comp (tns++caps.map (·.2)) scope cl C s H ex E) ifs tt/\PE (X.comp (tns++caps.map (·.2)) scope cl C s H ex E) elt te)
  (hsc:X.env.scope=sc:=by rfl)(hN0:X.N=N0:=by rfl)(ok:U9 sc scope N0 tns caps=true:=by decide+kernel)
  (hs:∀x,foldedSetIterable iter X.env x=pure x:=by intro _;rfl):
  PE X (.ListComp elt [⟨tg,iter,ifs,0⟩] scope pos) (K3 tns.length caps wi g tt te):=OF sc N0 tns caps hc hi hG hb hsc hN0 ok hs
end
section
variable {X:Cx}{tg l:Expr}{tl:TE}{p pos:Pos}{K:PySem.W.Frag}
theorem XA (h:X.K=K)(hl:PE X l tl):PI X tg l (Ff K tl):=by subst h;exact MM hl
end
noncomputable def Je:List Int->Int
 | []=>0
 |a::r=>r.foldl max a
theorem KO (ns:List Int):∀k,k<ns.length->ns.getD (argBest (λi j=>decide (ns.getD i 0 > ns.getD j 0)) k) 0=Je (ns.take (k+1))
 |0,h=>by
  cases ns with
  |nil=>simp at h
  |cons a r=>simp[argBest,Je]
 |k+1,h=>by
  have ih:=KO ns k (by omega)
  have e:Je (ns.take (k+1+1))=max (Je (ns.take (k+1))) (ns.getD (k+1) 0):=by
   rw[List.take_succ_eq_append_getElem h]
   cases ns with
   |nil=>simp at h
   |cons a r=>
    rw[List.take_succ_cons]
    simp only[Je,List.cons_append,List.foldl_append,List.foldl_cons,List.foldl_nil]
    rw[List.getD_eq_getElem?_getD,List.getElem?_eq_getElem h]
    rfl
  rw[e, ←ih]
  show ns.getD (if(decide (ns.getD (k+1) 0 > ns.getD (argBest _ k) 0))=true then k+1 else argBest _ k) 0=_
  by_cases hc:ns.getD (k+1) 0 > ns.getD (argBest (λi j=>decide (ns.getD i 0 > ns.getD j 0)) k) 0
  ·rw[if_pos (by simpa using hc)];omega
  ·rw[if_neg (by simpa using hc)];omega
section
variable {X:Cx}
noncomputable def PR (K:PySem.W.Frag)(f:List Int->Int):List V->Hp->VK->Prop:=λxs H Q=>∃ (a:Addr) (ns:List Int),xs=[.ref a]/\SqL K H a (ns.map V.int)/\0<ns.length/\Q (.int (f ns)) H
theorem Kt {its:List Value}{ns:List Int}(rv:X5 (ns.map V.int) its):∀(i:Nat) (v:Value),its.toArray[i]?=some v->∃t,v=Value.int (ns.getD i 0) t:=λi v hv=>by
 have hv':its[i]?=some v:=by simpa using hv
 obtain⟨x,ex,rx⟩:=KR rv hv'
 rw[List.getElem?_map] at ex
 cases e:ns[i]? with
 |none=>rw[e] at ex;cases ex
 |some z=>
  rw[e] at ex
  have ex':V.int z=x:=Option.some.inj ex
  subst ex'
  obtain⟨t,rfl⟩:=rx
  exact⟨t,by simp[List.getD,e]⟩
theorem GK (K:PySem.W.Frag)(hK:X.K=K)(hc:X.calm=true):Va X (.builtin "max") (PR K Je):=by
 subst hK
 intro pins s σ H xs us Q I r h
 obtain⟨a,ns,rfl,hq,hne,q⟩:=h
 obtain⟨u,rfl,ru⟩:=Dj r
 cases ru
 obtain⟨its,rv,pl,hz⟩:=I.list hq
 have hlen:its.length=ns.length:=by have:=rv.length;simpa using this.symm
 have hlt:a<s.heap.objs.size:=by obtain⟨o,n,ho,_⟩:=pl;exact Heap.lt_size ho
 refine call_max_walk (wpAny_pyIter_list pl.isList ?_)
 refine⟨s.heap.objs.size,_,_,_,_,_,_,rfl,Walks.list (prog:=X.prog) (w:=X.w) (A:=X.A.in1) (I.ok.hd hc) s.heap.objs.size a (Nat.ne_of_lt hlt) its.toArray,⟨⟨_,Heap.get?_push_size _ rfl,rfl,rfl⟩,pl.isList.at λo e=>Heap.get?_push_of_some _ e⟩,λb hb=>?_,by rw[List.size_toArray,hlen];exact hne,CmpOf.ints_gt (λi=>ns.getD i 0) (Kt rv),λv h' tk hP hk=>?_⟩
 ·rcases List.mem_cons.mp hb with e |hb
  ·rw[e,Heap.size_push];exact Nat.lt_succ_self _
  ·rw[List.mem_singleton.mp hb,Heap.size_push];exact Nat.lt_succ_of_lt hlt
 ·have I2:Inv X pins σ H {s with heap:=h',toks:=tk}:=I.kept (t':=tk) λb o e=>hk b o (λhm=>by
   rw[List.mem_singleton.mp hm] at e
   exact absurd (Heap.lt_size e) (Nat.lt_irrefl _)) (Heap.get?_push_of_some _ e)
  obtain⟨t,rfl⟩:=Kt rv _ _ hP
  refine⟨.int (Je ns),H,I2,⟨t,?_⟩,q⟩
  rw[List.size_toArray,hlen,KO ns (ns.length-1) (by omega),show ns.length-1+1=ns.length by omega,List.take_length]
noncomputable def Ri (K:PySem.W.Frag)(f:List Int->Int):List V->Hp->VK->Prop:=λxs H Q=>∃ (a:Addr) (ns:List Int),xs=[.ref a]/\SqT K H a (ns.map V.int)/\0<ns.length/\Q (.int (f ns)) H
theorem Hk (K:PySem.W.Frag)(hK:X.K=K)(hc:X.calm=true):Va X (.builtin "max") (Ri K Je):=by
 subst hK
 intro pins s σ H xs us Q I r h
 obtain⟨a,ns,rfl,hq,hne,q⟩:=h
 obtain⟨u,rfl,ru⟩:=Dj r
 cases ru
 obtain⟨its,rv,pl,hz⟩:=I.tuple hq
 have hlen:its.length=ns.length:=by have:=rv.length;simpa using this.symm
 have hlt:a<s.heap.objs.size:=by obtain⟨o,ho,_⟩:=pl;exact Heap.lt_size ho
 refine call_max_walk (wpAny_pyIter_tuple pl ?_)
 refine⟨s.heap.objs.size,_,_,_,_,_,_,rfl,Walks.tuple (prog:=X.prog) (w:=X.w) (A:=X.A.in1) (I.ok.hd hc) s.heap.objs.size a (Nat.ne_of_lt hlt) its.toArray,⟨⟨_,Heap.get?_push_size _ rfl,rfl,rfl⟩,(show s.heap.IsTuple a its.toArray from pl).at λo e=>Heap.get?_push_of_some _ e⟩,λb hb=>?_,by rw[List.size_toArray,hlen];exact hne,CmpOf.ints_gt (λi=>ns.getD i 0) (Kt rv),λv h' tk hP hk=>?_⟩
 ·rcases List.mem_cons.mp hb with e |hb
  ·rw[e,Heap.size_push];exact Nat.lt_succ_self _
  ·rw[List.mem_singleton.mp hb,Heap.size_push];exact Nat.lt_succ_of_lt hlt
 ·have I2:Inv X pins σ H {s with heap:=h',toks:=tk}:=I.kept (t':=tk) λb o e=>hk b o (λhm=>by
   rw[List.mem_singleton.mp hm] at e
   exact absurd (Heap.lt_size e) (Nat.lt_irrefl _)) (Heap.get?_push_of_some _ e)
  obtain⟨t,rfl⟩:=Kt rv _ _ hP
  refine⟨.int (Je ns),H,I2,⟨t,?_⟩,q⟩
  rw[List.size_toArray,hlen,KO ns (ns.length-1) (by omega),show ns.length-1+1=ns.length by omega,List.take_length]
end
inductive Pay where
 |non |int (i:Int) |tag (t:Str) (xs:List Int)
 deriving DecidableEq
structure Exc where
 cls:Str
 pay:Pay
inductive Rs (α:Type) where
 |bad |err (x:Exc) |ok (a:α)
noncomputable def Rs.bind {α β:Type}:Rs α->(α->Rs β)->Rs β
 | .bad,_=>.bad
 | .err x,_=>.err x
 | .ok a,f=>f a
theorem Rs.ok_bind {α β:Type}(a:α)(f:α->Rs β):(Rs.ok a).bind f=f a:=rfl
noncomputable def chk {α:Type}(c:Prop)[Decidable c](m:Rs α):Rs α:=if c then m else .bad
theorem Xl {α:Type}{c:Prop}[Decidable c]{m:Rs α}(h:c):chk c m=m:=if_pos h
noncomputable abbrev Xo:=Addr×HO
noncomputable def OU:HO->Bool
 | .lst _=>true
 | .dK _=>true
 | .dT _=>true
 |_=>false
noncomputable def fl (OO:List (List Xo)):List Addr:=OO.flatten.map (·.1)
open Classical in
noncomputable def hid (H:Hp)(OO:List (List Xo)):Hp:=λb=>if b∈fl OO then none else H b
structure W (OO:List (List Xo))(H:Hp):Prop where
 tr:∀c∈OO.flatten,H c.1=some c.2
 nd:(fl OO).Nodup
 mu:∀c∈OO.flatten,OU c.2=true
theorem XZ {H:Hp}{OO}{b:Addr}{o:HO}(h:hid H OO b=some o):H b=some o/\b∉fl OO:=by
 unfold hid at h
 split at h
 ·cases h
 ·exact⟨h,by assumption⟩
theorem Y3 {H:Hp}{OO}{b:Addr}{o:HO}(h:H b=some o)(n:b∉fl OO):hid H OO b=some o:=by
 unfold hid;rw[if_neg n];exact h
theorem Xu {H:Hp}{OO}:Xp (hid H OO) H:=λb o h=>(XZ h).1
theorem Xh {H H':Hp}{OO}(s:Xp H H'):Xp (hid H OO) (hid H' OO):=λb o h=>Y3 (s _ _ (XZ h).1) (XZ h).2
theorem Zh {H H':Hp}{OO OO'}(s:Xp H H')(h:∀b,b∈fl OO'->b∈fl OO):Xp (hid H OO) (hid H' OO'):=λb o q=>Y3 (s _ _ (XZ q).1) λz=>(XZ q).2 (h b z)
theorem XE {C:List Xo}{OO}:fl (C::OO)=C.map (·.1)++fl OO:=by simp[fl]
theorem Ip {OO}:fl ([]::OO)=fl OO:=by simp[fl]
theorem Y6 {H:Hp}{OO}:hid H ([]::OO)=hid H OO:=by unfold hid;rw[Ip]
theorem W.keep {OO}{H H':Hp}(w:W OO H)(s:Xp H H'):W OO H':=⟨λc hc=>s _ _ (w.tr c hc),w.nd,w.mu⟩
theorem W.of {OO OO':List (List Xo)}{H:Hp}(w:W OO H)(h:OO'.flatten.Perm OO.flatten):W OO' H:=
 ⟨λc hc=>w.tr c (h.mem_iff.mp hc),(h.map _).nodup_iff.mpr w.nd,λc hc=>w.mu c (h.mem_iff.mp hc)⟩
theorem W.sub {OO OO':List (List Xo)}{H:Hp}(w:W OO H)(h:OO'.flatten.Sublist OO.flatten):W OO' H:=
 ⟨λc hc=>w.tr c (h.mem hc),(h.map _).nodup w.nd,λc hc=>w.mu c (h.mem hc)⟩
theorem W.tail {C OO}{H:Hp}(w:W (C::OO) H):W OO H:=w.sub (by simp)
theorem W.nil {OO}{H:Hp}(w:W OO H):W ([]::OO) H:=w.of (by simp)
theorem W.cell {C OO}{H:Hp}(w:W (C::OO) H):∀c∈C,H c.1=some c.2:=λc hc=>w.tr c (by simp[hc])
theorem VH {OO:List (List Xo)}{c:Xo}(h:c∈OO.flatten):c.1∈fl OO:=List.mem_map.mpr ⟨c,h,rfl⟩
theorem Bo {OO:List (List Xo)}{b:Addr}(h:b∈fl OO):∃o,(b,o)∈OO.flatten:=by
 obtain⟨⟨a,o⟩,hc,rfl⟩:=List.mem_map.mp h
 exact⟨o,hc⟩
theorem W.fresh {OO}{H:Hp}(w:W OO H){p:Addr}(h:H p=none):p∉fl OO:=λz=>by
 obtain⟨o,ho⟩:=Bo z
 have:=w.tr _ ho
 rw[h] at this;cases this
theorem W.new {OO}{H:Hp}(w:W OO H){p:Addr}(h:H p=none){o:HO}(m:OU o=true):W ([(p,o)]::OO) (upd H p o):=by
 have hf:=w.fresh h
 refine⟨λc hc=>?_,?_,λc hc=>?_⟩
 ·simp only[List.flatten_cons,List.cons_append,List.nil_append,List.mem_cons] at hc
  rcases hc with rfl |hc
  ·exact Yk
  ·rw[XF (λe=>hf (by rw[←e];exact VH hc))];exact w.tr c hc
 ·rw[XE];simpa using ⟨hf,w.nd⟩
 ·simp only[List.flatten_cons,List.cons_append,List.nil_append,List.mem_cons] at hc
  rcases hc with rfl |hc
  ·exact m
  ·exact w.mu c hc
theorem JM {OO}{H:Hp}{p:Addr}(h:H p=none){o:HO}:Xp (hid H OO) (hid (upd H p o) ([(p,o)]::OO)):=λb u q=>by
 obtain⟨q1,q2⟩:=XZ q
 have hb:b≠p:=XU q1 h
 refine Y3 (by rw[XF hb];exact q1) ?_
 rw[XE];simpa using ⟨hb,q2⟩
theorem QP {OO}{H:Hp}(w:W OO H){p:Addr}(h:H p=none){o:HO}:hid (upd H p o) OO p=some o:=Y3 Yk (w.fresh h)
class MonoE {α:Type}(r:Enc α):Prop where
 mono:∀{K:PySem.W.Frag}{H H':Hp}{v:V}{a:α},Xp H H'->r K H v a->r K H' v a
noncomputable def SE:HO->Bool
 | .tup _=>true
 | .frz _ _=>true
 |_=>false
noncomputable def Bq (H H':Hp):Prop:=∀ b o,H b=some o->SE o=true->H' b=some o
theorem Xp.i {H H':Hp}(s:Xp H H'):Bq H H':=λb o h _=>s b o h
theorem W.i {OO}{H:Hp}(w:W OO H):Bq H (hid H OO):=λb o h i=>Y3 h λz=>by
 obtain⟨u,hu⟩:=Bo z
 have h1:=w.tr _ hu
 have h2:=w.mu _ hu
 rw[h] at h1
 have e:o=u:=Option.some.inj h1
 subst e
 revert i h2;cases o<;> simp[SE,OU]
class FlatE {α:Type}(r:Enc α):Prop where
 flat:∀{K:PySem.W.Frag}{H H':Hp}{v:V}{a:α},Bq H H'->r K H v a->r K H' v a
instance {α:Type}{r:Enc α}[f:FlatE r]:MonoE r:=⟨λs h=>f.flat s.i h⟩
noncomputable def XN:Enc Bool:=λ_ _ v b=>v= .bl b
noncomputable def Qp {α:Type}(r:Enc α):Enc (Option α):=λK H v a=>match a with
 |none=>v= .non
 |some a=>v≠ .non/\r K H v a
noncomputable def rV {α:Type}(r:Enc α):Enc (List α):=λK H v as=>∃ a xs,v= .ref a/\H a=some (.lst xs)/\Paired (r K H) xs as
noncomputable def rPL {α:Type}(r:Enc α):Enc (List α):=λK H v as=>∃ a xs,v= .ref a/\H a=some (.tup xs)/\Paired (r K H) xs as
noncomputable def rP2 {α β:Type}(r:Enc α)(q:Enc β):Enc (α×β):=λK H v p=>∃ a x y,v= .ref a/\H a=some (.tup [x,y])/\r K H x p.1/\q K H y p.2
noncomputable def rP3 {α β γ:Type}(r:Enc α)(q:Enc β)(t:Enc γ):Enc (α×β×γ):=λK H v p=>∃ a x y z,v= .ref a/\H a=some (.tup [x,y,z])/\r K H x p.1/\q K H y p.2.1/\t K H z p.2.2
instance {α:Type}{r:Enc α}[m:MonoE r]:MonoE (rV r):=⟨λs r9=>by obtain⟨a,xs,e,q,p⟩:=r9;exact⟨a,xs,e,s _ _ q,Paired.imp2 (λ_ _ z=>m.mono s z) p⟩⟩
instance {α:Type}{r:Enc α}[m:MonoE r]:MonoE (rPL r):=⟨λs r9=>by obtain⟨a,xs,e,q,p⟩:=r9;exact⟨a,xs,e,s _ _ q,Paired.imp2 (λ_ _ z=>m.mono s z) p⟩⟩
instance {α:Type}{r:Enc α}[m:FlatE r]:FlatE (rPL r):=⟨λs r9=>by obtain⟨a,xs,e,q,p⟩:=r9;exact⟨a,xs,e,s _ _ q rfl,Paired.imp2 (λ_ _ z=>m.flat s z) p⟩⟩
instance {α β:Type}{r:Enc α}{q:Enc β}[m:MonoE r][n:MonoE q]:MonoE (rP2 r q):=⟨λs r9=>by obtain⟨a,x,y,e,h,p1,p2⟩:=r9;exact⟨a,x,y,e,s _ _ h,m.mono s p1,n.mono s p2⟩⟩
instance {α β:Type}{r:Enc α}{q:Enc β}[m:FlatE r][n:FlatE q]:FlatE (rP2 r q):=⟨λs r9=>by obtain⟨a,x,y,e,h,p1,p2⟩:=r9;exact⟨a,x,y,e,s _ _ h rfl,m.flat s p1,n.flat s p2⟩⟩
instance {α β γ:Type}{r:Enc α}{q:Enc β}{t:Enc γ}[m:MonoE r][n:MonoE q][k:MonoE t]:MonoE (rP3 r q t):=⟨λs r9=>by obtain⟨a,x,y,z,e,h,p1,p2,p3⟩:=r9;exact⟨a,x,y,z,e,s _ _ h,m.mono s p1,n.mono s p2,k.mono s p3⟩⟩
instance {α β γ:Type}{r:Enc α}{q:Enc β}{t:Enc γ}[m:FlatE r][n:FlatE q][k:FlatE t]:FlatE (rP3 r q t):=⟨λs r9=>by obtain⟨a,x,y,z,e,h,p1,p2,p3⟩:=r9;exact⟨a,x,y,z,e,s _ _ h rfl,m.flat s p1,n.flat s p2,k.flat s p3⟩⟩
instance:FlatE Xd:=⟨λ_ h=>h⟩
instance:FlatE XN:=⟨λ_ h=>h⟩
instance {α:Type}{r:Enc α}[m:MonoE r]:MonoE (rL r):=⟨λs r9=>by obtain⟨a,xs,e,q,p⟩:=r9;exact⟨a,xs,e,s.seq q,Paired.imp2 (λ_ _ z=>m.mono s z) p⟩⟩
instance {α:Type}{r:Enc α}[m:MonoE r]:MonoE (Qp r):=⟨fun {K H H' v a} s h=>by cases a with
 |none=>exact h
 |some a=>exact⟨h.1,m.mono s h.2⟩⟩
instance {α:Type}{r:Enc α}[m:FlatE r]:FlatE (Qp r):=⟨fun {K H H' v a} s h=>by cases a with
 |none=>exact h
 |some a=>exact⟨h.1,m.flat s h.2⟩⟩
noncomputable abbrev OE (α:Type):=PySem.W.Frag->Hp->V->α->List Xo->Prop
inductive P3 {α β γ:Type}(F:α->β->γ->Prop):List α->List β->List γ->Prop where
 |nil:P3 F [] [] []
 |cons {a b c l m n}:F a b c->P3 F l m n->P3 F (a::l) (b::m) (c::n)
noncomputable def oF {α:Type}(r:Enc α):OE α:=λK h v a C=>C=[]/\r K h v a
noncomputable def oL {α:Type}(o:OE α):OE (List α):=λK h v as C=>∃ p xs Cs,v= .ref p/\P3 (o K h) xs as Cs/\C=(p, .lst xs)::Cs.flatten
noncomputable def oT2 {α β:Type}(o:OE α)(q:OE β):OE (α×β):=λK h v a C=>∃ p x y C1 C2,v= .ref p/\h p=some (.tup [x,y])/\o K h x a.1 C1/\q K h y a.2 C2/\C=C1++C2
noncomputable def Ex {α:Type}(o:OE α):OE (Option α):=λK h v a C=>match a with
 |none=>v= .non/\C=[]
 |some a=>v≠ .non/\o K h v a C
section
variable {α β γ δ:Type}
theorem P3.imp {F G:α->β->γ->Prop}(h:∀a b c,F a b c->G a b c):∀{l m n},P3 F l m n->P3 G l m n:=λp=>by
 induction p with
 |nil=>exact .nil
 |cons r _ ih=>exact .cons (h _ _ _ r) ih
theorem P3.app {F:α->β->γ->Prop}:∀{l m n l' m' n'},P3 F l m n->P3 F l' m' n'->P3 F (l++l') (m++m') (n++n'):=λp h=>by
 induction p with
 |nil=>exact h
 |cons r _ ih=>exact .cons r ih
theorem P3.snoc {F:α->β->γ->Prop}{l m n a b c}(h:P3 F l m n)(r:F a b c):P3 F (l++[a]) (m++[b]) (n++[c]):=h.app (.cons r .nil)
theorem P3.len {F:α->β->γ->Prop}:∀{l m n},P3 F l m n->l.length=m.length/\n.length=m.length:=λp=>by
 induction p with
 |nil=>exact⟨rfl,rfl⟩
 |cons _ _ ih=>exact⟨congrArg Nat.succ ih.1,congrArg Nat.succ ih.2⟩
theorem P3.pair {F:α->β->γ->Prop}{G:α->β->Prop}:∀{l m n},P3 F l m n->(∀a b c,c∈n->F a b c->G a b)->Paired G l m:=λp h=>by
 induction p with
 |nil=>exact .nil
 |cons r _ ih=>exact .cons (h _ _ _ List.mem_cons_self r) (ih λa b c hc=>h a b c (List.mem_cons_of_mem _ hc))
theorem P3.get {F:α->β->γ->Prop}:∀{l m n}{i:Nat}{b:β},P3 F l m n->m[i]?=some b->∃a c,l[i]?=some a/\n[i]?=some c/\F a b c
 |_,_,_,_,_, .nil,e=>by simp at e
 |_,_,_,0,_, .cons r _,e=>by simp at e;subst e;exact⟨_,_,rfl,rfl,r⟩
 |_,_,_,i+1,b, .cons _ t,e=>by
  obtain⟨a,c,h1,h2,h3⟩:=P3.get (i:=i) (b:=b) t (by simpa using e)
  exact⟨a,c,by simpa using h1,by simpa using h2,h3⟩
theorem P3.set {F:α->β->γ->Prop}{a:α}{b:β}{c:γ}(r:F a b c):∀{l m n} (i:Nat),P3 F l m n->P3 F (l.set i a) (m.set i b) (n.set i c)
 |_,_,_,_, .nil=>.nil
 |_,_,_,0, .cons _ t=>.cons r t
 |_,_,_,i+1, .cons q t=>.cons q (P3.set r i t)
theorem P3.flat {F:α->β->Prop}:∀{l:List α}{m:List β}{n:List (List Xo)},P3 (λa b c=>c=[]/\F a b) l m n->Paired F l m/\n.flatten=[]:=λp=>by
 induction p with
 |nil=>exact⟨.nil,rfl⟩
 |cons r _ ih=>exact⟨.cons r.2 ih.1,by rw[List.flatten_cons,r.1,ih.2];rfl⟩
theorem P3.of {F:α->β->Prop}:∀{l:List α}{m:List β},Paired F l m->P3 (λa b (c:List Xo)=>c=[]/\F a b) l m (List.replicate m.length [])
 |_,_, .nil=>.nil
 |_,_, .cons r t=>.cons ⟨rfl,r⟩ (P3.of t)
theorem Yo:∀n:Nat,(List.replicate n ([]:List Xo)).flatten=[]
 |0=>rfl
 |n+1=>by simp[List.replicate_succ,Yo n]
end
class MonoO {α:Type}(o:OE α):Prop where
 mono:∀{K:PySem.W.Frag}{H H':Hp}{v:V}{a:α}{C:List Xo},Xp H H'->o K H v a C->o K H' v a C
class FlatO {α:Type}(o:OE α):Prop where
 flat:∀{K:PySem.W.Frag}{H H':Hp}{v:V}{a:α}{C:List Xo},Bq H H'->o K H v a C->o K H' v a C
class FrzC {α:Type}(o:OE α)(r:outParam (Enc α)):Prop where
 frz:∀{K:PySem.W.Frag}{H H':Hp}{v:V}{a:α}{C:List Xo},o K H v a C->Xp H H'->(∀c∈C,H' c.1=some c.2)->r K H' v a
instance {α:Type}{r:Enc α}[m:MonoE r]:MonoO (oF r):=⟨λs h=>⟨h.1,m.mono s h.2⟩⟩
instance {α:Type}{r:Enc α}[m:FlatE r]:FlatO (oF r):=⟨λs h=>⟨h.1,m.flat s h.2⟩⟩
instance {α:Type}{r:Enc α}[m:MonoE r]:FrzC (oF r) r:=⟨λh s _=>m.mono s h.2⟩
instance {α:Type}{o:OE α}[m:MonoO o]:MonoO (oL o):=⟨λs r9=>by obtain⟨p,xs,Cs,e,q,c⟩:=r9;exact⟨p,xs,Cs,e,q.imp λ_ _ _ z=>m.mono s z,c⟩⟩
instance {α:Type}{o:OE α}[m:FlatO o]:FlatO (oL o):=⟨λs r9=>by obtain⟨p,xs,Cs,e,q,c⟩:=r9;exact⟨p,xs,Cs,e,q.imp λ_ _ _ z=>m.flat s z,c⟩⟩
instance {α:Type}{o:OE α}{r:Enc α}[m:FrzC o r]:FrzC (oL o) (rV r):=⟨λ⟨p,xs,Cs,e,q,c⟩ s hc=>by
 subst c
 exact⟨p,xs,e,hc _ List.mem_cons_self,q.pair λa b c hm z=>m.frz z s λx hx=>hc x (List.mem_cons_of_mem _ (List.mem_flatten.mpr ⟨c,hm,hx⟩))⟩⟩
instance {α β:Type}{o:OE α}{q:OE β}[m:MonoO o][n:MonoO q]:MonoO (oT2 o q):=⟨λs r9=>by obtain⟨p,x,y,C1,C2,e,h,h1,h2,c⟩:=r9;exact⟨p,x,y,C1,C2,e,s _ _ h,m.mono s h1,n.mono s h2,c⟩⟩
instance {α β:Type}{o:OE α}{q:OE β}[m:FlatO o][n:FlatO q]:FlatO (oT2 o q):=⟨λs r9=>by obtain⟨p,x,y,C1,C2,e,h,h1,h2,c⟩:=r9;exact⟨p,x,y,C1,C2,e,s _ _ h rfl,m.flat s h1,n.flat s h2,c⟩⟩
instance {α β:Type}{o:OE α}{q:OE β}{r:Enc α}{t:Enc β}[m:FrzC o r][n:FrzC q t]:FrzC (oT2 o q) (rP2 r t):=⟨λ⟨p,x,y,C1,C2,e,h,h1,h2,c⟩ s hc=>by
 subst c
 exact⟨p,x,y,e,s _ _ h,m.frz h1 s λc hm=>hc c (by simp[hm]),n.frz h2 s λc hm=>hc c (by simp[hm])⟩⟩
instance {α:Type}{o:OE α}[m:MonoO o]:MonoO (Ex o):=⟨fun {K H H' v a C} s h=>by cases a with
 |none=>exact h
 |some a=>exact⟨h.1,m.mono s h.2⟩⟩
instance {α:Type}{o:OE α}[m:FlatO o]:FlatO (Ex o):=⟨fun {K H H' v a C} s h=>by cases a with
 |none=>exact h
 |some a=>exact⟨h.1,m.flat s h.2⟩⟩
instance {α:Type}{o:OE α}{r:Enc α}[m:FrzC o r]:FrzC (Ex o) (Qp r):=⟨fun {K H H' v a C} h s hc=>by cases a with
 |none=>exact h.1
 |some a=>exact⟨h.1,m.frz h.2 s hc⟩⟩
structure SC where
 p:Hp->Prop
 mono:∀h h',Xp h h'->p h->p h'
noncomputable def SC.nil:SC:=⟨λ_=>True,λ_ _ _ _=>True.intro⟩
noncomputable def SC.and (S T:SC):SC:=⟨λh=>S.p h/\T.p h,λ_ _ s q=>⟨S.mono _ _ s q.1,T.mono _ _ s q.2⟩⟩
noncomputable def SC.one {α:Type}(K:PySem.W.Frag)(r:Enc α)[m:MonoE r](v:V)(a:α):SC:=⟨λh=>r K h v a,λ_ _ s q=>m.mono s q⟩
noncomputable def SC.oneO {α:Type}(K:PySem.W.Frag)(o:OE α)[m:MonoO o](v:V)(a:α)(C:List Xo):SC:=⟨λh=>o K h v a C,λ_ _ s q=>m.mono s q⟩
noncomputable abbrev SC.add {α:Type}(S:SC)(K:PySem.W.Frag)(r:Enc α)[m:MonoE r](v:V)(a:α):SC:=S.and (SC.one K r v a)
noncomputable abbrev SC.addO {α:Type}(S:SC)(K:PySem.W.Frag)(o:OE α)[m:MonoO o](v:V)(a:α)(C:List Xo):SC:=S.and (SC.oneO K o v a C)
theorem SC.l {S T:SC}{h:Hp}(q:(S.and T).p h):S.p h:=q.1
theorem SC.r {S T:SC}{h:Hp}(q:(S.and T).p h):T.p h:=q.2
theorem SC.i {S T:SC}{h:Hp}(q:S.p h)(p:T.p h):(S.and T).p h:=⟨q,p⟩
theorem SC.t {h:Hp}:SC.nil.p h:=True.intro
theorem SC.p.l {S T:SC}{h:Hp}(q:(S.and T).p h):S.p h:=q.1
theorem SC.p.r {S T:SC}{h:Hp}(q:(S.and T).p h):T.p h:=q.2
noncomputable def PZ {β:Type}(Er:Exc->Hp->Prop)(F:β->Hp->Prop)(H:Hp)(m:Rs β):Prop:=
 match m with
 | .bad=>False
 | .err x=>∀ H',Xp H H'->Er x H'
 | .ok b=>F b H
section
variable (K:PySem.W.Frag)(Er:Exc->Hp->Prop)(S:SC)(OO OO':List (List Xo))(σ:St)
noncomputable def FB {α:Type}(r:Enc α)(Q:VK)(a:α)(H:Hp):Prop:=∀ v H',Xp H H'->r K H' v a->Q v H'
noncomputable def FO {α:Type}(o:OE α)(Q:VK)(a:α)(H:Hp):Prop:=∀ v C H',Xp H H'->W (C::OO') H'->Xp (hid H OO) (hid H' (C::OO'))->o K (hid H' (C::OO')) v a C->Q v H'
noncomputable def FT (Q:Bool->Hp->Prop)(b:Bool)(H:Hp):Prop:=∀ H',Xp H H'->Q b H'
noncomputable def EvB {α:Type}(te:TE)(r:Enc α)(m:Rs α):Prop:=∀ H Q,W OO H->S.p (hid H OO)->PZ Er (FB K r Q) H m->te σ H Q
noncomputable def Ev {α:Type}(te:TE)(o:OE α)(m:Rs α):Prop:=∀ H Q,W OO H->S.p (hid H OO)->PZ Er (FO K OO OO' o Q) H m->te σ H Q
noncomputable def EvT (tt:TT)(m:Rs Bool):Prop:=∀ H Q,W OO H->S.p (hid H OO)->PZ Er (FT Q) H m->tt σ H Q
end
section
variable {K:PySem.W.Frag}{Er:Exc->Hp->Prop}{S:SC}{OO OO' OO2:List (List Xo)}{σ:St}{α β γ:Type}
theorem FB.tr {r:Enc α}{Q:VK}:∀a H H',Xp H H'->FB K r Q a H->FB K r Q a H':=λa H H' s h v H2 s2 q=>h v H2 (s.trans s2) q
theorem FO.tr {o:OE α}{Q:VK}:∀a H H',Xp H H'->FO K OO OO' o Q a H->FO K OO OO' o Q a H':=λa H H' s h v C H2 s2 w m q=>h v C H2 (s.trans s2) w ((Xh s).trans m) q
theorem FT.tr {Q:Bool->Hp->Prop}:∀b H H',Xp H H'->FT Q b H->FT Q b H':=λa H H' s h H2 s2=>h H2 (s.trans s2)
theorem EvB.run {te:TE}{r:Enc α}{m:Rs α}(he:EvB K Er S OO σ te r m){H:Hp}{Q:VK}(w:W OO H)(s:S.p (hid H OO)){f:α->Rs β}{F:β->Hp->Prop}(hF:∀b H H',Xp H H'->F b H->F b H')(P:PZ Er F H (m.bind f))
  (hk:∀a v H',Xp H H'->W OO H'->S.p (hid H' OO)->r K H' v a->PZ Er F H' (f a)->Q v H'):te σ H Q:=by
 refine he H Q w s ?_
 cases m with
 |bad=>exact P
 |err x=>exact P
 |ok a=>
  intro v H' s' hr
  refine hk a v H' s' (w.keep s') (S.mono _ _ (Xh s') s) hr ?_
  have P':PZ Er F H (f a):=P
  revert P'
  cases f a with
  |bad=>exact λz=>z
  |err x=>exact λz H2 s2=>z H2 (s'.trans s2)
  |ok b=>exact λz=>hF b H H' s' z
theorem EvT.run {tt:TT}{m:Rs Bool}(he:EvT Er S OO σ tt m){H:Hp}{Q:Bool->Hp->Prop}(w:W OO H)(s:S.p (hid H OO)){f:Bool->Rs β}{F:β->Hp->Prop}(hF:∀b H H',Xp H H'->F b H->F b H')(P:PZ Er F H (m.bind f))
  (hk:∀b H',Xp H H'->W OO H'->S.p (hid H' OO)->PZ Er F H' (f b)->Q b H'):tt σ H Q:=by
 refine he H Q w s ?_
 cases m with
 |bad=>exact P
 |err x=>exact P
 |ok a=>
  intro H' s'
  refine hk a H' s' (w.keep s') (S.mono _ _ (Xh s') s) ?_
  have P':PZ Er F H (f a):=P
  revert P'
  cases f a with
  |bad=>exact λz=>z
  |err x=>exact λz H2 s2=>z H2 (s'.trans s2)
  |ok b=>exact λz=>hF b H H' s' z
theorem Ev.toB {te:TE}{o:OE α}{r:Enc α}[z:FrzC o r]{m:Rs α}(he:Ev K Er S OO OO σ te o m):EvB K Er S OO σ te r m:=λH Q w s P=>by
 refine he H Q w s ?_
 cases m with
 |bad=>exact P
 |err x=>exact P
 |ok a=>exact λv C H' s' w' m' ho=>P v H' s' (z.frz ho Xu w'.cell)
theorem Ev.frz {te:TE}{o:OE α}{r:Enc α}[z:FrzC o r]{m:Rs α}(he:Ev K Er S OO OO' σ te o m):Ev K Er S OO OO' σ te (oF r) m:=λH Q w s P=>by
 refine he H Q w s ?_
 cases m with
 |bad=>exact P
 |err x=>exact P
 |ok a=>
  intro v C H' s' w' m' ho
  have hs:Xp (hid H' (C::OO')) (hid H' ([]::OO')):=Zh (Xp.refl _) λb hb=>by rw[Ip] at hb;rw[XE];simp[hb]
  refine P v [] H' s' w'.tail.nil (m'.trans hs) ⟨rfl,z.frz ho hs λc hc=>Y3 (w'.cell c hc) ?_⟩
  rw[Ip]
  have:=w'.nd
  rw[XE] at this
  intro hb
  exact(List.nodup_append.mp this).2.2 c.1 (List.mem_map.mpr ⟨c,hc,rfl⟩) c.1 hb rfl
theorem XD {r:Enc α}[z:MonoE r]{v:V}{a:α}(i:Nat)(hσ:σ[i]?=some (some v))(h:∀x,S.p x->r K x v a):EvB K Er S OO σ (JQ i) r (.ok a):=λH Q w s P=>
 ⟨v,hσ,P v H (Xp.refl _) (z.mono Xu (h _ s))⟩
theorem F0 {o:OE α}{r:Enc α}[z:FrzC o r]{v:V}{a:α}{C:List Xo}(i k:Nat)(hσ:σ[i]?=some (some v))(hk:OO[k]?=some C)(h:∀x,S.p x->o K x v a C):EvB K Er S OO σ (JQ i) r (.ok a):=λH Q w s P=>
 ⟨v,hσ,P v H (Xp.refl _) (z.frz (h _ s) Xu λc hc=>w.tr c (List.mem_flatten.mpr ⟨C,List.mem_of_getElem? hk,hc⟩))⟩
theorem XL:∀{OO:List (List Xo)}{k:Nat}{C:List Xo},OO[k]?=some C->(C::OO.set k []).flatten.Perm OO.flatten
 | [],_,_,h=>by simp at h
 |D::OO,0,C,h=>by simp at h;subst h;simp
 |D::OO,k+1,C,h=>by
  have:=XL (OO:=OO) (k:=k) (C:=C) (by simpa using h)
  simp only[List.set_cons_succ,List.flatten_cons] at this⊢
  refine List.Perm.trans ?_ (this.append_left D)
  rw[←List.append_assoc, ←List.append_assoc]
  exact List.perm_append_comm.append_right _
theorem Vt {OO OO':List (List Xo)}(h:OO'.flatten.Perm OO.flatten)(b:Addr):b∈fl OO'↔b∈fl OO:=(h.map (·.1)).mem_iff
theorem XB {H:Hp}{OO OO':List (List Xo)}(h:OO'.flatten.Perm OO.flatten):hid H OO'=hid H OO:=by
 funext b;unfold hid
 by_cases hb:b∈fl OO
 ·rw[if_pos hb,if_pos ((Vt h b).mpr hb)]
 ·rw[if_neg hb,if_neg λz=>hb ((Vt h b).mp z)]
theorem JT {o:OE α}{v:V}{a:α}{C:List Xo}(i k:Nat)(hσ:σ[i]?=some (some v))(hk:OO[k]?=some C)(h:∀x,S.p x->o K x v a C):Ev K Er S OO (OO.set k []) σ (JQ i) o (.ok a):=λH Q w s P=>by
 have hp:=XL hk
 exact⟨v,hσ,P v C H (Xp.refl _) (w.of hp) (by rw[XB hp];exact Xp.refl _) (by rw[XB hp];exact h _ s)⟩
theorem FC (n:Int):EvB K Er S OO σ (tC (.int n)) Xd (.ok n):=λH Q w s P=>P _ H (Xp.refl _) rfl
theorem PN (b:Bool):EvB K Er S OO σ (tC (.bl b)) XN (.ok b):=λH Q w s P=>P _ H (Xp.refl _) rfl
theorem Pj {o:OE α}:Ev K Er S OO OO σ (tC .non) (Ex o) (.ok none):=λH Q w s P=>P _ [] H (Xp.refl _) w.nil (by rw[Y6];exact Xp.refl _) ⟨rfl,rfl⟩
theorem Up {ta tb:TE}{g:Int->Int->V}{r:Enc β}{f:Int->Int->β}{ma mb:Rs Int}(hg:∀K H i j,r K H (g i j) (f i j))(ha:EvB K Er S OO σ ta Xd ma)(hb:EvB K Er S OO σ tb Xd mb):
  EvB K Er S OO σ (tOp (rI0 g) ta tb) r (ma.bind λa=>mb.bind λb=>.ok (f a b)):=λH Q w s P=>
 ha.run w s FB.tr P λa x H1 s1 w1 q1 r1 P1=>hb.run w1 q1 FB.tr P1 λb y H2 s2 w2 q2 r2 P2=>⟨a,b,r1,r2,P2 _ H2 (Xp.refl _) (hg K H2 a b)⟩
theorem KU {ta tb:TE}{Cc:Int->Int->Prop}{g:Int->Int->V}{r:Enc β}{f:Int->Int->Rs β}{ma mb:Rs Int}(hg:∀K H i j c,f i j= .ok c->Cc i j/\r K H (g i j) c)(he:∀i j x,f i j≠ .err x)
  (ha:EvB K Er S OO σ ta Xd ma)(hb:EvB K Er S OO σ tb Xd mb):
  EvB K Er S OO σ (tOp (rI Cc g) ta tb) r (ma.bind λa=>mb.bind λb=>f a b):=λH Q w s P=>
 ha.run w s FB.tr P λa x H1 s1 w1 q1 r1 P1=>hb.run w1 q1 FB.tr P1 λb y H2 s2 w2 q2 r2 P2=>by
  cases e:f a b with
  |bad=>rw[e] at P2;exact P2.elim
  |err x=>exact absurd e (he a b x)
  |ok c=>
   rw[e] at P2
   obtain⟨h1,h2⟩:=hg K H2 a b c e
   exact⟨a,b,r1,r2,h1,P2 _ H2 (Xp.refl _) h2⟩
noncomputable def Mp (a b:Int):Rs Int:=chk ((-(2^64)<a/\a<2^64)∨(-(2^64)<b/\b<2^64)) (.ok (a*b))
noncomputable def Pf (a b:Int):Rs Int:=chk (0<b) (.ok (a % b))
noncomputable def R0 (a b:Int):Rs Int:=chk (0<b/\b.natAbs.log2<9000) (.ok (a/b))
noncomputable def RO (a b:Int):Rs Int:=chk (0<=b/\b<=1000000/\a.natAbs<2^64) (.ok (a^b.toNat))
theorem YZ {c:Prop}[Decidable c]{m:Rs α}{a:α}(h:chk c m= .ok a):c/\m= .ok a:=by
 unfold chk at h;split at h
 ·exact⟨by assumption,h⟩
 ·cases h
theorem Qd {c:Prop}[Decidable c]{a:α}{x:Exc}:chk c (Rs.ok a)≠ .err x:=by
 unfold chk;split<;> exact λz=>nomatch z
theorem Ni {ta tb:TE}{ma mb:Rs Int}(ha:EvB K Er S OO σ ta Xd ma)(hb:EvB K Er S OO σ tb Xd mb):EvB K Er S OO σ (tOp (rI OM λi j=>.int (i*j)) ta tb) Xd (ma.bind λa=>mb.bind λb=>Mp a b):=
 KU (λK H i j c h=>by obtain⟨h1,h2⟩:=YZ h;cases h2;exact⟨h1,rfl⟩) (λi j x=>Qd) ha hb
theorem Of {ta tb:TE}{ma mb:Rs Int}(ha:EvB K Er S OO σ ta Xd ma)(hb:EvB K Er S OO σ tb Xd mb):EvB K Er S OO σ (tOp (rI (λ_ j=>0<j) λi j=>.int (i % j)) ta tb) Xd (ma.bind λa=>mb.bind λb=>Pf a b):=
 KU (λK H i j c h=>by obtain⟨h1,h2⟩:=YZ h;cases h2;exact⟨h1,rfl⟩) (λi j x=>Qd) ha hb
theorem Oa {ta tb:TE}{ma mb:Rs Int}(ha:EvB K Er S OO σ ta Xd ma)(hb:EvB K Er S OO σ tb Xd mb):EvB K Er S OO σ (tOp (rI (λ_ j=>0<j/\j.natAbs.log2<9000) λi j=>.int (i/j)) ta tb) Xd (ma.bind λa=>mb.bind λb=>R0 a b):=
 KU (λK H i j c h=>by obtain⟨h1,h2⟩:=YZ h;cases h2;exact⟨h1,rfl⟩) (λi j x=>Qd) ha hb
theorem Ol {ta tb:TE}{ma mb:Rs Int}(ha:EvB K Er S OO σ ta Xd ma)(hb:EvB K Er S OO σ tb Xd mb):EvB K Er S OO σ (tOp (rI R5 λi j=>.int (i^j.toNat)) ta tb) Xd (ma.bind λa=>mb.bind λb=>RO a b):=
 KU (λK H i j c h=>by obtain⟨h1,h2⟩:=YZ h;cases h2;exact⟨h1,rfl⟩) (λi j x=>Qd) ha hb
theorem B9 {ta tb:TE}{ma mb:Rs Int}(ha:EvB K Er S OO σ ta Xd ma)(hb:EvB K Er S OO σ tb Xd mb):EvB K Er S OO σ (tOp (rI0 λi j=>.int (i+j)) ta tb) Xd (ma.bind λa=>mb.bind λb=>.ok (a+b)):=Up (λ_ _ _ _=>rfl) ha hb
theorem Nk {ta tb:TE}{ma mb:Rs Int}(ha:EvB K Er S OO σ ta Xd ma)(hb:EvB K Er S OO σ tb Xd mb):EvB K Er S OO σ (tOp (rI0 λi j=>.int (i-j)) ta tb) Xd (ma.bind λa=>mb.bind λb=>.ok (a-b)):=Up (λ_ _ _ _=>rfl) ha hb
theorem MA {ta tb:TE}{ma mb:Rs Int}(ha:EvB K Er S OO σ ta Xd ma)(hb:EvB K Er S OO σ tb Xd mb):EvB K Er S OO σ (tOp (rI0 λi j=>.bl (decide (i<j))) ta tb) XN (ma.bind λa=>mb.bind λb=>.ok (decide (a<b))):=Up (λ_ _ _ _=>rfl) ha hb
theorem Px {ta tb:TE}{ma mb:Rs Int}(ha:EvB K Er S OO σ ta Xd ma)(hb:EvB K Er S OO σ tb Xd mb):EvB K Er S OO σ (tOp (rI0 λi j=>.bl (decide (i<=j))) ta tb) XN (ma.bind λa=>mb.bind λb=>.ok (decide (a<=b))):=Up (λ_ _ _ _=>rfl) ha hb
theorem Mt {ta tb:TE}{ma mb:Rs Int}(ha:EvB K Er S OO σ ta Xd ma)(hb:EvB K Er S OO σ tb Xd mb):EvB K Er S OO σ (tOp (rI0 λi j=>.bl (decide (j<i))) ta tb) XN (ma.bind λa=>mb.bind λb=>.ok (decide (b<a))):=Up (λ_ _ _ _=>rfl) ha hb
theorem NX {ta:TE}{ma:Rs Int}(ha:EvB K Er S OO σ ta Xd ma):EvB K Er S OO σ (tUn (rU λi=>.int (-i)) ta) Xd (ma.bind λa=>.ok (-a)):=λH Q w s P=>
 ha.run w s FB.tr P λa x H1 s1 w1 q1 r1 P1=>⟨a,r1,P1 _ H1 (Xp.refl _) rfl⟩
class Scal {α:Type}[DecidableEq α](r:Enc α):Prop where
 to:∀{K:PySem.W.Frag}{H H':Hp}{x y:V}{a b:α},r K H x a->r K H' y b->Sx x y=true/\decide (x=y)=decide (a=b)
instance:Scal Xd:=⟨fun {K H H' x y a b} h1 h2=>by cases(show x= .int a from h1);cases(show y= .int b from h2);exact⟨rfl,by simp⟩⟩
instance:Scal XN:=⟨fun {K H H' x y a b} h1 h2=>by cases(show x= .bl a from h1);cases(show y= .bl b from h2);exact⟨rfl,by simp⟩⟩
theorem Um [DecidableEq α]{r:Enc α}[z:Scal r][MonoE r]{ta tb:TE}{ma mb:Rs α}(ha:EvB K Er S OO σ ta r ma)(hb:EvB K Er S OO σ tb r mb):EvB K Er S OO σ (tOp rEq ta tb) XN (ma.bind λa=>mb.bind λb=>.ok (decide (a=b))):=λH Q w s P=>
 ha.run w s FB.tr P λa x H1 s1 w1 q1 r1 P1=>hb.run w1 q1 FB.tr P1 λb y H2 s2 w2 q2 r2 P2=>by
  obtain⟨h1,h2⟩:=z.to r1 r2
  exact⟨h1,P2 _ H2 (Xp.refl _) (by rw[h2];rfl)⟩
theorem HY [DecidableEq α]{r:Enc α}[z:Scal r][MonoE r]{ta tb:TE}{ma mb:Rs α}(ha:EvB K Er S OO σ ta r ma)(hb:EvB K Er S OO σ tb r mb):EvB K Er S OO σ (tOp rNe ta tb) XN (ma.bind λa=>mb.bind λb=>.ok (!decide (a=b))):=λH Q w s P=>
 ha.run w s FB.tr P λa x H1 s1 w1 q1 r1 P1=>hb.run w1 q1 FB.tr P1 λb y H2 s2 w2 q2 r2 P2=>by
  obtain⟨h1,h2⟩:=z.to r1 r2
  exact⟨h1,P2 _ H2 (Xp.refl _) (by rw[h2];rfl)⟩
theorem B8 [DecidableEq α]{r:Enc α}[z:MonoE r]{ta tb:TE}{ma mb:Rs α}(ha:EvB K Er S OO σ ta r ma)(hb:EvB K Er S OO σ tb r mb):EvB K Er S OO σ (tOp (RK K r) ta tb) XN (ma.bind λa=>mb.bind λb=>.ok (decide (a=b))):=λH Q w s P=>
 ha.run w s FB.tr P λa x H1 s1 w1 q1 r1 P1=>hb.run w1 q1 FB.tr P1 λb y H2 s2 w2 q2 r2 P2=>⟨a,b,z.mono s2 r1,r2,P2 _ H2 (Xp.refl _) rfl⟩
theorem Ik [DecidableEq α]{r:Enc α}[z:MonoE r]{ta tb:TE}{ma mb:Rs α}(ha:EvB K Er S OO σ ta r ma)(hb:EvB K Er S OO σ tb r mb):EvB K Er S OO σ (tOp (RI K r) ta tb) XN (ma.bind λa=>mb.bind λb=>.ok (!decide (a=b))):=λH Q w s P=>
 ha.run w s FB.tr P λa x H1 s1 w1 q1 r1 P1=>hb.run w1 q1 FB.tr P1 λb y H2 s2 w2 q2 r2 P2=>⟨a,b,z.mono s2 r1,r2,P2 _ H2 (Xp.refl _) rfl⟩
theorem Iv {te:TE}{m:Rs Bool}(h:EvB K Er S OO σ te XN m):EvT Er S OO σ (tB te) m:=λH Q w s P=>h H _ w s (by
 cases m with
 |bad=>exact P
 |err x=>exact P
 |ok a=>exact λv H' s' r=>⟨a,r,P H' s'⟩)
theorem XY {te:TE}{m:Rs Bool}(h:EvB K Er S OO σ te XN m):EvT Er S OO σ (Oy te) m:=Iv h
theorem NP {t:TT}{m:Rs Bool}(h:EvT Er S OO σ t m):EvT Er S OO σ (RS t) (m.bind λb=>.ok (!b)):=λH Q w s P=>h.run w s FT.tr P λb H1 s1 w1 q1 P1=>P1 H1 (Xp.refl _)
noncomputable def OQ (a b:Rs Bool):Rs Bool:=a.bind λx=>if x=true then b else .ok false
noncomputable def orR (a b:Rs Bool):Rs Bool:=a.bind λx=>if x=true then .ok true else b
theorem NI {t u:TT}{m n:Rs Bool}(h:EvT Er S OO σ t m)(k:EvT Er S OO σ u n):EvT Er S OO σ (RP t u) (OQ m n):=λH Q w s P=>h.run w s FT.tr P λb H1 s1 w1 q1 P1=>by
 cases b with
 |true=>rw[if_pos rfl] at P1⊢;exact k H1 Q w1 q1 P1
 |false=>exact P1 H1 (Xp.refl _)
theorem L6 {t u:TT}{m n:Rs Bool}(h:EvT Er S OO σ t m)(k:EvT Er S OO σ u n):EvT Er S OO σ (tOr t u) (orR m n):=λH Q w s P=>h.run w s FT.tr P λb H1 s1 w1 q1 P1=>by
 cases b with
 |true=>exact P1 H1 (Xp.refl _)
 |false=>exact k H1 Q w1 q1 P1
theorem LI {t u:TE}{m n:Rs Bool}(h:EvB K Er S OO σ t XN m)(k:EvB K Er S OO σ u XN n):EvB K Er S OO σ (NF t u) XN (OQ m n):=λH Q w s P=>h.run w s FB.tr P λb x H1 s1 w1 q1 r1 P1=>⟨b,r1,by
 cases b with
 |true=>rw[if_pos rfl] at P1⊢;exact k H1 Q w1 q1 P1
 |false=>exact P1 _ H1 (Xp.refl _) rfl⟩
theorem PF {c:TT}{ta tb:TE}{o:OE α}{mc:Rs Bool}{ma mb:Rs α}(hc:EvT Er S OO σ c mc)(ha:Ev K Er S OO OO' σ ta o ma)(hb:Ev K Er S OO OO' σ tb o mb):Ev K Er S OO OO' σ (tIf c ta tb) o (mc.bind λb=>if b=true then ma else mb):=λH Q w s P=>
 hc.run w s FO.tr P λb H1 s1 w1 q1 P1=>by
  cases b with
  |true=>rw[if_pos rfl] at P1⊢;exact ha H1 Q w1 q1 P1
  |false=>exact hb H1 Q w1 q1 P1
end
section
variable (K:PySem.W.Frag)(Er:Exc->Hp->Prop)(S:SC)(OO:List (List Xo))(σ:St)
noncomputable def FS {α:Type}(r:Enc α)(Q:VK)(a:α)(H:Hp):Prop:=∀ v H',Xp H H'->r K (hid H' OO) v a->Q v H'
noncomputable def EvS {α:Type}(te:TE)(r:Enc α)(m:Rs α):Prop:=∀ H Q,W OO H->S.p (hid H OO)->PZ Er (FS K OO r Q) H m->te σ H Q
noncomputable def rE {α:Type}(r:Enc α)(H:Hp)(v:V)(as:List α):Prop:=∃ p xs,v= .ref p/\H p=some (.lst xs)/\Paired (r K (hid H OO)) xs as
noncomputable def FL {α:Type}(r:Enc α)(Q:VK)(as:List α)(H:Hp):Prop:=∀ v H',Xp H H'->rE K OO r H' v as->Q v H'
noncomputable def EvL {α:Type}(te:TE)(r:Enc α)(m:Rs (List α)):Prop:=∀ H Q,W OO H->S.p (hid H OO)->PZ Er (FL K OO r Q) H m->te σ H Q
end
section
variable {K:PySem.W.Frag}{Er:Exc->Hp->Prop}{S:SC}{OO OO' OO2:List (List Xo)}{σ:St}{α β γ:Type}
theorem FS.tr {r:Enc α}{Q:VK}:∀a H H',Xp H H'->FS K OO r Q a H->FS K OO r Q a H':=λa H H' s h v H2 s2 q=>h v H2 (s.trans s2) q
theorem PZ.run {F:β->Hp->Prop}{f:α->Rs β}{H H':Hp}{a:α}{m:Rs α}(hm:m= .ok a)(hF:∀b H H',Xp H H'->F b H->F b H')(s:Xp H H')(P:PZ Er F H (m.bind f)):PZ Er F H' (f a):=by
 subst hm
 have P':PZ Er F H (f a):=P
 revert P'
 cases f a with
 |bad=>exact λz=>z
 |err x=>exact λz H2 s2=>z H2 (s.trans s2)
 |ok b=>exact λz=>hF b H H' s z
theorem EvS.run {te:TE}{r:Enc α}{m:Rs α}(he:EvS K Er S OO σ te r m){H:Hp}{Q:VK}(w:W OO H)(s:S.p (hid H OO)){f:α->Rs β}{F:β->Hp->Prop}(hF:∀b H H',Xp H H'->F b H->F b H')(P:PZ Er F H (m.bind f))
  (hk:∀a v H',Xp H H'->W OO H'->S.p (hid H' OO)->r K (hid H' OO) v a->PZ Er F H' (f a)->Q v H'):te σ H Q:=by
 refine he H Q w s ?_
 cases e:m with
 |bad=>rw[e] at P;exact P
 |err x=>rw[e] at P;exact P
 |ok a=>exact λv H' s' hr=>hk a v H' s' (w.keep s') (S.mono _ _ (Xh s') s) hr (PZ.run e hF s' P)
theorem EvL.run {te:TE}{r:Enc α}{m:Rs (List α)}(he:EvL K Er S OO σ te r m){H:Hp}{Q:VK}(w:W OO H)(s:S.p (hid H OO)){f:List α->Rs β}{F:β->Hp->Prop}(hF:∀b H H',Xp H H'->F b H->F b H')(P:PZ Er F H (m.bind f))
  (hk:∀a v H',Xp H H'->W OO H'->S.p (hid H' OO)->rE K OO r H' v a->PZ Er F H' (f a)->Q v H'):te σ H Q:=by
 refine he H Q w s ?_
 cases e:m with
 |bad=>rw[e] at P;exact P
 |err x=>rw[e] at P;exact P
 |ok a=>exact λv H' s' hr=>hk a v H' s' (w.keep s') (S.mono _ _ (Xh s') s) hr (PZ.run e hF s' P)
theorem PZ.imp {F G:β->Hp->Prop}{H:Hp}{m:Rs β}(P:PZ Er F H m)(h:∀b,m= .ok b->F b H->G b H):PZ Er G H m:=by
 cases m with
 |bad=>exact P
 |err x=>exact P
 |ok b=>exact h b rfl P
theorem EvS.ev {te:TE}{r:Enc α}{m:Rs α}(he:EvS K Er S OO σ te r m):Ev K Er S OO OO σ te (oF r) m:=λH Q w s P=>he H Q w s (P.imp λb _ h v H' s' q=>
 h v [] H' s' (w.keep s').nil (by rw[Y6];exact Xh s') ⟨rfl,by rw[Y6];exact q⟩)
theorem EvB.sh {te:TE}{r:Enc α}[z:FlatE r]{m:Rs α}(he:EvB K Er S OO σ te r m):EvS K Er S OO σ te r m:=λH Q w s P=>he H Q w s (P.imp λb _ h v H' s' q=>h v H' s' (z.flat (w.keep s').i q))
theorem Ev.sh {te:TE}{o:OE α}{r:Enc α}[z:FrzC o r]{m:Rs α}(he:Ev K Er S OO OO σ te o m):EvS K Er S OO σ te r m:=λH Q w s P=>he.frz H Q w s (P.imp λb _ h v C H' s' w' m' q=>by
 obtain⟨rfl,q⟩:=q
 rw[Y6] at q
 exact h v H' s' q)
theorem Zl {r:Enc α}{v:V}{a:α}(i:Nat)(hσ:σ[i]?=some (some v))(h:∀x,S.p x->r K x v a):EvS K Er S OO σ (JQ i) r (.ok a):=λH Q w s P=>⟨v,hσ,P v H (Xp.refl _) (h _ s)⟩
theorem EvS.ls {te:TE}{r:Enc α}{m:Rs (List α)}(he:EvS K Er S OO σ te (rV r) m):EvL K Er S OO σ te r m:=λH Q w s P=>he H Q w s (P.imp λb _ h v H' s' r9=>by obtain⟨p,xs,e,q,pr⟩:=r9;exact h v H' s' ⟨p,xs,e,Xu _ _ q,pr⟩)
theorem EvB.ls {te:TE}{r:Enc α}[z:FlatE r]{m:Rs (List α)}(he:EvB K Er S OO σ te (rV r) m):EvL K Er S OO σ te r m:=λH Q w s P=>he H Q w s (P.imp λb _ h v H' s' r9=>by obtain⟨p,xs,e,q,pr⟩:=r9;exact h v H' s' ⟨p,xs,e,q,Paired.imp2 (λ_ _ z'=>z.flat (w.keep s').i z') pr⟩)
theorem Ev.ls {te:TE}{r:Enc α}[z:MonoE r]{m:Rs (List α)}(he:Ev K Er S OO OO σ te (oL (oF r)) m):EvL K Er S OO σ te r m:=he.sh.ls
noncomputable def atR (as:List α)(i:Int):Rs α:=match atI as i with
 |some a=>.ok a
 |none=>.bad
theorem Gw {as:List α}{i:Int}{a:α}(h:atR as i= .ok a):atI as i=some a:=by
 unfold atR at h;split at h
 ·cases h;assumption
 ·cases h
theorem U1 {as:List α}{i:Int}{x:Exc}:atR as i≠ .err x:=by unfold atR;split<;> exact λz=>nomatch z
theorem Jz {F:V->α->Prop}{xs:List V}{as:List α}{i:Int}{a:α}(p:Paired F xs as)(h:atI as i=some a):∃x,atI xs i=some x/\F x a:=by
 unfold atI at h⊢
 rw[Paired.len p]
 cases e:ixN as.length i with
 |none=>rw[e] at h;cases h
 |some j=>
  rw[e] at h
  obtain⟨x,h1,h2⟩:=Paired.getR p h
  exact⟨x,h1,h2⟩
theorem PZ.okOf {F:β->Hp->Prop}{H:Hp}{m:Rs β}(he:∀x,m≠ .err x)(P:PZ Er F H m):∃b,m= .ok b/\F b H:=by
 cases m with
 |bad=>exact P.elim
 |err x=>exact absurd rfl (he x)
 |ok b=>exact⟨b,rfl,P⟩
theorem Vz {ta tb:TE}{r:Enc α}[z:MonoE r]{ma:Rs (List α)}{mb:Rs Int}(ha:EvB K Er S OO σ ta (rV r) ma)(hb:EvB K Er S OO σ tb Xd mb):EvB K Er S OO σ (tOp (BN K) ta tb) r (ma.bind λas=>mb.bind λi=>atR as i):=λH Q w s P=>
 ha.run w s FB.tr P λa x H1 s1 w1 q1 ⟨p,xs,e,q,pr⟩ P1=>hb.run w1 q1 FB.tr P1 λb y H2 s2 w2 q2 r2 P2=>by
  obtain⟨c,hc,P3⟩:=P2.okOf λx=>U1
  obtain⟨u,h1,h2⟩:=Jz pr (Gw hc)
  exact⟨p,xs,b,u,e,r2,SqL.of (s2 _ _ q),h1,P3 u H2 (Xp.refl _) (z.mono s2 h2)⟩
theorem Pu {ta tb:TE}{r:Enc α}[z:MonoE r]{ma:Rs (List α)}{mb:Rs Int}(ha:EvL K Er S OO σ ta r ma)(hb:EvB K Er S OO σ tb Xd mb):EvS K Er S OO σ (tOp (BN K) ta tb) r (ma.bind λas=>mb.bind λi=>atR as i):=λH Q w s P=>
 ha.run w s FS.tr P λa x H1 s1 w1 q1 ⟨p,xs,e,q,pr⟩ P1=>hb.run w1 q1 FS.tr P1 λb y H2 s2 w2 q2 r2 P2=>by
  obtain⟨c,hc,P3⟩:=P2.okOf λx=>U1
  obtain⟨u,h1,h2⟩:=Jz pr (Gw hc)
  exact⟨p,xs,b,u,e,r2,SqL.of (s2 _ _ q),h1,P3 u H2 (Xp.refl _) (z.mono (Xh s2) h2)⟩
theorem OI {ta tb:TE}{r:Enc α}[z:MonoE r]{ma:Rs (List α)}{mb:Rs Int}(ha:EvB K Er S OO σ ta (rPL r) ma)(hb:EvB K Er S OO σ tb Xd mb):EvB K Er S OO σ (tOp (FR K) ta tb) r (ma.bind λas=>mb.bind λi=>atR as i):=λH Q w s P=>
 ha.run w s FB.tr P λa x H1 s1 w1 q1 ⟨p,xs,e,q,pr⟩ P1=>hb.run w1 q1 FB.tr P1 λb y H2 s2 w2 q2 r2 P2=>by
  obtain⟨c,hc,P3⟩:=P2.okOf λx=>U1
  obtain⟨u,h1,h2⟩:=Jz pr (Gw hc)
  exact⟨p,xs,b,u,e,r2,SqT.of (s2 _ _ q),h1,P3 u H2 (Xp.refl _) (z.mono s2 h2)⟩
theorem FZ {ta:TE}{r:Enc α}{q:Enc β}{m:Rs (α×β)}(ha:EvB K Er S OO σ ta (rP2 r q) m):EvB K Er S OO σ (tOp (FR K) ta (tC (.int 0))) r (m.bind λp=>.ok p.1):=λH Q w s P=>
 ha.run w s FB.tr P λa x H1 s1 w1 q1 r9 P1=>by obtain⟨p,x,y,e,q,h1,h2⟩:=r9;exact⟨p,_,0,x,e,rfl,SqT.of q,rfl,P1 _ H1 (Xp.refl _) h1⟩
theorem F3 {ta:TE}{r:Enc α}{q:Enc β}{m:Rs (α×β)}(ha:EvB K Er S OO σ ta (rP2 r q) m):EvB K Er S OO σ (tOp (FR K) ta (tC (.int 1))) q (m.bind λp=>.ok p.2):=λH Q w s P=>
 ha.run w s FB.tr P λa x H1 s1 w1 q1 r9 P1=>by obtain⟨p,x,y,e,q,h1,h2⟩:=r9;exact⟨p,_,1,y,e,rfl,SqT.of q,rfl,P1 _ H1 (Xp.refl _) h2⟩
theorem M0 {ta:TE}{r:Enc α}{q:Enc β}{m:Rs (α×β)}(ha:EvS K Er S OO σ ta (rP2 r q) m):EvS K Er S OO σ (tOp (FR K) ta (tC (.int 0))) r (m.bind λp=>.ok p.1):=λH Q w s P=>
 ha.run w s FS.tr P λa x H1 s1 w1 q1 r9 P1=>by obtain⟨p,x,y,e,q,h1,h2⟩:=r9;exact⟨p,_,0,x,e,rfl,SqT.of (Xu _ _ q),rfl,P1 _ H1 (Xp.refl _) h1⟩
theorem MR {ta:TE}{r:Enc α}{q:Enc β}{m:Rs (α×β)}(ha:EvS K Er S OO σ ta (rP2 r q) m):EvS K Er S OO σ (tOp (FR K) ta (tC (.int 1))) q (m.bind λp=>.ok p.2):=λH Q w s P=>
 ha.run w s FS.tr P λa x H1 s1 w1 q1 r9 P1=>by obtain⟨p,x,y,e,q,h1,h2⟩:=r9;exact⟨p,_,1,y,e,rfl,SqT.of (Xu _ _ q),rfl,P1 _ H1 (Xp.refl _) h2⟩
theorem Jq {ta:TE}{r:Enc α}{m:Rs (List α)}(ha:EvB K Er S OO σ ta (rV r) m):EvB K Er S OO σ (tCB (UU K) (Xn ta YF)) Xd (m.bind λas=>.ok (as.length:Int)):=λH Q w s P=>
 ha.run w s FB.tr P λa x H1 s1 w1 q1 r9 P1=>by obtain⟨p,xs,e,q,pr⟩:=r9;exact⟨p,xs,by rw[e], .inl (SqL.of q),P1 _ H1 (Xp.refl _) (by rw[Paired.len pr];rfl)⟩
theorem DA {ta:TE}{r:Enc α}{m:Rs (List α)}(ha:EvB K Er S OO σ ta (rPL r) m):EvB K Er S OO σ (tCB (UU K) (Xn ta YF)) Xd (m.bind λas=>.ok (as.length:Int)):=λH Q w s P=>
 ha.run w s FB.tr P λa x H1 s1 w1 q1 r9 P1=>by obtain⟨p,xs,e,q,pr⟩:=r9;exact⟨p,xs,by rw[e], .inr (SqT.of q),P1 _ H1 (Xp.refl _) (by rw[Paired.len pr];rfl)⟩
theorem Me {r:Enc α}[z:MonoE r]{xs:List V}{as:List α}{H:Hp}{Q:VK}(w:W OO H)(pr:Paired (r K (hid H OO)) xs as)(P:FO K OO OO (oL (oF r)) Q as H):∀p,H p=none->Q (.ref p) (upd H p (.lst xs)):=λp hp=>by
 have hn:=JM (OO:=OO) hp (o:=.lst xs)
 refine P (.ref p) [(p, .lst xs)] _ (Xv hp _) (w.new hp rfl) hn ?_
 refine⟨p,xs,List.replicate as.length [],rfl,(P3.of (Paired.imp2 (λ_ _ h=>z.mono hn h) pr)).imp λ_ _ _ h=>h,by rw[Yo]⟩
theorem Paired.take' {F:α->β->Prop}:∀{l:List α}{m:List β} (n:Nat),Paired F l m->Paired F (l.take n) (m.take n)
 |_,_,0,_=>.nil
 |_,_,_+1, .nil=>.nil
 |_,_,n+1, .cons r t=>.cons r (Paired.take' n t)
theorem Paired.drop' {F:α->β->Prop}:∀{l:List α}{m:List β} (n:Nat),Paired F l m->Paired F (l.drop n) (m.drop n)
 |_,_,0,h=>h
 |_,_,_+1, .nil=>.nil
 |_,_,n+1, .cons _ t=>Paired.drop' n t
theorem Paired.rev' {F:α->β->Prop}:∀{l:List α}{m:List β},Paired F l m->Paired F l.reverse m.reverse
 |_,_, .nil=>.nil
 |_,_, .cons r t=>by rw[List.reverse_cons,List.reverse_cons];exact Paired.app (Paired.rev' t) (.cons r .nil)
theorem Paired.rep' {F:α->β->Prop}{l:List α}{m:List β}(h:Paired F l m):∀n:Nat,Paired F (List.replicate n l).flatten (List.replicate n m).flatten
 |0=>.nil
 |n+1=>by simp only[List.replicate_succ,List.flatten_cons];exact Paired.app h (Paired.rep' h n)
noncomputable def BF (as:List α)(lo hi:Option Int):List α:=(as.drop (HT.sIx as.length 0 lo)).take (HT.sIx as.length as.length hi-HT.sIx as.length 0 lo)
theorem UW {F:V->α->Prop}{xs:List V}{as:List α}(p:Paired F xs as)(lo hi:Option Int):Paired F (OJ xs lo hi) (BF as lo hi):=by
 unfold OJ BF;rw[Paired.len p];exact Paired.take' _ (Paired.drop' _ p)
noncomputable def FP (Q:Option Int->Hp->Prop)(a:Option Int)(H:Hp):Prop:=∀ H',Xp H H'->Q a H'
noncomputable def EvP (Er:Exc->Hp->Prop)(S:SC)(OO:List (List Xo))(σ:St)(t:TO)(m:Rs (Option Int)):Prop:=∀ H Q,W OO H->S.p (hid H OO)->PZ Er (FP Q) H m->t σ H Q
theorem EvP.run {t:TO}{m:Rs (Option Int)}(he:EvP Er S OO σ t m){H:Hp}{Q:Option Int->Hp->Prop}(w:W OO H)(s:S.p (hid H OO)){f:Option Int->Rs β}{F:β->Hp->Prop}(hF:∀b H H',Xp H H'->F b H->F b H')(P:PZ Er F H (m.bind f))
  (hk:∀a H',Xp H H'->W OO H'->S.p (hid H' OO)->PZ Er F H' (f a)->Q a H'):t σ H Q:=by
 refine he H Q w s ?_
 cases e:m with
 |bad=>rw[e] at P;exact P
 |err x=>rw[e] at P;exact P
 |ok a=>exact λH' s'=>hk a H' s' (w.keep s') (S.mono _ _ (Xh s') s) (PZ.run e hF s' P)
theorem LC:EvP Er S OO σ FQ (.ok none):=λH Q w s P=>P H (Xp.refl _)
theorem Ly {te:TE}{m:Rs Int}(h:EvB K Er S OO σ te Xd m):EvP Er S OO σ (N6 te) (m.bind λi=>.ok (some i)):=λH Q w s P=>
 h.run w s (λ_ _ _ s h H2 s2=>h H2 (s.trans s2)) P λa v H1 s1 w1 q1 r1 P1=>⟨a,r1,P1 H1 (Xp.refl _)⟩
theorem IE {te:TE}{tl th:TO}{r:Enc α}[z:MonoE r]{m:Rs (List α)}{ml mh:Rs (Option Int)}(he:EvL K Er S OO σ te r m)(hl:EvP Er S OO σ tl ml)(hh:EvP Er S OO σ th mh):
  Ev K Er S OO OO σ (tSl (Pm K) te tl th) (oL (oF r)) (m.bind λas=>ml.bind λlo=>mh.bind λhi=>.ok (BF as lo hi)):=λH Q w s P=>
 he.run w s FO.tr P λas x H1 s1 w1 q1 ⟨p,xs,e,q,pr⟩ P1=>hl.run w1 q1 FO.tr P1 λlo H2 s2 w2 q2 P2=>hh.run w2 q2 FO.tr P2 λhi H3 s3 w3 q3 P3'=>
  ⟨p,xs,e,SqL.of (s3 _ _ (s2 _ _ q)),Me w3 (UW (Paired.imp2 (λ_ _ h=>z.mono ((Xh s2).trans (Xh s3)) h) pr) lo hi) P3'⟩
theorem LL {ta:TE}{r:Enc α}{m:Rs (List α)}(ha:EvB K Er S OO σ ta (rL r) m):EvB K Er S OO σ (tCB (UU K) (Xn ta YF)) Xd (m.bind λas=>.ok (as.length:Int)):=λH Q w s P=>
 ha.run w s FB.tr P λa x H1 s1 w1 q1 r9 P1=>by obtain⟨p,xs,e,q,pr⟩:=r9;exact⟨p,xs,by rw[e], .inl q,P1 _ H1 (Xp.refl _) (by rw[Paired.len pr];rfl)⟩
theorem Nr {ta tb:TE}{ma:Rs (List Int)}{mb:Rs Int}(ha:EvB K Er S OO σ ta (rL Xd) ma)(hb:EvB K Er S OO σ tb Xd mb):EvB K Er S OO σ (tOp (BN K) ta tb) Xd (ma.bind λas=>mb.bind λi=>atR as i):=λH Q w s P=>
 ha.run w s FB.tr P λa x H1 s1 w1 q1 ⟨p,xs,e,q,pr⟩ P1=>hb.run w1 q1 FB.tr P1 λb y H2 s2 w2 q2 r2 P2=>by
  obtain⟨c,hc,P3⟩:=P2.okOf λx=>U1
  obtain⟨u,h1,h2⟩:=Jz pr (Gw hc)
  exact⟨p,xs,b,u,e,r2,s2.seq q,h1,P3 u H2 (Xp.refl _) h2⟩
theorem E5 {te:TE}{tl th:TO}{m:Rs (List Int)}{ml mh:Rs (Option Int)}(he:EvB K Er S OO σ te (rL Xd) m)(hl:EvP Er S OO σ tl ml)(hh:EvP Er S OO σ th mh):
  Ev K Er S OO OO σ (tSl (Pm K) te tl th) (oL (oF Xd)) (m.bind λas=>ml.bind λlo=>mh.bind λhi=>.ok (BF as lo hi)):=λH Q w s P=>
 he.run w s FO.tr P λas x H1 s1 w1 q1 ⟨p,xs,e,q,pr⟩ P1=>hl.run w1 q1 FO.tr P1 λlo H2 s2 w2 q2 P2=>hh.run w2 q2 FO.tr P2 λhi H3 s3 w3 q3 P3'=>
  ⟨p,xs,e,s3.seq (s2.seq q),Me w3 (UW (Paired.imp2 (λ_ _ h=>h) pr) lo hi) P3'⟩
noncomputable def Ld (as bs:List α):Rs (List α):=chk (as.length+bs.length<=sizeLine) (.ok (as++bs))
theorem BL {ta tb:TE}{r:Enc α}[z:MonoE r]{ma mb:Rs (List α)}(ha:EvL K Er S OO σ ta r ma)(hb:EvL K Er S OO σ tb r mb):Ev K Er S OO OO σ (tOp RG ta tb) (oL (oF r)) (ma.bind λas=>mb.bind λbs=>Ld as bs):=λH Q w s P=>
 ha.run w s FO.tr P λas x H1 s1 w1 q1 ⟨p,xs,e,q,pr⟩ P1=>hb.run w1 q1 FO.tr P1 λbs y H2 s2 w2 q2 ⟨p',ys,e',q',pr'⟩ P2=>by
  obtain⟨c,hc,P3⟩:=P2.okOf λx=>Qd
  obtain⟨h1,h2⟩:=YZ hc
  cases h2
  exact⟨p,p',xs,ys,e,e',s2 _ _ q,q',by rw[Paired.len pr,Paired.len pr'];exact h1,Me w2 (Paired.app (Paired.imp2 (λ_ _ h=>z.mono (Xh s2) h) pr) pr') P3⟩
noncomputable def Eu (as:List α)(n:Int):Rs (List α):=chk (-(2^63)<=n/\n<2^63/\as.length*n.toNat<=sizeLine) (.ok (List.replicate n.toNat as).flatten)
theorem LR {ta tb:TE}{r:Enc α}[z:MonoE r]{ma:Rs (List α)}{mb:Rs Int}(ha:EvL K Er S OO σ ta r ma)(hb:EvB K Er S OO σ tb Xd mb):Ev K Er S OO OO σ (tOp R9 ta tb) (oL (oF r)) (ma.bind λas=>mb.bind λn=>Eu as n):=λH Q w s P=>
 ha.run w s FO.tr P λas x H1 s1 w1 q1 ⟨p,xs,e,q,pr⟩ P1=>hb.run w1 q1 FO.tr P1 λn y H2 s2 w2 q2 r2 P2=>by
  obtain⟨c,hc,P3⟩:=P2.okOf λx=>Qd
  obtain⟨⟨h0,h1,h3⟩,h2⟩:=YZ hc
  cases h2
  exact⟨p,n,xs,e,r2,s2 _ _ q,h0,h1,by rw[Paired.len pr];exact h3,Me w2 (Paired.rep' (Paired.imp2 (λ_ _ h=>z.mono (Xh s2) h) pr) _) P3⟩
theorem NC {ta:TE}{r:Enc α}[z:MonoE r]{ma:Rs (List α)}(ha:EvL K Er S OO σ ta r ma):Ev K Er S OO OO σ (tCB (KQ K) (Xn ta YF)) (oL (oF r)) (ma.bind λas=>.ok as):=λH Q w s P=>
 ha.run w s FO.tr P λas x H1 s1 w1 q1 r9 P1=>by obtain⟨p,xs,e,q,pr⟩:=r9;exact⟨p,xs,by rw[e], .inl (SqL.of q),Me w1 pr P1⟩
noncomputable def Us (lo hi:Int):List Int:=(List.range (hi-lo).toNat).map λ(i:Nat)=>lo+(i:Int)
theorem Zi {o:OE α}:Ev K Er S OO OO σ (BG YF) (oL o) (.ok []):=λH Q w s P=>⟨Nat.zero_le _,λp hp=>P (.ref p) [(p, .lst [])] _ (Xv hp _) (w.new hp rfl) (JM hp) ⟨p,[],[],rfl, .nil,rfl⟩⟩
noncomputable def FA {α:Type}(K:PySem.W.Frag)(OO:List (List Xo))(r:Enc α)(Q:List V->Hp->Prop)(as:List α)(H:Hp):Prop:=∀ vs H',Xp H H'->Paired (r K (hid H' OO)) vs as->Q vs H'
noncomputable def EvA {α:Type}(K:PySem.W.Frag)(Er:Exc->Hp->Prop)(S:SC)(OO:List (List Xo))(σ:St)(t:TA)(r:Enc α)(m:Rs (List α)):Prop:=∀ H Q,W OO H->S.p (hid H OO)->PZ Er (FA K OO r Q) H m->t σ H Q
theorem Uc {r:Enc α}:EvA K Er S OO σ YF r (.ok []):=λH Q w s P=>P [] H (Xp.refl _) .nil
theorem QB {te:TE}{t:TA}{r:Enc α}[z:MonoE r]{m:Rs α}{n:Rs (List α)}(he:EvS K Er S OO σ te r m)(ht:EvA K Er S OO σ t r n):EvA K Er S OO σ (Xn te t) r (m.bind λa=>n.bind λas=>.ok (a::as)):=λH Q w s P=>
 he.run w s (λb H H' s h vs H2 s2 p=>h vs H2 (s.trans s2) p) P λa x H1 s1 w1 q1 r1 P1=>by
  refine ht H1 _ w1 q1 ?_
  cases e:n with
  |bad=>rw[e] at P1;exact P1
  |err x=>rw[e] at P1;exact P1
  |ok as=>rw[e] at P1;exact λvs H2 s2 p=>P1 (x::vs) H2 s2 (.cons (z.mono (Xh s2) r1) p)
theorem U6 {t:TA}{r:Enc α}[z:MonoE r]{m:Rs (List α)}(h:EvA K Er S OO σ t r m):Ev K Er S OO OO σ (BG t) (oL (oF r)) (m.bind λas=>chk (as.length<=sizeLine) (.ok as)):=λH Q w s P=>by
 refine h H _ w s ?_
 cases e:m with
 |bad=>rw[e] at P;exact P
 |err x=>rw[e] at P;exact P
 |ok as=>
  rw[e] at P
  intro vs H1 s1 p
  obtain⟨c,hc,P3⟩:=PZ.okOf (λx=>Qd) (show PZ Er _ H (chk (as.length<=sizeLine) (.ok as)) from P)
  obtain⟨h1,h2⟩:=YZ hc
  cases h2
  exact⟨by rw[Paired.len p];exact h1,Me (w.keep s1) p (FO.tr _ _ _ s1 P3)⟩
theorem DE {t:TA}{r:Enc α}[z:MonoE r]{m:Rs (List α)}(h:EvA K Er S OO σ t r m):EvS K Er S OO σ (Mm t) (rPL r) (m.bind λas=>chk (as.length<=sizeLine) (.ok as)):=λH Q w s P=>by
 refine h H _ w s ?_
 cases e:m with
 |bad=>rw[e] at P;exact P
 |err x=>rw[e] at P;exact P
 |ok as=>
  rw[e] at P
  intro vs H1 s1 p
  obtain⟨c,hc,P3⟩:=PZ.okOf (λx=>Qd) (show PZ Er _ H (chk (as.length<=sizeLine) (.ok as)) from P)
  obtain⟨h1,h2⟩:=YZ hc
  cases h2
  have w1:=w.keep s1
  refine⟨by rw[Paired.len p];exact h1,λa ha=>P3 _ _ (s1.trans (Xv ha _)) ⟨a,vs,rfl,QP w1 ha,Paired.imp2 (λ_ _ q=>z.mono (Xh (Xv ha _)) q) p⟩⟩
theorem V7 {ta tb:TE}{r:Enc α}{q:Enc β}[z:MonoE r][y:MonoE q]{ma:Rs α}{mb:Rs β}(ha:EvS K Er S OO σ ta r ma)(hb:EvS K Er S OO σ tb q mb):EvS K Er S OO σ (Mm (Xn ta (Xn tb YF))) (rP2 r q) (ma.bind λa=>mb.bind λb=>.ok (a,b)):=λH Q w s P=>
 ha.run w s FS.tr P λa x H1 s1 w1 q1 r1 P1=>hb.run w1 q1 FS.tr P1 λb y' H2 s2 w2 q2 r2 P2=>
  ⟨by show 2<=sizeLine;decide,λp hp=>P2 _ _ (Xv hp _) ⟨p,x,y',rfl,QP w2 hp,z.mono ((Xh s2).trans (Xh (Xv hp _))) r1,y.mono (Xh (Xv hp _)) r2⟩⟩
theorem Ua {ta tb tc:TE}{r:Enc α}{q:Enc β}{t:Enc γ}[z:MonoE r][y:MonoE q][x:MonoE t]{ma:Rs α}{mb:Rs β}{mc:Rs γ}(ha:EvS K Er S OO σ ta r ma)(hb:EvS K Er S OO σ tb q mb)(hc:EvS K Er S OO σ tc t mc):
  EvS K Er S OO σ (Mm (Xn ta (Xn tb (Xn tc YF)))) (rP3 r q t) (ma.bind λa=>mb.bind λb=>mc.bind λc=>.ok (a,b,c)):=λH Q w s P=>
 ha.run w s FS.tr P λa x' H1 s1 w1 q1 r1 P1=>hb.run w1 q1 FS.tr P1 λb y' H2 s2 w2 q2 r2 P2=>hc.run w2 q2 FS.tr P2 λc z' H3 s3 w3 q3 r3 P3=>
  ⟨by show 3<=sizeLine;decide,λp hp=>P3 _ _ (Xv hp _) ⟨p,x',y',z',rfl,QP w3 hp,z.mono (((Xh s2).trans (Xh s3)).trans (Xh (Xv hp _))) r1,y.mono ((Xh s3).trans (Xh (Xv hp _))) r2,x.mono (Xh (Xv hp _)) r3⟩⟩
end
section
variable {K:PySem.W.Frag}{Er:Exc->Hp->Prop}{S:SC}{OO OO' OO2:List (List Xo)}{σ:St}{α β γ ρ ι:Type}{α1 α2 α3 α4 α5 α6:Type}
noncomputable def noE (m:Rs α):Rs α:=match m with
 | .ok a=>.ok a
 |_=>.bad
theorem UO {m:Rs α}{a:α}(h:noE m= .ok a):m= .ok a:=by
 cases m with
 |ok b=>exact h
 |bad=>cases h
 |err x=>cases h
theorem Ut {m:Rs α}{x:Exc}:noE m≠ .err x:=by cases m<;> exact λz=>nomatch z
noncomputable def FF (K:PySem.W.Frag)(o:OE α)(Q:VK)(a:α)(H:Hp):Prop:=∀ v C H',W [C] H'->Xp H (hid H' [C])->o K (hid H' [C]) v a C->Q v H'
noncomputable def sp1 (r1:Enc α1)(o:OE ρ)(f:α1->Rs ρ)(K:PySem.W.Frag):Sp:=λvs H Q _=>∃ v1 a1 b,vs=[v1]/\r1 K H v1 a1/\f a1= .ok b/\FF K o Q b H
noncomputable def sp2 (r1:Enc α1)(r2:Enc α2)(o:OE ρ)(f:α1->α2->Rs ρ)(K:PySem.W.Frag):Sp:=λvs H Q _=>∃ v1 v2 a1 a2 b,vs=[v1,v2]/\r1 K H v1 a1/\r2 K H v2 a2/\f a1 a2= .ok b/\FF K o Q b H
noncomputable def sp3 (r1:Enc α1)(r2:Enc α2)(r3:Enc α3)(o:OE ρ)(f:α1->α2->α3->Rs ρ)(K:PySem.W.Frag):Sp:=λvs H Q _=>∃ v1 v2 v3 a1 a2 a3 b,vs=[v1,v2,v3]/\r1 K H v1 a1/\r2 K H v2 a2/\r3 K H v3 a3/\f a1 a2 a3= .ok b/\FF K o Q b H
noncomputable def sp4 (r1:Enc α1)(r2:Enc α2)(r3:Enc α3)(r4:Enc α4)(o:OE ρ)(f:α1->α2->α3->α4->Rs ρ)(K:PySem.W.Frag):Sp:=λvs H Q _=>∃ v1 v2 v3 v4 a1 a2 a3 a4 b,vs=[v1,v2,v3,v4]/\r1 K H v1 a1/\r2 K H v2 a2/\r3 K H v3 a3/\r4 K H v4 a4/\f a1 a2 a3 a4= .ok b/\FF K o Q b H
noncomputable def sp5 (r1:Enc α1)(r2:Enc α2)(r3:Enc α3)(r4:Enc α4)(r5:Enc α5)(o:OE ρ)(f:α1->α2->α3->α4->α5->Rs ρ)(K:PySem.W.Frag):Sp:=λvs H Q _=>∃ v1 v2 v3 v4 v5 a1 a2 a3 a4 a5 b,vs=[v1,v2,v3,v4,v5]/\r1 K H v1 a1/\r2 K H v2 a2/\r3 K H v3 a3/\r4 K H v4 a4/\r5 K H v5 a5/\f a1 a2 a3 a4 a5= .ok b/\FF K o Q b H
theorem Re {C:List Xo}{H H':Hp}(w:W OO H)(w':W [C] H')(m':Xp H (hid H' [C])):W (C::OO) H'/\Xp (hid H OO) (hid H' (C::OO))/\Bq (hid H' [C]) (hid H' (C::OO)):=by
 have s:Xp H H':=m'.trans Xu
 have f1:fl [C]=C.map (·.1):=by simp[fl]
 have hd:∀b,b∈fl OO->b∉C.map (·.1):=λb hb hc=>by
  obtain⟨u,hu⟩:=Bo hb
  exact(XZ (m' _ _ (w.tr _ hu))).2 (by rw[f1];exact hc)
 have w2:W (C::OO) H':=by
  refine⟨λc hc=>?_,?_,λc hc=>?_⟩
  ·rw[List.flatten_cons,List.mem_append] at hc
   rcases hc with hc |hc
   ·exact w'.tr c (by simp[hc])
   ·exact s _ _ (w.tr c hc)
  ·rw[XE]
   refine List.nodup_append.mpr ⟨by rw[←f1];exact w'.nd,w.nd,λa ha b hb e=>?_⟩
   subst e;exact hd a hb ha
  ·rw[List.flatten_cons,List.mem_append] at hc
   rcases hc with hc |hc
   ·exact w'.mu c (by simp[hc])
   ·exact w.mu c hc
 refine⟨w2,λb u q=>?_,λb u q i=>?_⟩
 ·obtain⟨q1,q2⟩:=XZ q
  obtain⟨q3,q4⟩:=XZ (m' _ _ q1)
  refine Y3 q3 ?_
  rw[XE,List.mem_append]
  exact λz=>z.elim (λz=>q4 (by rw[f1];exact z)) q2
 ·exact w2.i b u (XZ q).1 i
theorem JV {o:OE α}[z:FlatO o]{Q:VK}{b:α}{H:Hp}(w:W OO H)(P:FO K OO OO o Q b H):FF K o Q b H:=λv C H' w' m' ho=>by
 obtain⟨w2,h2,h3⟩:=Re w w' m'
 exact P v C H' (m'.trans Xu) w2 h2 (z.flat h3 ho)
theorem Kl {ta:TE}{r1:Enc α1}{o:OE ρ}[FlatO o]{f:α1->Rs ρ}{ma:Rs α1}(ha:EvB K Er S OO σ ta r1 ma):Ev K Er S OO OO σ (Qj (sp1 r1 o f K) [] E0 (Xn ta YF)) o (ma.bind λa=>noE (f a)):=λH Q w s P=>
 ha.run w s FO.tr P λa x H1 s1 w1 q1 r1 P1=>by
  obtain⟨b,hb,P2⟩:=P1.okOf λx=>Ut
  exact⟨x,a,b,rfl,r1,UO hb,JV w1 P2⟩
theorem Dy {ta tb:TE}{r1:Enc α1}{r2:Enc α2}[z1:MonoE r1]{o:OE ρ}[FlatO o]{f:α1->α2->Rs ρ}{ma:Rs α1}{mb:Rs α2}(ha:EvB K Er S OO σ ta r1 ma)(hb:EvB K Er S OO σ tb r2 mb):
  Ev K Er S OO OO σ (Qj (sp2 r1 r2 o f K) [] E0 (Xn ta (Xn tb YF))) o (ma.bind λa=>mb.bind λb=>noE (f a b)):=λH Q w s P=>
 ha.run w s FO.tr P λa x H1 s1 w1 q1 r1 P1=>hb.run w1 q1 FO.tr P1 λb y H2 s2 w2 q2 r2 P2=>by
  obtain⟨c,hc,P3⟩:=P2.okOf λx=>Ut
  exact⟨x,y,a,b,c,rfl,z1.mono s2 r1,r2,UO hc,JV w2 P3⟩
theorem KG {ta tb tc:TE}{r1:Enc α1}{r2:Enc α2}{r3:Enc α3}[z1:MonoE r1][z2:MonoE r2]{o:OE ρ}[FlatO o]{f:α1->α2->α3->Rs ρ}{ma:Rs α1}{mb:Rs α2}{mc:Rs α3}(ha:EvB K Er S OO σ ta r1 ma)(hb:EvB K Er S OO σ tb r2 mb)(hc:EvB K Er S OO σ tc r3 mc):
  Ev K Er S OO OO σ (Qj (sp3 r1 r2 r3 o f K) [] E0 (Xn ta (Xn tb (Xn tc YF)))) o (ma.bind λa=>mb.bind λb=>mc.bind λc=>noE (f a b c)):=λH Q w s P=>
 ha.run w s FO.tr P λa x H1 s1 w1 q1 r1 P1=>hb.run w1 q1 FO.tr P1 λb y H2 s2 w2 q2 r2 P2=>hc.run w2 q2 FO.tr P2 λc z H3 s3 w3 q3 r3 P3=>by
  obtain⟨d,hd,P4⟩:=P3.okOf λx=>Ut
  exact⟨x,y,z,a,b,c,d,rfl,z1.mono (s2.trans s3) r1,z2.mono s3 r2,r3,UO hd,JV w3 P4⟩
theorem Lb {ta tb tc td:TE}{r1:Enc α1}{r2:Enc α2}{r3:Enc α3}{r4:Enc α4}[z1:MonoE r1][z2:MonoE r2][z3:MonoE r3]{o:OE ρ}[FlatO o]{f:α1->α2->α3->α4->Rs ρ}{ma:Rs α1}{mb:Rs α2}{mc:Rs α3}{md:Rs α4}(ha:EvB K Er S OO σ ta r1 ma)(hb:EvB K Er S OO σ tb r2 mb)(hc:EvB K Er S OO σ tc r3 mc)(hd:EvB K Er S OO σ td r4 md):
  Ev K Er S OO OO σ (Qj (sp4 r1 r2 r3 r4 o f K) [] E0 (Xn ta (Xn tb (Xn tc (Xn td YF))))) o (ma.bind λa=>mb.bind λb=>mc.bind λc=>md.bind λd=>noE (f a b c d)):=λH Q w s P=>
 ha.run w s FO.tr P λa x H1 s1 w1 q1 r1 P1=>hb.run w1 q1 FO.tr P1 λb y H2 s2 w2 q2 r2 P2=>hc.run w2 q2 FO.tr P2 λc z H3 s3 w3 q3 r3 P3=>hd.run w3 q3 FO.tr P3 λd u H4 s4 w4 q4 r4 P4=>by
  obtain⟨e,he,P5⟩:=P4.okOf λx=>Ut
  exact⟨x,y,z,u,a,b,c,d,e,rfl,z1.mono (s2.trans (s3.trans s4)) r1,z2.mono (s3.trans s4) r2,z3.mono s4 r3,r4,UO he,JV w4 P5⟩
theorem IF {ta tb tc td te:TE}{r1:Enc α1}{r2:Enc α2}{r3:Enc α3}{r4:Enc α4}{r5:Enc α5}[z1:MonoE r1][z2:MonoE r2][z3:MonoE r3][z4:MonoE r4]{o:OE ρ}[FlatO o]{f:α1->α2->α3->α4->α5->Rs ρ}{ma:Rs α1}{mb:Rs α2}{mc:Rs α3}{md:Rs α4}{me:Rs α5}(ha:EvB K Er S OO σ ta r1 ma)(hb:EvB K Er S OO σ tb r2 mb)(hc:EvB K Er S OO σ tc r3 mc)(hd:EvB K Er S OO σ td r4 md)(he:EvB K Er S OO σ te r5 me):
  Ev K Er S OO OO σ (Qj (sp5 r1 r2 r3 r4 r5 o f K) [] E0 (Xn ta (Xn tb (Xn tc (Xn td (Xn te YF)))))) o (ma.bind λa=>mb.bind λb=>mc.bind λc=>md.bind λd=>me.bind λe=>noE (f a b c d e)):=λH Q w s P=>
 ha.run w s FO.tr P λa x H1 s1 w1 q1 r1 P1=>hb.run w1 q1 FO.tr P1 λb y H2 s2 w2 q2 r2 P2=>hc.run w2 q2 FO.tr P2 λc z H3 s3 w3 q3 r3 P3=>hd.run w3 q3 FO.tr P3 λd u H4 s4 w4 q4 r4 P4=>he.run w4 q4 FO.tr P4 λe t H5 s5 w5 q5 r5 P5=>by
  obtain⟨g,hg,P6⟩:=P5.okOf λx=>Ut
  exact⟨x,y,z,u,t,a,b,c,d,e,g,rfl,z1.mono (s2.trans (s3.trans (s4.trans s5))) r1,z2.mono (s3.trans (s4.trans s5)) r2,z3.mono (s4.trans s5) r3,z4.mono s5 r4,r5,UO hg,JV w5 P6⟩
structure Jn (γ ι:Type) where
 oo:ι->List (List Xo)
 ss:ι->St
 sc:γ->ι->SC
inductive Ctl (ρ γ:Type) where
 |ret (r:ρ) |nx (g:γ)
noncomputable def FTd (K:PySem.W.Frag)(o:OE ρ)(D:Ends)(r:ρ)(h:Hp):Prop:=∀ v C OO' H',W (C::OO') H'->Xp h (hid H' (C::OO'))->o K (hid H' (C::OO')) v r C->D.rt v H'
noncomputable def FNd (J:Jn γ ι)(D:Ends)(g:γ)(h:Hp):Prop:=∀ x H',W (J.oo x) H'->Xp h (hid H' (J.oo x))->(J.sc g x).p (hid H' (J.oo x))->D.nx (J.ss x) H'
noncomputable def FCd (K:PySem.W.Frag)(o:OE ρ)(J:Jn γ ι)(D:Ends)(c:Ctl ρ γ)(h:Hp):Prop:=match c with
 | .ret r=>FTd K o D r h
 | .nx g=>FNd J D g h
class FdOk (Fd:Ends->β->Hp->Prop):Prop where
 tr:∀D b h h',Xp h h'->Fd D b h->Fd D b h'
instance {o:OE ρ}:FdOk (FTd K o):=⟨λD b h h' s q v C O H' w m x=>q v C O H' w (s.trans m) x⟩
instance {J:Jn γ ι}:FdOk (FNd J):=⟨λD b h h' s q x H' w m y=>q x H' w (s.trans m) y⟩
instance {o:OE ρ}{J:Jn γ ι}:FdOk (FCd K o J):=⟨λD b h h' s q=>by
 cases b with
 |ret r=>exact λv C O H' w m x=>q v C O H' w (s.trans m) x
 |nx g=>exact λx H' w m y=>q x H' w (s.trans m) y⟩
theorem PZ.tr {F:β->Hp->Prop}(hF:∀b H H',Xp H H'->F b H->F b H'){H H':Hp}{m:Rs β}(s:Xp H H')(P:PZ Er F H m):PZ Er F H' m:=by
 cases m with
 |bad=>exact P
 |err x=>exact λH2 s2=>P H2 (s.trans s2)
 |ok b=>exact hF b H H' s P
noncomputable def Sv (Er:Exc->Hp->Prop)(S:SC)(OO:List (List Xo))(σ:St)(t:TS)(Fd:Ends->β->Hp->Prop)(m:Rs β):Prop:=∀ H D,W OO H->S.p (hid H OO)->PZ Er (Fd D) (hid H OO) m->t D σ H
variable {Fd:Ends->β->Hp->Prop}[fd:FdOk Fd]{u:TS}
theorem Ev.st {te:TE}{o:OE α}{m:Rs α}(he:Ev K Er S OO OO' σ te o m){H:Hp}{D:Ends}{Q:VK}(w:W OO H)(s:S.p (hid H OO)){f:α->Rs β}(P:PZ Er (Fd D) (hid H OO) (m.bind f))
  (hk:∀a v C H',W (C::OO') H'->S.p (hid H' (C::OO'))->o K (hid H' (C::OO')) v a C->PZ Er (Fd D) (hid H' (C::OO')) (f a)->Q v H'):te σ H Q:=by
 refine he H Q w s ?_
 cases m with
 |bad=>exact P
 |err x=>exact λH' s'=>P H' (Xu.trans s')
 |ok a=>exact λv C H' s' w' m' ho=>hk a v C H' w' (S.mono _ _ m' s) ho (PZ.tr (fd.tr D) m' P)
theorem EvB.st {te:TE}{r:Enc α}{m:Rs α}(he:EvB K Er S OO σ te r m){H:Hp}{D:Ends}{Q:VK}(w:W OO H)(s:S.p (hid H OO)){f:α->Rs β}(P:PZ Er (Fd D) (hid H OO) (m.bind f))
  (hk:∀a v H',Xp H H'->W OO H'->S.p (hid H' OO)->r K H' v a->PZ Er (Fd D) (hid H' OO) (f a)->Q v H'):te σ H Q:=by
 refine he H Q w s ?_
 cases m with
 |bad=>exact P
 |err x=>exact λH' s'=>P H' (Xu.trans s')
 |ok a=>exact λv H' s' hr=>hk a v H' s' (w.keep s') (S.mono _ _ (Xh s') s) hr (PZ.tr (fd.tr D) (Xh s') P)
theorem EvS.st {te:TE}{r:Enc α}{m:Rs α}(he:EvS K Er S OO σ te r m){H:Hp}{D:Ends}{Q:VK}(w:W OO H)(s:S.p (hid H OO)){f:α->Rs β}(P:PZ Er (Fd D) (hid H OO) (m.bind f))
  (hk:∀a v H',Xp H H'->W OO H'->S.p (hid H' OO)->r K (hid H' OO) v a->PZ Er (Fd D) (hid H' OO) (f a)->Q v H'):te σ H Q:=by
 refine he H Q w s ?_
 cases m with
 |bad=>exact P
 |err x=>exact λH' s'=>P H' (Xu.trans s')
 |ok a=>exact λv H' s' hr=>hk a v H' s' (w.keep s') (S.mono _ _ (Xh s') s) hr (PZ.tr (fd.tr D) (Xh s') P)
theorem EvT.st {tt:TT}{m:Rs Bool}(he:EvT Er S OO σ tt m){H:Hp}{D:Ends}{Q:Bool->Hp->Prop}(w:W OO H)(s:S.p (hid H OO)){f:Bool->Rs β}(P:PZ Er (Fd D) (hid H OO) (m.bind f))
  (hk:∀b H',W OO H'->S.p (hid H' OO)->PZ Er (Fd D) (hid H' OO) (f b)->Q b H'):tt σ H Q:=by
 refine he H Q w s ?_
 cases m with
 |bad=>exact P
 |err x=>exact λH' s'=>P H' (Xu.trans s')
 |ok a=>exact λH' s'=>hk a H' (w.keep s') (S.mono _ _ (Xh s') s) (PZ.tr (fd.tr D) (Xh s') P)
theorem set_set {OO:List (List Xo)}{k:Nat}{C:List Xo}:(OO.set k C).set k []=OO.set k []:=by simp
theorem SN {C:List Xo}{H:Hp}{k:Nat}(w:W (C::OO) H)(hk:k<OO.length):W (OO.set k C) H/\Xp (hid H (C::OO)) (hid H (OO.set k C)):=by
 have h1:=XL (OO:=OO) (k:=k) (C:=OO[k]) (by simp[hk])
 have h2:=XL (OO:=OO.set k C) (k:=k) (C:=C) (by simp[hk])
 rw[set_set] at h2
 have h3:(OO.set k C).flatten.Perm (C++(OO.set k []).flatten):=by simpa using h2.symm
 have h4:(C::OO).flatten.Perm (C++(OO[k]++(OO.set k []).flatten)):=by
  rw[List.flatten_cons];exact(by simpa using h1.symm:OO.flatten.Perm (OO[k]++(OO.set k []).flatten)).append_left C
 have h5:(C++(OO.set k []).flatten).Sublist (C++(OO[k]++(OO.set k []).flatten)):=List.Sublist.append (List.Sublist.refl _) (List.sublist_append_right _ _)
 have w1:W [C++(OO[k]++(OO.set k []).flatten)] H:=w.of (by simpa using h4.symm)
 have w2:W [C++(OO.set k []).flatten] H:=w1.sub (by simpa using h5)
 refine⟨w2.of (by simpa using h3),Zh (Xp.refl _) λb hb=>?_⟩
 obtain⟨o,ho⟩:=Bo hb
 exact VH (h4.mem_iff.mpr (h5.mem (h3.mem_iff.mp ho)))
theorem JI {te:TE}{o:OE α}[MonoO o]{m:Rs α}{f:α->Rs β}(i k:Nat)(he:Ev K Er S OO OO' σ te o m)(hk:k<OO'.length)(hr:∀a v C,Sv Er (S.addO K o v a C) (OO'.set k C) (σ.set i (some v)) u Fd (f a)):Sv Er S OO σ (Zv (Bf te (YE i)) u) Fd (m.bind f):=λH D w s P=>
 he.st w s P λa v C H' w' s' ho P'=>by
  obtain⟨w2,h2⟩:=SN w' hk
  exact hr a v C H' D w2 ⟨S.mono _ _ h2 s',MonoO.mono h2 ho⟩ (PZ.tr (fd.tr D) h2 P')
theorem DC {te:TE}{r:Enc α}[MonoE r]{m:Rs α}{f:α->Rs β}(i:Nat)(he:EvS K Er S OO σ te r m)(hr:∀a v,Sv Er (S.add K r v a) OO (σ.set i (some v)) u Fd (f a)):Sv Er S OO σ (Zv (Bf te (YE i)) u) Fd (m.bind f):=λH D w s P=>
 he.st w s P λa v H' s1 w' s' ho P'=>hr a v H' D w' ⟨s',ho⟩ P'
theorem Xz {te:TE}{o:OE ρ}{m:Rs ρ}(he:Ev K Er S OO OO' σ te o m):Sv Er S OO σ (Zv (RL te) u) (FTd K o) m:=λH D w s P=>
 he H _ w s (by
  cases m with
  |bad=>exact P
  |err x=>exact λH' s'=>P H' (Xu.trans s')
  |ok a=>exact λv C H' s' w' m' ho=>P v C OO' H' w' m' ho)
theorem Ox {J:Jn γ ι}{t:TS}{o:OE ρ}{m:Rs ρ}(h:Sv Er S OO σ t (FTd K o) m):Sv Er S OO σ t (FCd K o J) (m.bind λr=>.ok (.ret r)):=λH D w s P=>h H D w s (by
 cases m with
 |bad=>exact P
 |err x=>exact P
 |ok a=>exact P)
theorem Za {J:Jn γ ι}{t:TS}{o:OE ρ}{m:Rs γ}(h:Sv Er S OO σ t (FNd J) m):Sv Er S OO σ t (FCd K o J) (m.bind λr=>.ok (.nx r)):=λH D w s P=>h H D w s (by
 cases m with
 |bad=>exact P
 |err x=>exact P
 |ok a=>exact P)
theorem Jl {J:Jn γ ι}(x:ι)(g:γ)(h1:OO=J.oo x)(h2:σ=J.ss x)(h3:∀h,S.p h->(J.sc g x).p h):Sv Er S OO σ K9 (FNd J) (.ok g):=λH D w s P=>by
 subst h1 h2
 exact P x H w (Xp.refl _) (h3 _ s)
theorem LW {o:OE ρ}{c:TT}{t1:TS}{mc:Rs Bool}{m1 m2:Rs ρ}(hc:EvT Er S OO σ c mc)(h1:Sv Er S OO σ t1 (FTd K o) m1)(h2:Sv Er S OO σ u (FTd K o) m2):Sv Er S OO σ (Zv (OT c t1 K9) u) (FTd K o) (mc.bind λb=>if b=true then m1 else m2):=λH D w s P=>
 hc.st (Fd:=FTd K o) w s P λb H' w' s' P'=>by
  cases b with
  |true=>rw[if_pos rfl] at P'⊢;exact h1 H' _ w' s' P'
  |false=>exact h2 H' D w' s' P'
theorem Q0 {o:OE ρ}{J:Jn γ ι}{c:TT}{t1:TS}{mc:Rs Bool}{m1:Rs ρ}{m2:Rs (Ctl ρ γ)}(hc:EvT Er S OO σ c mc)(h1:Sv Er S OO σ t1 (FTd K o) m1)(h2:Sv Er S OO σ u (FCd K o J) m2):Sv Er S OO σ (Zv (OT c t1 K9) u) (FCd K o J) (mc.bind λb=>if b=true then m1.bind (λr=>.ok (.ret r)) else m2):=λH D w s P=>
 hc.st (Fd:=FCd K o J) w s P λb H' w' s' P'=>by
  cases b with
  |true=>
   rw[if_pos rfl] at P'⊢
   refine h1 H' _ w' s' ?_
   cases m1 with
   |bad=>exact P'
   |err x=>exact P'
   |ok a=>exact P'
  |false=>exact h2 H' D w' s' P'
theorem Yu {c:TT}{t1 t2:TS}{mc:Rs Bool}{m1 m2:Rs β}(hc:EvT Er S OO σ c mc)(h1:Sv Er S OO σ t1 Fd m1)(h2:Sv Er S OO σ t2 Fd m2):Sv Er S OO σ (OT c t1 t2) Fd (mc.bind λb=>if b=true then m1 else m2):=λH D w s P=>
 hc.st w s P λb H' w' s' P'=>by
  cases b with
  |true=>rw[if_pos rfl] at P'⊢;exact h1 H' _ w' s' P'
  |false=>exact h2 H' D w' s' P'
theorem EY {J:Jn γ ι}{t:TS}{m:Rs γ}{f:γ->Rs β}(hb:Sv Er S OO σ t (FNd J) m)(hr:∀g x,Sv Er (J.sc g x) (J.oo x) (J.ss x) u Fd (f g)):Sv Er S OO σ (Zv t u) Fd (m.bind f):=λH D w s P=>
 hb H _ w s (by
  cases m with
  |bad=>exact P
  |err x=>exact P
  |ok g=>exact λx H' w' m' q=>hr g x H' D w' q (PZ.tr (fd.tr D) m' P))
noncomputable def Ve (f:γ->Rs ρ):Ctl ρ γ->Rs ρ
 | .ret r=>.ok r
 | .nx g=>f g
noncomputable def Jm {δ:Type}(f:γ->Rs (Ctl ρ δ)):Ctl ρ γ->Rs (Ctl ρ δ)
 | .ret r=>.ok (.ret r)
 | .nx g=>f g
theorem Ko {δ κ:Type}{o:OE ρ}{J:Jn γ ι}{J2:Jn δ κ}{t:TS}{m:Rs (Ctl ρ γ)}{f:γ->Rs (Ctl ρ δ)}(hb:Sv Er S OO σ t (FCd K o J) m)(hr:∀g x,Sv Er (J.sc g x) (J.oo x) (J.ss x) u (FCd K o J2) (f g)):Sv Er S OO σ (Zv t u) (FCd K o J2) (m.bind (Jm f)):=λH D w s P=>
 hb H _ w s (by
  cases m with
  |bad=>exact P
  |err x=>exact P
  |ok g=>
   cases g with
   |ret r=>exact P
   |nx g=>exact λx H' w' m' q=>hr g x H' D w' q (PZ.tr (FdOk.tr D) m' P))
theorem H9 {t:TS}{o:OE α}{r:Enc α}[z:FrzC o r][MonoE r]{v:V}{a:α}{C:List Xo}{m:Rs β}(k:Nat)(hk:OO[k]?=some C)(h:∀x,S.p x->o K x v a C)(hr:Sv Er (S.add K r v a) (OO.set k []) σ t Fd m):Sv Er S OO σ t Fd m:=λH D w s P=>by
 have hp:=XL hk
 have w1:W (C::OO.set k []) H:=w.of hp
 have hs:Xp (hid H OO) (hid H (OO.set k [])):=by
  rw[←XB hp]
  exact Zh (Xp.refl _) λb hb=>by rw[XE];simp[hb]
 refine hr H D w1.tail ⟨S.mono _ _ hs s,z.frz (h _ s) hs λc hc=>Y3 (w1.cell c hc) ?_⟩ (PZ.tr (fd.tr D) hs P)
 have:=w1.nd
 rw[XE] at this
 exact λhb=>(List.nodup_append.mp this).2.2 c.1 (List.mem_map.mpr ⟨c,hc,rfl⟩) c.1 hb rfl
theorem Td {C D C':List Xo}{H:Hp}{k:Nat}{p:Addr}{o:HO}(w:W (D::OO) H)(hk:OO[k]?=some C)(hp:p∈C.map (·.1))(hC:(C'.map (·.1)).Perm ((C++D).map (·.1)))(ht:∀c∈C',upd H p o c.1=some c.2)(hm:∀c∈C',OU c.2=true):
  W (OO.set k C') (upd H p o)/\hid (upd H p o) (OO.set k C')=hid H (D::OO):=by
 have hlt:k<OO.length:=by
  rcases Nat.lt_or_ge k OO.length with h |h
  ·exact h
  ·rw[List.getElem?_eq_none h] at hk;cases hk
 have h1:=XL hk
 have h2:=XL (OO:=OO.set k C') (k:=k) (C:=C') (by simp[hlt])
 rw[set_set] at h2
 have h3:(OO.set k C').flatten.Perm (C'++(OO.set k []).flatten):=by simpa using h2.symm
 have h4:(D::OO).flatten.Perm (D++(C++(OO.set k []).flatten)):=by
  rw[List.flatten_cons];exact(by simpa using h1.symm:OO.flatten.Perm (C++(OO.set k []).flatten)).append_left D
 have hfl:(fl (OO.set k C')).Perm (fl (D::OO)):=by
  unfold fl
  refine(h3.map _).trans (List.Perm.trans ?_ (h4.map _).symm)
  simp only[List.map_append]
  refine(hC.append_right _).trans ?_
  simp only[List.map_append]
  rw[←List.append_assoc]
  exact List.perm_append_comm.append_right _
 have nd:=w.nd
 refine⟨⟨λc hc=>?_,hfl.nodup_iff.mpr nd,λc hc=>?_⟩,?_⟩
 ·rcases List.mem_append.mp (h3.mem_iff.mp hc) with hc |hc
  ·exact ht c hc
  ·have hne:c.1≠p:=λe=>by
    have nd2:((D++(C++(OO.set k []).flatten)).map (·.1)).Nodup:=(h4.map _).nodup_iff.mp nd
    simp only[List.map_append] at nd2
    have nd3:=(List.nodup_append.mp nd2).2.1
    exact(List.nodup_append.mp nd3).2.2 p hp c.1 (List.mem_map.mpr ⟨c,hc,rfl⟩) e.symm
   rw[XF hne]
   exact w.tr c (h4.mem_iff.mpr (by simp[hc]))
 ·rcases List.mem_append.mp (h3.mem_iff.mp hc) with hc |hc
  ·exact hm c hc
  ·exact w.mu c (h4.mem_iff.mpr (by simp[hc]))
 ·funext b
  unfold hid
  by_cases hb:b∈fl (D::OO)
  ·rw[if_pos hb,if_pos (hfl.mem_iff.mpr hb)]
  ·rw[if_neg hb,if_neg λz=>hb (hfl.mem_iff.mp z)]
   refine XF λe=>hb ?_
   rw[e]
   obtain⟨c,hc,rfl⟩:=List.mem_map.mp hp
   exact VH (h4.mem_iff.mpr (by simp[hc]))
theorem YW {Cs:List (List Xo)}{D:List Xo}:(Cs++[D]).flatten=Cs.flatten++D:=by simp
theorem BT {ta:TE}{o:OE α}[MonoO o]{m:Rs α}{f:List α->Rs β}{v:V}{as:List α}{C:List Xo}(i k:Nat)(hσ:σ[i]?=some (some v))(hk:OO[k]?=some C)(hk':OO'[k]?=some C)(h:∀x,S.p x->oL o K x v as C)(he:Ev K Er S OO OO' σ ta o m)
  (hr:∀a C',Sv Er (S.addO K (oL o) v (as++[a]) C') (OO'.set k C') σ u Fd (f (as++[a]))):Sv Er S OO σ (Zv (Kw (tBM K "list" UL (JQ i) (Xn ta YF))) u) Fd (m.bind λa=>chk (as.length<sizeLine) (f (as++[a]))):=λH D w s P=>by
 obtain⟨p,xs,Cs,e,q,c⟩:=h _ s
 subst c
 have hH:H p=some (.lst xs):=w.tr (p, .lst xs) (List.mem_flatten.mpr ⟨_,List.mem_of_getElem? hk,List.mem_cons_self⟩)
 refine⟨v,hσ,by rw[e];exact .inl ⟨rfl,_,SqL.of hH⟩,he.st w s P λa y D' H' w' s' ho P'=>?_⟩
 obtain⟨p',xs',Cs',e2,q2,c2⟩:=h _ s'
 rw[e] at e2;cases e2
 have c3:(p,HO.lst xs)=(p,HO.lst xs')/\Cs.flatten=Cs'.flatten:=by
  injection c2 with h1 h2
  exact⟨h1,h2⟩
 obtain⟨c3,c4⟩:=c3
 cases c3
 have hH':H' p=some (.lst xs):=w'.tr (p, .lst xs) (by rw[List.flatten_cons];exact List.mem_append_right _ (List.mem_flatten.mpr ⟨_,List.mem_of_getElem? hk',List.mem_cons_self⟩))
 cases hlt:decide (as.length<sizeLine) with
 |false=>rw[chk,if_neg (by simpa using hlt)] at P';exact P'.elim
 |true=>
  have hlt':as.length<sizeLine:=by simpa using hlt
  rw[Xl hlt'] at P'
  have wnd:=w'.nd
  have hcell:∀c∈(p,HO.lst (xs++[y]))::(Cs'++[D']).flatten,upd H' p (.lst (xs++[y])) c.1=some c.2:=λc hc=>by
   rcases List.mem_cons.mp hc with rfl |hc
   ·exact Yk
   ·have hp1:=XL hk'
    have w3:W [D'++(((p,HO.lst xs)::Cs.flatten)++(OO'.set k []).flatten)] H':=w'.of (by
     simp only[List.flatten_cons,List.flatten_nil,List.append_nil]
     exact(by simpa using hp1:(((p,HO.lst xs)::Cs.flatten)++(OO'.set k []).flatten).Perm OO'.flatten).append_left D')
    have hin:c∈D'++(((p,HO.lst xs)::Cs.flatten)++(OO'.set k []).flatten):=by
     rw[YW,List.mem_append] at hc
     rcases hc with hc |hc
     ·rw[←c4] at hc;simp[hc]
     ·simp[hc]
    have hne:c.1≠p:=λee=>by
     have nd3:=w3.nd
     rw[YW,List.mem_append, ←c4] at hc
     simp only[fl,List.flatten_cons,List.flatten_nil,List.append_nil,List.map_append,List.cons_append,List.map_cons] at nd3
     rw[List.nodup_append] at nd3
     obtain⟨_,n2,n3⟩:=nd3
     rcases hc with hc |hc
     ·exact(List.nodup_cons.mp n2).1 (List.mem_append_left _ (List.mem_map.mpr ⟨c,hc,ee⟩))
     ·exact n3 c.1 (List.mem_map.mpr ⟨c,hc,rfl⟩) p List.mem_cons_self ee
    rw[XF hne]
    exact w3.tr c (by simpa using hin)
  obtain⟨w4,h4⟩:=Td (C':=(p, .lst (xs++[y]))::(Cs'++[D']).flatten) w' hk' List.mem_cons_self (by simp[YW,c4]) hcell (λc hc=>by
   rcases List.mem_cons.mp hc with rfl |hc
   ·rfl
   ·rw[YW,List.mem_append, ←c4] at hc
    rcases hc with hc |hc
    ·exact w'.mu c (by rw[List.flatten_cons];exact List.mem_append_right _ (List.mem_flatten.mpr ⟨_,List.mem_of_getElem? hk',List.mem_cons_of_mem _ hc⟩))
    ·exact w'.mu c (by rw[List.flatten_cons];exact List.mem_append_left _ hc))
  refine⟨p,xs,y,e,rfl,hH',by rw[(P3.len q).1];exact hlt',?_⟩
  refine hr a _ _ D w4 ?_ (by rw[h4];exact P')
  rw[h4]
  exact⟨s',⟨p,xs++[y],Cs'++[D'],e,q2.snoc ho,rfl⟩⟩
end
section
variable {K:PySem.W.Frag}{Er:Exc->Hp->Prop}{S:SC}{OO OO' OO2:List (List Xo)}{σ:St}{α β γ ρ ι δ ε:Type}
variable {Fd:Ends->β->Hp->Prop}[fd:FdOk Fd]{u:TS}
noncomputable def forN:List α->γ->(γ->α->Rs γ)->Rs γ
 | [],g,_=>.ok g
 |a::as,g,f=>(f g a).bind λg'=>forN as g' f
noncomputable def Kk:List α->γ->(γ->α->Rs (Ctl ρ γ))->Rs (Ctl ρ γ)
 | [],g,_=>.ok (.nx g)
 |a::as,g,f=>(f g a).bind λc=>match c with
  | .ret r=>.ok (.ret r)
  | .nx g'=>Kk as g' f
theorem XH {m:Rs α}{f:α->Rs β}{g:β->Rs γ}:(m.bind f).bind g=m.bind λa=>(f a).bind g:=by cases m<;> rfl
structure Tgt (K:PySem.W.Frag)(OO:List (List Xo))(g:TG)(r:Enc α)(κ:Type) where
 set:κ->St->St
 sc:α->κ->SC->SC
 ok:∀{H:Hp}{v:V}{a:α}{σ:St}{S:SC}{Q:St->Hp->Prop},r K (hid H OO) v a->S.p (hid H OO)->(∀x,(sc a x S).p (hid H OO)->Q (set x σ) H)->g v σ H Q
@[reducible] noncomputable def tg1 {r:Enc α}[MonoE r](i:Nat):Tgt K OO (YE i) r V where
 set:=λv σ=>σ.set i (some v)
 sc:=λa v S=>S.add K r v a
 ok:=fun {H v a σ S Q} hr hs hq=>hq v ⟨hs,hr⟩
@[reducible] noncomputable def tg2 {r:Enc α}{q:Enc β}[MonoE r][MonoE q](i j:Nat):Tgt K OO (Mj K 2 (Qm (YE i) (Qm (YE j) NS))) (rP2 r q) (V×V) where
 set:=λv σ=>(σ.set i (some v.1)).set j (some v.2)
 sc:=λa v S=>(S.add K r v.1 a.1).add K q v.2 a.2
 ok:=fun {H v a σ S Q} r9 hs hq=>by obtain⟨p,x,y,e,h,h1,h2⟩:=r9;exact⟨p,_,e,SqT.of (Xu _ _ h),rfl,x,[y],rfl,y,[],rfl,rfl,hq (x,y) ⟨⟨hs,h1⟩,h2⟩⟩
@[reducible] noncomputable def tg3 {r:Enc α}{q:Enc β}{t:Enc γ}[MonoE r][MonoE q][MonoE t](i j k:Nat):Tgt K OO (Mj K 3 (Qm (YE i) (Qm (YE j) (Qm (YE k) NS)))) (rP3 r q t) (V×V×V) where
 set:=λv σ=>((σ.set i (some v.1)).set j (some v.2.1)).set k (some v.2.2)
 sc:=λa v S=>((S.add K r v.1 a.1).add K q v.2.1 a.2.1).add K t v.2.2 a.2.2
 ok:=fun {H v a σ S Q} r9 hs hq=>by obtain⟨p,x,y,z,e,h,h1,h2,h3⟩:=r9;exact⟨p,_,e,SqT.of (Xu _ _ h),rfl,x,[y,z],rfl,y,[z],rfl,z,[],rfl,rfl,hq (x,y,z) ⟨⟨⟨hs,h1⟩,h2⟩,h3⟩⟩
structure Walk (K:PySem.W.Frag)(Er:Exc->Hp->Prop)(S:SC)(OO:List (List Xo))(σ:St)(wi:TI)(r:Enc α)(m:Rs (List α)):Prop where
 ok:∀{H:Hp}{R:It->Hp->Prop},W OO H->S.p (hid H OO)->PZ Er (λas H=>∀ J H',Xp H H'->
   (∀(i:Nat) a,as[i]?=some a->∀OO2 H2,W OO2 H2->Xp (hid H' OO) (hid H2 OO2)->J.go i H2/\∀x H3,J.yld i H2 x H3->Xp H2 H3/\r K (hid H3 OO2) x a)->
   (∀OO2 H2,W OO2 H2->Xp (hid H' OO) (hid H2 OO2)->J.stop as.length H2)->R J H') H m->wi σ H R
theorem Yn {te:TE}{r:Enc α}[z:MonoE r]{m:Rs (List α)}(he:EvS K Er S OO σ te (rV r) m):Walk K Er S OO σ (Ff K te) r m:=⟨fun {H R} w s P=>by
 refine he H _ w s (P.imp λas _ h v H' s' ⟨p,xs,e,hp,pr⟩=>⟨p,e,⟨xs,SqL.of (Xu _ _ hp)⟩,h _ H' s' ?_ ?_⟩)
 ·intro i a ha OO2 H2 w2 m2
  obtain⟨x,hx,rx⟩:=Paired.getR pr ha
  have hq:SqL K H2 p xs:=SqL.of (Xu _ _ (m2 _ _ hp))
  refine⟨⟨xs,x,hq,hx⟩,λy H3 r9=>?_⟩
  obtain⟨e3,hy⟩:=r9
  subst e3
  refine⟨Xp.refl _,?_⟩
  have:=hy xs hq
  rw[hx] at this
  cases this
  exact z.mono m2 rx
 ·intro OO2 H2 w2 m2
  exact⟨xs,SqL.of (Xu _ _ (m2 _ _ hp)),by rw[Paired.len pr];exact Nat.le_refl _⟩⟩
noncomputable def F7 (as:List α):List (Int×α):=(List.range as.length).map (λ(i:Nat)=>(i:Int)) |>.zip as
theorem GU {as:List α}{i:Nat}{p:Int×α}(h:(F7 as)[i]?=some p):p.1=(i:Int)/\as[i]?=some p.2:=by
 unfold F7 at h
 rw[List.getElem?_zip_eq_some] at h
 obtain⟨h1,h2⟩:=h
 rw[List.getElem?_map] at h1
 have hlt:i<as.length:=by
  rcases Nat.lt_or_ge i as.length with q |q
  ·exact q
  ·rw[List.getElem?_eq_none q] at h2;cases h2
 rw[List.getElem?_range hlt] at h1
 exact⟨(Option.some.inj h1).symm,h2⟩
theorem EU {as:List α}:(F7 as).length=as.length:=by simp[F7]
theorem Jj {te:TE}{r:Enc α}[z:MonoE r]{m:Rs (List α)}(he:EvS K Er S OO σ te (rV r) m):Walk K Er S OO σ (Rp K te) (rP2 Xd r) (m.bind λas=>.ok (F7 as)):=⟨fun {H R} w s P=>by
 refine he H _ w s ?_
 cases em:m with
 |bad=>rw[em] at P;exact P
 |err x=>rw[em] at P;exact P
 |ok as=>
  rw[em] at P
  intro v H' s' ⟨p,xs,e,hp,pr⟩
  refine⟨p,e,⟨xs,SqL.of (Xu _ _ hp)⟩,P _ H' s' ?_ ?_⟩
  ·intro i a ha OO2 H2 w2 m2
   obtain⟨ha1,ha2⟩:=GU ha
   obtain⟨x,hx,rx⟩:=Paired.getR pr ha2
   have hq:SqL K H2 p xs:=SqL.of (Xu _ _ (m2 _ _ hp))
   refine⟨⟨xs,x,hq,hx⟩,λy H3 h3=>?_⟩
   obtain⟨b,x',rfl,hb,rfl,hy⟩:=h3
   have:=hy xs hq
   rw[hx] at this
   cases this
   refine⟨Xv hb _,⟨b, .int i,x,rfl,QP w2 hb,by show V.int _=V.int _;rw[ha1],z.mono (m2.trans (Xh (Xv hb _))) rx⟩⟩
  ·intro OO2 H2 w2 m2
   exact⟨xs,SqL.of (Xu _ _ (m2 _ _ hp)),by rw[EU,Paired.len pr];exact Nat.le_refl _⟩⟩
theorem U3 {lo hi:Int}{i:Nat}{a:Int}(h:(Us lo hi)[i]?=some a):a=lo+i/\i<(hi-lo).toNat:=by
 unfold Us at h
 rw[List.getElem?_map] at h
 rcases Nat.lt_or_ge i (hi-lo).toNat with q |q
 ·rw[List.getElem?_range q] at h;exact⟨(Option.some.inj h).symm,q⟩
 ·rw[List.getElem?_eq_none (by simpa using q)] at h;cases h
theorem UY {lo hi:Int}:(Us lo hi).length=(hi-lo).toNat:=by simp[Us]
noncomputable def Bd (lo hi:Int):Rs (List Int):=chk (-(2^62)<=lo/\lo<2^62/\ -(2^62)<=hi/\hi<2^62) (.ok (Us lo hi))
theorem JL {te:TE}{m:Rs Int}(he:EvB K Er S OO σ te Xd m):Walk K Er S OO σ (N1 (Xn te YF)) Xd (m.bind λn=>Bd 0 n):=⟨fun {H R} w s P=>
 he.run w s (λas H H' s' h J H2 s2=>h J H2 (s'.trans s2)) P λn v H1 s1 w1 q1 r1 P1=>by
  obtain⟨c,hc,P2⟩:=P1.okOf λx=>Qd
  obtain⟨⟨_,_,h1,h2⟩,h3⟩:=YZ hc
  cases h3
  refine⟨n,by rw[show v= .int n from r1],h1,h2,P2 _ H1 (Xp.refl _) (λi a ha OO2 H2 w2 m2=>?_) λOO2 H2 w2 m2=>?_⟩
  ·obtain⟨e1,e2⟩:=U3 ha
   rw[Int.sub_zero] at e2
   refine⟨e2,λx H3 r9=>?_⟩
   obtain⟨e3,e4⟩:=r9
   subst e3
   exact⟨Xp.refl _,by rw[e4,e1];rfl⟩
  ·show n.toNat<=_
   rw[UY,Int.sub_zero];exact Nat.le_refl _⟩
theorem F8 {ta tb:TE}{ma mb:Rs Int}(ha:EvB K Er S OO σ ta Xd ma)(hb:EvB K Er S OO σ tb Xd mb):Walk K Er S OO σ (Nh (Xn ta (Xn tb YF))) Xd (ma.bind λlo=>mb.bind λn=>Bd lo n):=⟨fun {H R} w s P=>
 ha.run w s (λas H H' s' h J H2 s2=>h J H2 (s'.trans s2)) P λlo v H1 s1 w1 q1 r1 P1=>hb.run w1 q1 (λas H H' s' h J H2 s2=>h J H2 (s'.trans s2)) P1 λn v2 H2 s2 w2 q2 r2 P2'=>by
  obtain⟨c,hc,P2⟩:=P2'.okOf λx=>Qd
  obtain⟨h1,h3⟩:=YZ hc
  cases h3
  refine⟨lo,n,by rw[show v= .int lo from r1,show v2= .int n from r2],h1,P2 _ H2 (Xp.refl _) (λi a ha OO2 H3 w3 m3=>?_) λOO2 H3 w3 m3=>?_⟩
  ·obtain⟨e1,e2⟩:=U3 ha
   refine⟨e2,λx H4 r9=>?_⟩
   obtain⟨e3,e4⟩:=r9
   subst e3
   exact⟨Xp.refl _,by rw[e4,e1];rfl⟩
  ·show(n-lo).toNat<=_
   rw[UY];exact Nat.le_refl _⟩
theorem EG {wi:TI}{g:TG}{tb:TS}{r:Enc α}{κ:Type}{m:Rs (List α)}{body:γ->α->Rs γ}{f:γ->Rs β}(J:Jn γ ι)(T:∀OO,Tgt K OO g r κ)(x0:ι)(g0:γ)(he:Walk K Er S OO σ wi r m)(h1:OO=J.oo x0)(h2:σ=J.ss x0)(h3:∀h,S.p h->(J.sc g0 x0).p h)
  (hb:∀g x a v,Sv Er ((T (J.oo x)).sc a v (J.sc g x)) (J.oo x) ((T (J.oo x)).set v (J.ss x)) tb (FNd J) (body g a))
  (hr:∀g x,Sv Er (J.sc g x) (J.oo x) (J.ss x) u Fd (f g)):Sv Er S OO σ (Zv (Iq wi g tb) u) Fd (m.bind λas=>(forN as g0 body).bind f):=λH D w s P=>by
 refine he.ok w s ?_
 cases em:m with
 |bad=>rw[em] at P;exact P
 |err x=>rw[em] at P;exact λH' s'=>P H' (Xu.trans s')
 |ok as=>
  rw[em] at P
  have P:PZ Er (Fd D) (hid H OO) ((forN as g0 body).bind f):=P
  intro It H' s' hgo hstop
  refine⟨λi mm σ' H2=>mm=as.length-i/\i<=as.length/\∃x gg,σ'=J.ss x/\W (J.oo x) H2/\Xp (hid H' OO) (hid H2 (J.oo x))/\(J.sc gg x).p (hid H2 (J.oo x))/\PZ Er (Fd D) (hid H2 (J.oo x)) ((forN (as.drop i) gg body).bind f),⟨as.length,rfl,Nat.zero_le _,x0,g0,h2,?_,?_,?_,?_⟩,?_⟩
  ·rw[←h1];exact w.keep s'
  ·rw[←h1];exact Xp.refl _
  ·rw[←h1];exact h3 _ (S.mono _ _ (Xh s') s)
  ·rw[←h1,List.drop_zero];exact PZ.tr (fd.tr D) (Xh s') P
  ·rintro i mm σ' H2 ⟨rfl,hi,x,gg,rfl,w2,m2,sc2,P2⟩
   by_cases hlt:i<as.length
   ·right
    have ha:as[i]?=some as[i]:=by simp[hlt]
    obtain⟨h4,h5⟩:=hgo i _ ha (J.oo x) H2 w2 m2
    refine⟨h4,λσ3 H3=>∃ x gg,σ3=J.ss x/\W (J.oo x) H3/\Xp (hid H' OO) (hid H3 (J.oo x))/\(J.sc gg x).p (hid H3 (J.oo x))/\PZ Er (Fd D) (hid H3 (J.oo x)) ((forN (as.drop (i+1)) gg body).bind f),λσ3 H3 q=>⟨as.length-(i+1),Nat.sub_lt_sub_left hlt (Nat.lt_succ_self i),rfl,hlt,q⟩,λy H3 hy=>?_⟩
    obtain⟨s3,r3⟩:=h5 y H3 hy
    have w3:=w2.keep s3
    have m3:=Xh (OO:=J.oo x) s3
    refine(T (J.oo x)).ok r3 ((J.sc gg x).mono _ _ m3 sc2) λv hv=>hb gg x as[i] v H3 _ w3 hv ?_
    rw[List.drop_eq_getElem_cons hlt] at P2
    have P3:PZ Er (Fd D) (hid H2 (J.oo x)) ((body gg as[i]).bind λg'=>(forN (as.drop (i+1)) g' body).bind f):=by rw[←XH];exact P2
    cases eb:body gg as[i] with
    |bad=>rw[eb] at P3;exact P3
    |err x=>rw[eb] at P3;exact λH4 s4=>P3 H4 (m3.trans s4)
    |ok g'=>
     rw[eb] at P3
     exact λx' H4 w4 m4 sc4=>⟨x',g',rfl,w4,m2.trans (m3.trans m4),sc4,PZ.tr (fd.tr D) (m3.trans m4) P3⟩
   ·left
    have e:i=as.length:=Nat.le_antisymm hi (Nat.not_lt.mp hlt)
    subst e
    refine⟨hstop (J.oo x) H2 w2 m2,hr gg x H2 D w2 sc2 ?_⟩
    rw[List.drop_length] at P2
    exact P2
theorem Ee {o:OE ρ}{wi:TI}{g:TG}{tb:TS}{r:Enc α}{κ:Type}{m:Rs (List α)}{body:γ->α->Rs (Ctl ρ γ)}{f:γ->Rs ρ}(J:Jn γ ι)(T:∀OO,Tgt K OO g r κ)(x0:ι)(g0:γ)(he:Walk K Er S OO σ wi r m)(h1:OO=J.oo x0)(h2:σ=J.ss x0)(h3:∀h,S.p h->(J.sc g0 x0).p h)
  (hb:∀g x a v,Sv Er ((T (J.oo x)).sc a v (J.sc g x)) (J.oo x) ((T (J.oo x)).set v (J.ss x)) tb (FCd K o J) (body g a))
  (hr:∀g x,Sv Er (J.sc g x) (J.oo x) (J.ss x) u (FTd K o) (f g)):Sv Er S OO σ (Zv (Iq wi g tb) u) (FTd K o) (m.bind λas=>(Kk as g0 body).bind (Ve f)):=λH D w s P=>by
 refine he.ok w s ?_
 cases em:m with
 |bad=>rw[em] at P;exact P
 |err x=>rw[em] at P;exact λH' s'=>P H' (Xu.trans s')
 |ok as=>
  rw[em] at P
  have P:PZ Er (FTd K o D) (hid H OO) ((Kk as g0 body).bind (Ve f)):=P
  intro It H' s' hgo hstop
  refine⟨λi mm σ' H2=>mm=as.length-i/\i<=as.length/\∃x gg,σ'=J.ss x/\W (J.oo x) H2/\Xp (hid H' OO) (hid H2 (J.oo x))/\(J.sc gg x).p (hid H2 (J.oo x))/\PZ Er (FTd K o D) (hid H2 (J.oo x)) ((Kk (as.drop i) gg body).bind (Ve f)),⟨as.length,rfl,Nat.zero_le _,x0,g0,h2,?_,?_,?_,?_⟩,?_⟩
  ·rw[←h1];exact w.keep s'
  ·rw[←h1];exact Xp.refl _
  ·rw[←h1];exact h3 _ (S.mono _ _ (Xh s') s)
  ·rw[←h1,List.drop_zero];exact PZ.tr (FdOk.tr D) (Xh s') P
  ·rintro i mm σ' H2 ⟨rfl,hi,x,gg,rfl,w2,m2,sc2,P2⟩
   by_cases hlt:i<as.length
   ·right
    have ha:as[i]?=some as[i]:=by simp[hlt]
    obtain⟨h4,h5⟩:=hgo i _ ha (J.oo x) H2 w2 m2
    refine⟨h4,λσ3 H3=>∃ x gg,σ3=J.ss x/\W (J.oo x) H3/\Xp (hid H' OO) (hid H3 (J.oo x))/\(J.sc gg x).p (hid H3 (J.oo x))/\PZ Er (FTd K o D) (hid H3 (J.oo x)) ((Kk (as.drop (i+1)) gg body).bind (Ve f)),λσ3 H3 q=>⟨as.length-(i+1),Nat.sub_lt_sub_left hlt (Nat.lt_succ_self i),rfl,hlt,q⟩,λy H3 hy=>?_⟩
    obtain⟨s3,r3⟩:=h5 y H3 hy
    have w3:=w2.keep s3
    have m3:=Xh (OO:=J.oo x) s3
    refine(T (J.oo x)).ok r3 ((J.sc gg x).mono _ _ m3 sc2) λv hv=>hb gg x as[i] v H3 _ w3 hv ?_
    rw[List.drop_eq_getElem_cons hlt] at P2
    have P3:PZ Er (FTd K o D) (hid H2 (J.oo x)) ((body gg as[i]).bind λc=>(match c with
     | .ret r=>Rs.ok (Ctl.ret r)
     | .nx g'=>Kk (as.drop (i+1)) g' body).bind (Ve f)):=by rw[←XH];exact P2
    cases eb:body gg as[i] with
    |bad=>rw[eb] at P3;exact P3
    |err x=>rw[eb] at P3;exact λH4 s4=>P3 H4 (m3.trans s4)
    |ok c=>
     rw[eb] at P3
     cases c with
     |ret r=>exact FdOk.tr (Fd:=FTd K o) D r _ _ m3 P3
     |nx g'=>exact λx' H4 w4 m4 sc4=>⟨x',g',rfl,w4,m2.trans (m3.trans m4),sc4,PZ.tr (FdOk.tr D) (m3.trans m4) P3⟩
   ·left
    have e:i=as.length:=Nat.le_antisymm hi (Nat.not_lt.mp hlt)
    subst e
    refine⟨hstop (J.oo x) H2 w2 m2,hr gg x H2 D w2 sc2 ?_⟩
    rw[List.drop_length] at P2
    exact P2
theorem IR {κ2:Type}{o:OE ρ}{J2:Jn δ κ2}{wi:TI}{g:TG}{tb:TS}{r:Enc α}{κ:Type}{m:Rs (List α)}{body:γ->α->Rs (Ctl ρ γ)}{f:γ->Rs (Ctl ρ δ)}(J:Jn γ ι)(T:∀OO,Tgt K OO g r κ)(x0:ι)(g0:γ)(he:Walk K Er S OO σ wi r m)(h1:OO=J.oo x0)(h2:σ=J.ss x0)(h3:∀h,S.p h->(J.sc g0 x0).p h)
  (hb:∀g x a v,Sv Er ((T (J.oo x)).sc a v (J.sc g x)) (J.oo x) ((T (J.oo x)).set v (J.ss x)) tb (FCd K o J) (body g a))
  (hr:∀g x,Sv Er (J.sc g x) (J.oo x) (J.ss x) u (FCd K o J2) (f g)):Sv Er S OO σ (Zv (Iq wi g tb) u) (FCd K o J2) (m.bind λas=>(Kk as g0 body).bind (Jm f)):=λH D w s P=>by
 refine he.ok w s ?_
 cases em:m with
 |bad=>rw[em] at P;exact P
 |err x=>rw[em] at P;exact λH' s'=>P H' (Xu.trans s')
 |ok as=>
  rw[em] at P
  have P:PZ Er (FCd K o J2 D) (hid H OO) ((Kk as g0 body).bind (Jm f)):=P
  intro It H' s' hgo hstop
  refine⟨λi mm σ' H2=>mm=as.length-i/\i<=as.length/\∃x gg,σ'=J.ss x/\W (J.oo x) H2/\Xp (hid H' OO) (hid H2 (J.oo x))/\(J.sc gg x).p (hid H2 (J.oo x))/\PZ Er (FCd K o J2 D) (hid H2 (J.oo x)) ((Kk (as.drop i) gg body).bind (Jm f)),⟨as.length,rfl,Nat.zero_le _,x0,g0,h2,?_,?_,?_,?_⟩,?_⟩
  ·rw[←h1];exact w.keep s'
  ·rw[←h1];exact Xp.refl _
  ·rw[←h1];exact h3 _ (S.mono _ _ (Xh s') s)
  ·rw[←h1,List.drop_zero];exact PZ.tr (FdOk.tr D) (Xh s') P
  ·rintro i mm σ' H2 ⟨rfl,hi,x,gg,rfl,w2,m2,sc2,P2⟩
   by_cases hlt:i<as.length
   ·right
    have ha:as[i]?=some as[i]:=by simp[hlt]
    obtain⟨h4,h5⟩:=hgo i _ ha (J.oo x) H2 w2 m2
    refine⟨h4,λσ3 H3=>∃ x gg,σ3=J.ss x/\W (J.oo x) H3/\Xp (hid H' OO) (hid H3 (J.oo x))/\(J.sc gg x).p (hid H3 (J.oo x))/\PZ Er (FCd K o J2 D) (hid H3 (J.oo x)) ((Kk (as.drop (i+1)) gg body).bind (Jm f)),λσ3 H3 q=>⟨as.length-(i+1),Nat.sub_lt_sub_left hlt (Nat.lt_succ_self i),rfl,hlt,q⟩,λy H3 hy=>?_⟩
    obtain⟨s3,r3⟩:=h5 y H3 hy
    have w3:=w2.keep s3
    have m3:=Xh (OO:=J.oo x) s3
    refine(T (J.oo x)).ok r3 ((J.sc gg x).mono _ _ m3 sc2) λv hv=>hb gg x as[i] v H3 _ w3 hv ?_
    rw[List.drop_eq_getElem_cons hlt] at P2
    have P3:PZ Er (FCd K o J2 D) (hid H2 (J.oo x)) ((body gg as[i]).bind λc=>(match c with
     | .ret r=>Rs.ok (Ctl.ret r)
     | .nx g'=>Kk (as.drop (i+1)) g' body).bind (Jm f)):=by rw[←XH];exact P2
    cases eb:body gg as[i] with
    |bad=>rw[eb] at P3;exact P3
    |err x=>rw[eb] at P3;exact λH4 s4=>P3 H4 (m3.trans s4)
    |ok c=>
     rw[eb] at P3
     cases c with
     |ret r=>exact FdOk.tr (Fd:=FTd K o) D r _ _ m3 P3
     |nx g'=>exact λx' H4 w4 m4 sc4=>⟨x',g',rfl,w4,m2.trans (m3.trans m4),sc4,PZ.tr (FdOk.tr D) (m3.trans m4) P3⟩
   ·left
    have e:i=as.length:=Nat.le_antisymm hi (Nat.not_lt.mp hlt)
    subst e
    refine⟨hstop (J.oo x) H2 w2 m2,hr gg x H2 D w2 sc2 ?_⟩
    rw[List.drop_length] at P2
    exact P2
noncomputable def Ui:Nat->γ->(γ->Rs Bool)->(γ->Rs γ)->Rs γ
 |0,_,_,_=>.bad
 |n+1,g,c,f=>(c g).bind λb=>if b=true then(f g).bind λg'=>Ui n g' c f else .ok g
theorem IX {c:TT}{tb:TS}{mc:γ->Rs Bool}{body:γ->Rs γ}{f:γ->Rs β}(J:Jn γ ι)(n:Nat)(x0:ι)(g0:γ)(h1:OO=J.oo x0)(h2:σ=J.ss x0)(h3:∀h,S.p h->(J.sc g0 x0).p h)
  (hc:∀g x,EvT Er (J.sc g x) (J.oo x) (J.ss x) c (mc g))(hb:∀g x,Sv Er (J.sc g x) (J.oo x) (J.ss x) tb (FNd J) (body g))
  (hr:∀g x,Sv Er (J.sc g x) (J.oo x) (J.ss x) u Fd (f g)):Sv Er S OO σ (Zv (CG c tb) u) Fd ((Ui n g0 mc body).bind f):=λH D w s P=>by
 refine⟨λmm σ' H2=>∃ x gg,σ'=J.ss x/\W (J.oo x) H2/\(J.sc gg x).p (hid H2 (J.oo x))/\PZ Er (Fd D) (hid H2 (J.oo x)) ((Ui mm gg mc body).bind f),⟨n,x0,g0,h2,by rw[←h1];exact w,by rw[←h1];exact h3 _ s,by rw[←h1];exact P⟩,?_⟩
 rintro mm σ' H2 ⟨x,gg,rfl,w2,sc2,P2⟩
 cases mm with
 |zero=>exact P2.elim
 |succ mm=>
  have P3:PZ Er (Fd D) (hid H2 (J.oo x)) ((mc gg).bind λb=>(if b=true then(body gg).bind λg'=>Ui mm g' mc body else .ok gg).bind f):=by rw[←XH];exact P2
  refine(hc gg x).st w2 sc2 P3 λb H3 w3 sc3 P4=>?_
  cases b with
  |false=>exact hr gg x H3 D w3 sc3 P4
  |true=>
   rw[if_pos rfl] at P4⊢
   refine⟨λσ3 H4=>∃ x gg,σ3=J.ss x/\W (J.oo x) H4/\(J.sc gg x).p (hid H4 (J.oo x))/\PZ Er (Fd D) (hid H4 (J.oo x)) ((Ui mm gg mc body).bind f),λσ3 H4 q=>⟨mm,Nat.lt_succ_self _,q⟩,hb gg x H3 _ w3 sc3 ?_⟩
   rw[XH] at P4
   cases eb:body gg with
   |bad=>rw[eb] at P4;exact P4
   |err x=>rw[eb] at P4;exact P4
   |ok g'=>
    rw[eb] at P4
    exact λx' H5 w5 m5 sc5=>⟨x',g',rfl,w5,sc5,PZ.tr (fd.tr D) m5 P4⟩
noncomputable def BI (as:List α)(f:α->Rs β):Rs (List β):=match as with
 | []=>.ok []
 |a::as=>(f a).bind λb=>(BI as f).bind λbs=>.ok (b::bs)
noncomputable def Ed (as:List α)(f:α->Rs β):Rs (List β):=chk (as.length<=sizeLine) (BI as f)
noncomputable def UR (as:List α)(c:α->Rs Bool)(f:α->Rs β):Rs (List β):=match as with
 | []=>.ok []
 |a::as=>(c a).bind λb=>if b=true then(f a).bind λb=>(UR as c f).bind λbs=>.ok (b::bs) else UR as c f
noncomputable def O8 (as:List α)(c:α->Rs Bool)(f:α->Rs β):Rs (List β):=chk (as.length<=sizeLine) (UR as c f)
theorem PZ.chk {F:β->Hp->Prop}{H:Hp}{c:Prop}[Decidable c]{m:Rs β}(P:PZ Er F H (chk c m)):c/\PZ Er F H m:=by
 unfold L2.chk at P;split at P
 ·exact⟨by assumption,P⟩
 ·exact P.elim
theorem NW {o:OE α}[z:MonoO o]{xs:List V}{as:List α}{Cs:List (List Xo)}{H H0:Hp}{Q:VK}(w:W (Cs.flatten::OO) H)(m0:Xp (hid H0 OO) (hid H (Cs.flatten::OO)))(s0:Xp H0 H)(pr:P3 (o K (hid H (Cs.flatten::OO))) xs as Cs)(P:FO K OO OO (oL o) Q as H0):∀p,H p=none->Q (.ref p) (upd H p (.lst xs)):=λp hp=>by
 have hn:=JM (OO:=Cs.flatten::OO) hp (o:=.lst xs)
 have wn:=w.new hp (o:=.lst xs) rfl
 have pe:(((p,HO.lst xs)::Cs.flatten)::OO).flatten.Perm ([(p,HO.lst xs)]::Cs.flatten::OO).flatten:=by simp
 refine P (.ref p) ((p, .lst xs)::Cs.flatten) _ (s0.trans (Xv hp _)) (wn.of pe) ?_ ?_
 ·rw[XB pe];exact m0.trans hn
 ·rw[XB pe]
  exact⟨p,xs,Cs,rfl,pr.imp λ_ _ _ h=>z.mono hn h,rfl⟩
theorem Yx {o:OE β}[z:MonoO o]{wi:TI}{g:TG}{te:TE}{r:Enc α}{κ:Type}{m:Rs (List α)}{f:α->Rs β}{n:Nat}{caps:List (Nat×Str)}(T:∀OO,Tgt K OO g r κ)(he:Walk K Er S OO σ wi r m)
  (hb:∀C a v,Ev K Er ((T (C::OO)).sc a v S) (C::OO) (C::OO) ((T (C::OO)).set v (Yb n caps σ)) te o (f a)):Ev K Er S OO OO σ (K3 n caps wi g KN te) (oL o) (m.bind λas=>Ed as f):=λH Q w s P=>by
 refine he.ok w s ?_
 cases em:m with
 |bad=>rw[em] at P;exact P
 |err x=>rw[em] at P;exact P
 |ok as=>
  rw[em] at P
  obtain⟨hsz,P⟩:=PZ.chk (show PZ Er _ H (chk (as.length<=sizeLine) (BI as f)) from P)
  intro It H' s' hgo hstop
  -- what is left: the Zu of the items, then all
  refine⟨λi mm ys H2=>mm=as.length-i/\i<=as.length/\∃bs Cs,Xp H H2/\W (Cs.flatten::OO) H2/\Xp (hid H' OO) (hid H2 (Cs.flatten::OO))/\P3 (o K (hid H2 (Cs.flatten::OO))) ys bs Cs/\bs.length=i/\PZ Er (FO K OO OO (oL o) Q) H ((BI (as.drop i) f).bind λZu=>.ok (bs++Zu)),
   ⟨as.length,rfl,Nat.zero_le _,[],[],s',(w.keep s').nil,by show Xp _ (hid H' ([]::OO));rw[Y6];exact Xp.refl _, .nil,rfl,?_⟩,?_⟩
  ·rw[List.drop_zero]
   revert P
   cases BI as f<;> exact λz=>z
  ·rintro i mm ys H2 ⟨rfl,hi,bs,Cs,s2,w2,m2,pr,hlen,P2⟩
   refine⟨by rw[pr.len.1,hlen];omega,?_⟩
   by_cases hlt:i<as.length
   ·right
    have ha:as[i]?=some as[i]:=by simp[hlt]
    obtain⟨h4,h5⟩:=hgo i _ ha (Cs.flatten::OO) H2 w2 m2
    refine⟨h4,λys' H3=>∃ bs Cs,Xp H H3/\W (Cs.flatten::OO) H3/\Xp (hid H' OO) (hid H3 (Cs.flatten::OO))/\P3 (o K (hid H3 (Cs.flatten::OO))) ys' bs Cs/\bs.length=i+1/\PZ Er (FO K OO OO (oL o) Q) H ((BI (as.drop (i+1)) f).bind λZu=>.ok (bs++Zu)),λys' H3 q=>⟨as.length-(i+1),Nat.sub_lt_sub_left hlt (Nat.lt_succ_self i),rfl,hlt,q⟩,λy H3 hy=>?_⟩
    obtain⟨s3,r3⟩:=h5 y H3 hy
    have w3:=w2.keep s3
    have m3:=Xh (OO:=Cs.flatten::OO) s3
    have sS:S.p (hid H3 (Cs.flatten::OO)):=S.mono _ _ ((Xh s').trans (m2.trans m3)) s
    refine(T (Cs.flatten::OO)).ok r3 sS λv hv=>?_
    show KN _ _ _
    refine Ps ?_
    rw[List.drop_eq_getElem_cons hlt] at P2
    have P3':PZ Er (FO K OO OO (oL o) Q) H ((f as[i]).bind λb=>(BI (as.drop (i+1)) f).bind λZu=>.ok (bs++b::Zu)):=by
     have:((f as[i]).bind λb=>(BI (as.drop (i+1)) f).bind λZu=>Rs.ok (bs++b::Zu))=(BI (as[i]::as.drop (i+1)) f).bind λZu=>.ok (bs++Zu):=by
      show _=((f as[i]).bind λb=>(BI (as.drop (i+1)) f).bind λbs=>Rs.ok (b::bs)).bind _
      rw[XH];congr 1;funext b;rw[XH];rfl
     rw[this];exact P2
    refine hb Cs.flatten as[i] v H3 _ w3 hv ?_
    cases eb:f as[i] with
    |bad=>rw[eb] at P3';exact P3'
    |err x=>rw[eb] at P3';exact λH4 s4=>P3' H4 (s2.trans (s3.trans s4))
    |ok b=>
     rw[eb] at P3'
     intro v' C' H4 s4 w4 m4 ho
     have pe:((Cs++[C']).flatten::OO).flatten.Perm (C'::Cs.flatten::OO).flatten:=by
      simp only[YW,List.flatten_cons]
      rw[List.append_assoc, ←List.append_assoc, ←List.append_assoc]
      exact List.perm_append_comm.append_right _
     refine⟨bs++[b],Cs++[C'],s2.trans (s3.trans s4),w4.of pe,?_,?_,by simp[hlen],?_⟩
     ·rw[XB pe];exact m2.trans (m3.trans m4)
     ·rw[XB pe];exact P3.snoc (pr.imp λ_ _ _ h=>z.mono (m3.trans m4) h) ho
     ·have P4:PZ Er (FO K OO OO (oL o) Q) H ((BI (as.drop (i+1)) f).bind λZu=> .ok (bs++b::Zu)):=P3'
      simpa using P4
   ·left
    have e:i=as.length:=Nat.le_antisymm hi (Nat.not_lt.mp hlt)
    subst e
    refine⟨hstop (Cs.flatten::OO) H2 w2 m2,?_⟩
    rw[List.drop_length] at P2
    have P3':FO K OO OO (oL o) Q (bs++[]) H:=P2
    rw[List.append_nil] at P3'
    exact NW (H0:=H) w2 ((Xh s').trans m2) s2 pr P3'
theorem VV {o:OE β}[z:MonoO o]{wi:TI}{g:TG}{tt:TT}{te:TE}{r:Enc α}{κ:Type}{m:Rs (List α)}{c:α->Rs Bool}{f:α->Rs β}{n:Nat}{caps:List (Nat×Str)}(T:∀OO,Tgt K OO g r κ)(he:Walk K Er S OO σ wi r m)
  (hc:∀C a v,EvT Er ((T (C::OO)).sc a v S) (C::OO) ((T (C::OO)).set v (Yb n caps σ)) tt (c a))
  (hb:∀C a v,Ev K Er ((T (C::OO)).sc a v S) (C::OO) (C::OO) ((T (C::OO)).set v (Yb n caps σ)) te o (f a)):Ev K Er S OO OO σ (K3 n caps wi g tt te) (oL o) (m.bind λas=>O8 as c f):=λH Q w s P=>by
 refine he.ok w s ?_
 cases em:m with
 |bad=>rw[em] at P;exact P
 |err x=>rw[em] at P;exact P
 |ok as=>
  rw[em] at P
  obtain⟨hsz,P⟩:=PZ.chk (show PZ Er _ H (chk (as.length<=sizeLine) (UR as c f)) from P)
  intro It H' s' hgo hstop
  refine⟨λi mm ys H2=>mm=as.length-i/\i<=as.length/\∃bs Cs,Xp H H2/\W (Cs.flatten::OO) H2/\Xp (hid H' OO) (hid H2 (Cs.flatten::OO))/\P3 (o K (hid H2 (Cs.flatten::OO))) ys bs Cs/\bs.length<=i/\PZ Er (FO K OO OO (oL o) Q) H ((UR (as.drop i) c f).bind λZu=>.ok (bs++Zu)),
   ⟨as.length,rfl,Nat.zero_le _,[],[],s',(w.keep s').nil,by show Xp _ (hid H' ([]::OO));rw[Y6];exact Xp.refl _, .nil,Nat.zero_le _,?_⟩,?_⟩
  ·rw[List.drop_zero]
   revert P
   cases UR as c f<;> exact λz=>z
  ·rintro i mm ys H2 ⟨rfl,hi,bs,Cs,s2,w2,m2,pr,hlen,P2⟩
   refine⟨by rw[pr.len.1];omega,?_⟩
   by_cases hlt:i<as.length
   ·right
    have ha:as[i]?=some as[i]:=by simp[hlt]
    obtain⟨h4,h5⟩:=hgo i _ ha (Cs.flatten::OO) H2 w2 m2
    refine⟨h4,λys' H3=>∃ bs Cs,Xp H H3/\W (Cs.flatten::OO) H3/\Xp (hid H' OO) (hid H3 (Cs.flatten::OO))/\P3 (o K (hid H3 (Cs.flatten::OO))) ys' bs Cs/\bs.length<=i+1/\PZ Er (FO K OO OO (oL o) Q) H ((UR (as.drop (i+1)) c f).bind λZu=>.ok (bs++Zu)),λys' H3 q=>⟨as.length-(i+1),Nat.sub_lt_sub_left hlt (Nat.lt_succ_self i),rfl,hlt,q⟩,λy H3 hy=>?_⟩
    obtain⟨s3,r3⟩:=h5 y H3 hy
    have w3:=w2.keep s3
    have m3:=Xh (OO:=Cs.flatten::OO) s3
    have sS:S.p (hid H3 (Cs.flatten::OO)):=S.mono _ _ ((Xh s').trans (m2.trans m3)) s
    refine(T (Cs.flatten::OO)).ok r3 sS λv hv=>?_
    rw[List.drop_eq_getElem_cons hlt] at P2
    have P3':PZ Er (FO K OO OO (oL o) Q) H ((c as[i]).bind λb=>(if b=true then(f as[i]).bind λb=>(UR (as.drop (i+1)) c f).bind λbs=>.ok (b::bs) else UR (as.drop (i+1)) c f).bind λZu=>.ok (bs++Zu)):=by
     rw[←XH];exact P2
    refine hc Cs.flatten as[i] v H3 _ w3 hv ?_
    cases ec:c as[i] with
    |bad=>rw[ec] at P3';exact P3'
    |err x=>rw[ec] at P3';exact λH4 s4=>P3' H4 (s2.trans (s3.trans s4))
    |ok b=>
     rw[ec] at P3'
     intro H4 s4
     have w4:=w3.keep s4
     have m4:=Xh (OO:=Cs.flatten::OO) s4
     cases b with
     |false=>exact⟨bs,Cs,s2.trans (s3.trans s4),w4,m2.trans (m3.trans m4),pr.imp λ_ _ _ h=>z.mono (m3.trans m4) h,Nat.le_succ_of_le hlen,P3'⟩
     |true=>
      rw[if_pos rfl]
      have P4:PZ Er (FO K OO OO (oL o) Q) H ((f as[i]).bind λb=>(UR (as.drop (i+1)) c f).bind λZu=>.ok (bs++b::Zu)):=by
       have:((f as[i]).bind λb=>(UR (as.drop (i+1)) c f).bind λZu=>Rs.ok (bs++b::Zu))=((f as[i]).bind λb=>(UR (as.drop (i+1)) c f).bind λbs=>Rs.ok (b::bs)).bind λZu=>.ok (bs++Zu):=by
        rw[XH];congr 1;funext b;rw[XH];rfl
       rw[this];exact P3'
      refine hb Cs.flatten as[i] v H4 _ w4 (((T (Cs.flatten::OO)).sc as[i] v S).mono _ _ m4 hv) ?_
      cases eb:f as[i] with
      |bad=>rw[eb] at P4;exact P4
      |err x=>rw[eb] at P4;exact λH5 s5=>P4 H5 (s2.trans (s3.trans (s4.trans s5)))
      |ok b=>
       rw[eb] at P4
       intro v' C' H5 s5 w5 m5 ho
       have pe:((Cs++[C']).flatten::OO).flatten.Perm (C'::Cs.flatten::OO).flatten:=by
        simp only[YW,List.flatten_cons]
        rw[List.append_assoc, ←List.append_assoc, ←List.append_assoc]
        exact List.perm_append_comm.append_right _
       refine⟨bs++[b],Cs++[C'],s2.trans (s3.trans (s4.trans s5)),w5.of pe,?_,?_,by simpa using hlen,?_⟩
       ·rw[XB pe];exact m2.trans (m3.trans (m4.trans m5))
       ·rw[XB pe];exact P3.snoc (pr.imp λ_ _ _ h=>z.mono (m3.trans (m4.trans m5)) h) ho
       ·have P5:PZ Er (FO K OO OO (oL o) Q) H ((UR (as.drop (i+1)) c f).bind λZu=> .ok (bs++b::Zu)):=P4
        simpa using P5
   ·left
    have e:i=as.length:=Nat.le_antisymm hi (Nat.not_lt.mp hlt)
    subst e
    refine⟨hstop (Cs.flatten::OO) H2 w2 m2,?_⟩
    rw[List.drop_length] at P2
    have P3':FO K OO OO (oL o) Q (bs++[]) H:=P2
    rw[List.append_nil] at P3'
    exact NW (H0:=H) w2 ((Xh s').trans m2) s2 pr P3'
noncomputable def Bi (as:List α)(i:Int)(a:α):Rs (List α):=match ixN as.length i with
 |some j=>.ok (as.set j a)
 |none=>.bad
end
section
variable {K:PySem.W.Frag}{Er:Exc->Hp->Prop}{S:SC}{OO OO' OO2:List (List Xo)}{σ:St}{α β γ ρ ι δ ε:Type}
variable {Fd:Ends->β->Hp->Prop}[fd:FdOk Fd]{u:TS}
theorem Hu {C D C':List Xo}{H:Hp}{k:Nat}{p:Addr}{o:HO}(w:W (D::OO) H)(hk:OO[k]?=some C)(hp:p∈C.map (·.1))(hp':p∈C'.map (·.1))(hnd:(C'.map (·.1)).Nodup)(hin:∀b∈C'.map (·.1),b∈(C++D).map (·.1))(ht:∀c∈C',upd H p o c.1=some c.2)(hm:∀c∈C',OU c.2=true):
  W (OO.set k C') (upd H p o)/\Xp (hid H (D::OO)) (hid (upd H p o) (OO.set k C')):=by
 have hlt:k<OO.length:=by
  rcases Nat.lt_or_ge k OO.length with h |h
  ·exact h
  ·rw[List.getElem?_eq_none h] at hk;cases hk
 have h1:=XL hk
 have h2:=XL (OO:=OO.set k C') (k:=k) (C:=C') (by simp[hlt])
 rw[set_set] at h2
 have h3:(OO.set k C').flatten.Perm (C'++(OO.set k []).flatten):=by simpa using h2.symm
 have h4:(D::OO).flatten.Perm ((C++D)++(OO.set k []).flatten):=by
  rw[List.flatten_cons]
  refine((by simpa using h1.symm:OO.flatten.Perm (C++(OO.set k []).flatten)).append_left D).trans ?_
  rw[←List.append_assoc]
  exact List.perm_append_comm.append_right _
 have nd2:(((C++D)++(OO.set k []).flatten).map (·.1)).Nodup:=(h4.map _).nodup_iff.mp w.nd
 rw[List.map_append] at nd2
 obtain⟨n1,n2,n3⟩:=List.nodup_append.mp nd2
 refine⟨⟨λc hc=>?_,?_,λc hc=>?_⟩,λb v q=>?_⟩
 ·rcases List.mem_append.mp (h3.mem_iff.mp hc) with hc |hc
  ·exact ht c hc
  ·have hne:c.1≠p:=λe=>n3 p (hin p hp') c.1 (List.mem_map.mpr ⟨c,hc,rfl⟩) e.symm
   rw[XF hne]
   exact w.tr c (h4.mem_iff.mpr (by simp[hc]))
 ·refine((h3.map _).nodup_iff).mpr ?_
  rw[List.map_append]
  exact List.nodup_append.mpr ⟨hnd,n2,λa ha b hb=>n3 a (hin a ha) b hb⟩
 ·rcases List.mem_append.mp (h3.mem_iff.mp hc) with hc |hc
  ·exact hm c hc
  ·exact w.mu c (h4.mem_iff.mpr (by simp[hc]))
 ·obtain⟨q1,q2⟩:=XZ q
  have hbp:b≠p:=λe=>q2 (by
   rw[e]
   obtain⟨c,hc,rfl⟩:=List.mem_map.mp hp
   exact VH (h4.mem_iff.mpr (by simp[hc])))
  refine Y3 (by rw[XF hbp];exact q1) λz=>q2 ?_
  obtain⟨o',ho'⟩:=Bo z
  rcases List.mem_append.mp (h3.mem_iff.mp ho') with hc |hc
  ·obtain⟨c,hc2,e⟩:=List.mem_map.mp (hin b (List.mem_map.mpr ⟨_,hc,rfl⟩))
   rw[←e]
   exact VH (h4.mem_iff.mpr (List.mem_append_left _ hc2))
  ·exact VH (c:=(b,o')) (h4.mem_iff.mpr (by simp[hc]))
theorem RH {D:List Xo}{Cs Cs':List (List Xo)}{H:Hp}{k:Nat}{p:Addr}{xs xs':List V}(w:W (D::OO) H)(hk:OO[k]?=some ((p, .lst xs)::Cs.flatten))(hin:∀c∈Cs'.flatten,c∈Cs.flatten++D)(hnd:(Cs'.flatten.map (·.1)).Nodup):
  W (OO.set k ((p, .lst xs')::Cs'.flatten)) (upd H p (.lst xs'))/\Xp (hid H (D::OO)) (hid (upd H p (.lst xs')) (OO.set k ((p, .lst xs')::Cs'.flatten))):=by
 have h1:=XL hk
 have w3:W [((p,HO.lst xs)::(Cs.flatten++D))++(OO.set k []).flatten] H:=w.of (by
  simp only[List.flatten_cons,List.flatten_nil,List.append_nil]
  refine List.Perm.trans ?_ ((by simpa using h1:(((p,HO.lst xs)::Cs.flatten)++(OO.set k []).flatten).Perm OO.flatten).append_left D)
  rw[←List.append_assoc]
  refine List.Perm.append_right _ ?_
  exact(List.perm_append_comm (l₁:=(p,HO.lst xs)::Cs.flatten) (l₂:=D)))
 have nd:=w3.nd
 simp only[fl,List.flatten_cons,List.flatten_nil,List.append_nil,List.map_append,List.cons_append,List.map_cons] at nd
 have hne:∀c∈Cs'.flatten,c.1≠p:=λc hc e=>by
  refine(List.nodup_cons.mp nd).1 ?_
  rw[←e]
  refine List.mem_append_left _ ?_
  rw[←List.map_append]
  exact List.mem_map.mpr ⟨c,hin c hc,rfl⟩
 refine Hu w hk List.mem_cons_self List.mem_cons_self ?_ ?_ ?_ ?_
 ·rw[List.map_cons,List.nodup_cons]
  refine⟨λz=>?_,hnd⟩
  obtain⟨c,hc,e⟩:=List.mem_map.mp z
  exact hne c hc e
 ·intro b hb
  rcases List.mem_cons.mp hb with rfl |hb
  ·exact List.mem_cons_self
  ·obtain⟨c,hc,rfl⟩:=List.mem_map.mp hb
   rw[List.cons_append,List.map_cons]
   exact List.mem_cons_of_mem _ (List.mem_map.mpr ⟨c,hin c hc,rfl⟩)
 ·intro c hc
  rcases List.mem_cons.mp hc with rfl |hc
  ·exact Yk
  ·rw[XF (hne c hc)]
   exact w3.tr c (by
    rw[List.flatten_cons,List.flatten_nil,List.append_nil]
    exact List.mem_append_left _ (List.mem_cons_of_mem _ (hin c hc)))
 ·intro c hc
  rcases List.mem_cons.mp hc with rfl |hc
  ·rfl
  ·exact w3.mu c (by
    rw[List.flatten_cons,List.flatten_nil,List.append_nil]
    exact List.mem_append_left _ (List.mem_cons_of_mem _ (hin c hc)))
theorem Hx {o:OE α}{h:Hp}{p:Addr}{xs:List V}{as:List α}{R:List Xo}(q:oL o K h (.ref p) as ((p, .lst xs)::R)):∃Cs,P3 (o K h) xs as Cs/\R=Cs.flatten:=by
 obtain⟨p',xs',Cs,e,q,c⟩:=q
 injection c with c1 c2
 injection c1 with c3 c4
 injection c4 with c5
 subst c5
 exact⟨Cs,q,c2⟩
theorem Ot {as:List α}{i:Int}{a:α}{bs:List α}(h:Bi as i a= .ok bs):∃j,ixN as.length i=some j/\bs=as.set j a:=by
 unfold Bi at h;split at h
 ·cases h;exact⟨_,by assumption,rfl⟩
 ·cases h
theorem Oz {as:List α}{i:Int}{a:α}{x:Exc}:Bi as i a≠ .err x:=by unfold Bi;split<;> exact λz=>nomatch z
theorem Vn {l r m:List Xo}(h:(l++r).Perm m)(n:(m.map (·.1)).Nodup):(l.map (·.1)).Nodup:=by
 have:((l++r).map (·.1)).Nodup:=(h.map _).nodup_iff.mpr n
 rw[List.map_append] at this
 exact(List.nodup_append.mp this).1
theorem DQ {Cs:List (List Xo)}{j:Nat}{D:List Xo}(hj:j<Cs.length):((Cs.set j D).flatten++Cs[j]).Perm (Cs.flatten++D):=by
 have h1:=XL (OO:=Cs) (k:=j) (C:=Cs[j]) (by simp[hj])
 have h2:=XL (OO:=Cs.set j D) (k:=j) (C:=D) (by simp[hj])
 rw[set_set] at h2
 have h3:(Cs.set j D).flatten.Perm (D++(Cs.set j []).flatten):=by simpa using h2.symm
 have h4:Cs.flatten.Perm (Cs[j]++(Cs.set j []).flatten):=by simpa using h1.symm
 refine(h3.append_right _).trans (List.Perm.trans ?_ (h4.append_right _).symm)
 refine List.perm_append_comm.trans ((List.perm_append_comm.append_left _).trans ?_)
 rw[List.append_assoc]
theorem Qz {D:List Xo}{Cs:List (List Xo)}{H:Hp}{k:Nat}{p:Addr}{xs:List V}(w:W (D::OO) H)(hk:OO[k]?=some ((p, .lst xs)::Cs.flatten)):((Cs.flatten++D).map (·.1)).Nodup:=by
 have h1:=XL hk
 have w3:W [((p,HO.lst xs)::(Cs.flatten++D))++(OO.set k []).flatten] H:=w.of (by
  simp only[List.flatten_cons,List.flatten_nil,List.append_nil]
  refine List.Perm.trans ?_ ((by simpa using h1:(((p,HO.lst xs)::Cs.flatten)++(OO.set k []).flatten).Perm OO.flatten).append_left D)
  rw[←List.append_assoc]
  refine List.Perm.append_right _ ?_
  exact(List.perm_append_comm (l₁:=(p,HO.lst xs)::Cs.flatten) (l₂:=D)))
 have nd:=w3.nd
 simp only[fl,List.flatten_cons,List.flatten_nil,List.append_nil,List.cons_append,List.map_cons] at nd
 have n2:=(List.nodup_cons.mp nd).2
 rw[List.map_append] at n2
 exact(List.nodup_append.mp n2).1
theorem IV {ta ti:TE}{o:OE α}[MonoO o]{m:Rs α}{mi:Rs Int}{f:List α->Rs β}{v:V}{as:List α}{C:List Xo}(i k:Nat)(hσ:σ[i]?=some (some v))(hk':OO'[k]?=some C)(h:∀x,S.p x->oL o K x v as C)(he:Ev K Er S OO OO' σ ta o m)
  (hi:∀D,EvB K Er S (D::OO') σ ti Xd mi)
  (hr:∀bs C',Sv Er (S.addO K (oL o) v bs C') (OO'.set k C') σ u Fd (f bs)):Sv Er S OO σ (Zv (Bf ta (Sd (JQ i) ti Oo)) u) Fd (m.bind λa=>mi.bind λj=>(Bi as j a).bind f):=λH D w s P=>
 he.st w s P λa y D' H' w' s' ho P'=>⟨v,hσ,(hi D').st w' s' P' λj z H2 s2 w2 q2 r2 P2=>by
  obtain⟨p,xs,Cs,e,q,c⟩:=h _ q2
  subst c
  have hH:H2 p=some (.lst xs):=w2.tr (p, .lst xs) (by rw[List.flatten_cons];exact List.mem_append_right _ (List.mem_flatten.mpr ⟨_,List.mem_of_getElem? hk',List.mem_cons_self⟩))
  cases es:Bi as j a with
  |bad=>rw[es] at P2;exact P2.elim
  |err x=>exact absurd es Oz
  |ok bs=>
   rw[es] at P2
   obtain⟨jj,h1,rfl⟩:=Ot es
   have hjl:jj<as.length:=by
    unfold ixN at h1
    split at h1
    ·split at h1
     ·cases h1;omega
     ·cases h1
    ·split at h1
     ·cases h1;omega
     ·cases h1
   have hjC:jj<Cs.length:=by rw[q.len.2];exact hjl
   have hp:=DQ (Cs:=Cs) (j:=jj) (D:=D') hjC
   obtain⟨w3,m3⟩:=RH (xs':=xs.set jj y) (Cs':=Cs.set jj D') w2 hk' (λc hc=>hp.mem_iff.mp (List.mem_append_left _ hc)) (Vn hp (Qz w2 hk'))
   refine⟨p,xs,j,jj,e,r2,hH,by rw[q.len.1];exact h1,hr _ _ _ D w3 ⟨S.mono _ _ m3 q2,⟨p,_,_,e,P3.imp (λ_ _ _ z=>MonoO.mono m3 z) (P3.set (MonoO.mono (Xh s2) ho) jj q),rfl⟩⟩ (PZ.tr (fd.tr D) m3 P2)⟩⟩
theorem Hg {ta:TE}{o:OE α}[MonoO o]{m:Rs (List α)}{f:List α->Rs β}{v:V}{as:List α}{C:List Xo}(i k:Nat)(hσ:σ[i]?=some (some v))(hk:OO[k]?=some C)(hk':OO'[k]?=some C)(h:∀x,S.p x->oL o K x v as C)(he:Ev K Er S OO OO' σ ta (oL o) m)
  (hr:∀bs C',Sv Er (S.addO K (oL o) v (as++bs) C') (OO'.set k C') σ u Fd (f (as++bs))):Sv Er S OO σ (Zv (Kw (tBM K "list" Fs (JQ i) (Xn ta YF))) u) Fd (m.bind λbs=>chk (as.length+bs.length<=sizeLine) (f (as++bs))):=λH D w s P=>by
 obtain⟨p,xs,Cs,e,q,c⟩:=h _ s
 subst c
 have hH:H p=some (.lst xs):=w.tr (p, .lst xs) (List.mem_flatten.mpr ⟨_,List.mem_of_getElem? hk,List.mem_cons_self⟩)
 refine⟨v,hσ,by rw[e];exact .inl ⟨rfl,_,SqL.of hH⟩,he.st w s P λbs y D' H' w' s' ho P'=>?_⟩
 obtain⟨hsz,P'⟩:=PZ.chk P'
 subst e
 obtain⟨Cs2,q2,c2⟩:=Hx (h _ s')
 obtain⟨p',zs,Ds,e3,q3,c3⟩:=ho
 subst c3
 have hH':H' p=some (.lst xs):=w'.tr (p, .lst xs) (by rw[List.flatten_cons];exact List.mem_append_right _ (List.mem_flatten.mpr ⟨_,List.mem_of_getElem? hk',List.mem_cons_self⟩))
 have hH2:H' p'=some (.lst zs):=w'.tr (p', .lst zs) (by rw[List.flatten_cons];exact List.mem_append_left _ List.mem_cons_self)
 have cn:=Qz w' hk'
 obtain⟨w3,m3⟩:=RH (xs':=xs++zs) (Cs':=Cs2++Ds) w' hk' (λc hc=>by
   rw[List.flatten_append,List.mem_append] at hc
   rcases hc with hc |hc
   ·rw[c2];exact List.mem_append_left _ hc
   ·exact List.mem_append_right _ (List.mem_cons_of_mem _ hc)) (by
   rw[List.flatten_append, ←c2]
   refine List.Nodup.sublist (List.Sublist.map _ ?_) cn
   exact List.Sublist.append (List.Sublist.refl _) (List.sublist_cons_self _ _))
 refine⟨p,p',xs,zs,rfl,by rw[e3],hH',hH2,by rw[q2.len.1,q3.len.1];exact hsz,?_⟩
 exact hr bs _ _ D w3 ⟨S.mono _ _ m3 s',⟨p,_,_,rfl,P3.imp (λ_ _ _ z=>MonoO.mono m3 z) (q2.app q3),rfl⟩⟩ (PZ.tr (fd.tr D) m3 P')
noncomputable def LJ (as:List α)(i:Int):Rs (α×List α):=chk (-(2^63)<=i/\i<2^63) (match seqIndex? i as.length with
 |none=>.bad
 |some k=>match as[k]? with
  |none=>.bad
  |some a=>.ok (a,as.eraseIdx k))
theorem Nf {as:List α}{i:Int}{p:α×List α}(h:LJ as i= .ok p):(-(2^63)<=i/\i<2^63)/\∃k,seqIndex? i as.length=some k/\as[k]?=some p.1/\p.2=as.eraseIdx k:=by
 obtain⟨h1,h2⟩:=YZ h
 refine⟨h1,?_⟩
 split at h2
 ·cases h2
 ·split at h2
  ·cases h2
  ·cases h2;exact⟨_,by assumption,by assumption,rfl⟩
theorem M8 {as:List α}{i:Int}{x:Exc}:LJ as i≠ .err x:=by
 unfold LJ chk;split
 ·split
  ·exact λz=>nomatch z
  ·split<;> exact λz=>nomatch z
 ·exact λz=>nomatch z
theorem Paired.erase' {F:α->γ->Prop}:∀{l:List α}{m:List γ} (n:Nat),Paired F l m->Paired F (l.eraseIdx n) (m.eraseIdx n)
 |_,_,_, .nil=>.nil
 |_,_,0, .cons _ t=>t
 |_,_,n+1, .cons r t=>.cons r (Paired.erase' n t)
theorem Op {te ti:TE}{r:Enc α}[MonoE r]{mi:Rs Int}{f:α×List α->Rs β}{v:V}{as:List α}{C:List Xo}{D:Ends}{H:Hp}{Q:VK}(i k:Nat)(hσ:σ[i]?=some (some v))(hk:OO[k]?=some C)(h:∀x,S.p x->oL (oF r) K x v as C)(hi:EvB K Er S OO σ ti Xd mi)
  (w:W OO H)(s:S.p (hid H OO))(P:PZ Er (Fd D) (hid H OO) (mi.bind λj=>(LJ as j).bind f))
  (hr:∀a bs y C' H',W (OO.set k C') H'->((S.add K r y a).addO K (oL (oF r)) v bs C').p (hid H' (OO.set k C'))->PZ Er (Fd D) (hid H' (OO.set k C')) (f (a,bs))->Q y H'):tBM K "list" Dx (JQ i) (Xn ti YF) σ H Q:=by
 obtain⟨p,xs,Cs,e,q,c⟩:=h _ s
 subst c
 have hH:H p=some (.lst xs):=w.tr (p, .lst xs) (List.mem_flatten.mpr ⟨_,List.mem_of_getElem? hk,List.mem_cons_self⟩)
 refine⟨v,hσ,by rw[e];exact .inl ⟨rfl,_,SqL.of hH⟩,hi.st w s P λj z H' s1 w' s' ho P'=>?_⟩
 subst e
 obtain⟨Cs2,q2,c2⟩:=Hx (h _ s')
 obtain⟨pr,hfl⟩:=P3.flat q2
 cases es:LJ as j with
 |bad=>rw[es] at P';exact P'.elim
 |err x=>exact absurd es M8
 |ok pp=>
  rw[es] at P'
  obtain⟨a,bs⟩:=pp
  obtain⟨h1,kk,h2,h3,h4⟩:=Nf es
  obtain⟨y,hy,ry⟩:=Paired.getR pr h3
  have w0:W ([]::OO) H':=w'.nil
  have hk0:OO[k]?=some ((p, .lst xs)::([]:List (List Xo)).flatten):=by rw[hk,c2,hfl];rfl
  obtain⟨w3,m3⟩:=RH (D:=[]) (Cs:=[]) (xs':=xs.eraseIdx kk) (Cs':=List.replicate bs.length []) w0 hk0 (λc hc=>by rw[Yo] at hc;cases hc) (by rw[Yo];exact List.nodup_nil)
  rw[Y6] at m3
  refine⟨p,xs,j,kk,y,rfl,by rw[show z= .int j from ho],s1 _ _ hH,h1.1,h1.2,by rw[Paired.len pr];exact h2,hy,?_⟩
  have pr2:Paired (r K (hid H' OO)) (xs.eraseIdx kk) bs:=by rw[show bs=as.eraseIdx kk from h4];exact Paired.erase' kk pr
  exact hr a bs y _ _ w3 ⟨⟨S.mono _ _ m3 s',MonoE.mono m3 ry⟩,⟨p,_,_,rfl,(P3.of (Paired.imp2 (λ_ _ z=>MonoE.mono m3 z) pr2)).imp λ_ _ _ z=>z,rfl⟩⟩ (PZ.tr (fd.tr D) m3 P')
theorem Pt {ti:TE}{r:Enc α}[MonoE r]{mi:Rs Int}{f:α×List α->Rs β}{v:V}{as:List α}{C:List Xo}(x i k:Nat)(hσ:σ[i]?=some (some v))(hk:OO[k]?=some C)(h:∀x,S.p x->oL (oF r) K x v as C)(hi:EvB K Er S OO σ ti Xd mi)
  (hr:∀a bs y C',Sv Er ((S.add K r y a).addO K (oL (oF r)) v bs C') (OO.set k C') (σ.set x (some y)) u Fd (f (a,bs))):Sv Er S OO σ (Zv (Bf (tBM K "list" Dx (JQ i) (Xn ti YF)) (YE x)) u) Fd (mi.bind λj=>(LJ as j).bind f):=λH D w s P=>
 Op (te:=ti) i k hσ hk h hi w s P λa bs y C' H' w' s' P'=>hr a bs y C' H' D w' s' P'
theorem OW {te:TE}{g:Int->Int->Int}{m:Rs Int}{f:Int->Rs β}{v:V}{a:Int}(i:Nat)(hσ:σ[i]?=some (some v))(h:∀x,S.p x->Xd K x v a)(he:EvB K Er S OO σ te Xd m)
  (hr:∀b v,Sv Er (S.add K Xd v b) OO (σ.set i (some v)) u Fd (f b)):Sv Er S OO σ (Zv (RD i te (ipI g)) u) Fd (m.bind λb=>f (g a b)):=λH D w s P=>
 ⟨v,hσ,he.st w s P λb y H1 s1 w1 q1 r1 P1=>⟨a,b,h _ s,r1,hr _ _ H1 D w1 ⟨q1,rfl⟩ P1⟩⟩
theorem N3 {ta tb:TE}{ma mb:Rs Int}(ha:EvB K Er S OO σ ta Xd ma)(hb:EvB K Er S OO σ tb Xd mb):EvB K Er S OO σ (tCB (λxs H Q=>∃ i j:Int,xs=[.int i, .int j]/\Q (.int (if j > i then j else i)) H) (Xn ta (Xn tb YF))) Xd (ma.bind λa=>mb.bind λb=>.ok (max a b)):=λH Q w s P=>
 ha.run w s FB.tr P λa x H1 s1 w1 q1 r1 P1=>hb.run w1 q1 FB.tr P1 λb y H2 s2 w2 q2 r2 P2=>⟨a,b,by rw[show x= .int a from r1,show y= .int b from r2],P2 _ H2 (Xp.refl _) (by show V.int _=V.int _;congr 1;omega)⟩
theorem N5 {ta tb:TE}{ma mb:Rs Int}(ha:EvB K Er S OO σ ta Xd ma)(hb:EvB K Er S OO σ tb Xd mb):EvB K Er S OO σ (tCB (λxs H Q=>∃ i j:Int,xs=[.int i, .int j]/\Q (.int (if j<i then j else i)) H) (Xn ta (Xn tb YF))) Xd (ma.bind λa=>mb.bind λb=>.ok (min a b)):=λH Q w s P=>
 ha.run w s FB.tr P λa x H1 s1 w1 q1 r1 P1=>hb.run w1 q1 FB.tr P1 λb y H2 s2 w2 q2 r2 P2=>⟨a,b,by rw[show x= .int a from r1,show y= .int b from r2],P2 _ H2 (Xp.refl _) (by show V.int _=V.int _;congr 1;omega)⟩
theorem OG {ta:TE}{ma:Rs (List Int)}(ha:EvB K Er S OO σ ta (rV Xd) ma):EvB K Er S OO σ (tCB (Sz K) (Xn ta YF)) Xd (ma.bind λa=>.ok a.sum):=λH Q w s P=>
 ha.run w s FB.tr P λa x H1 s1 w1 q1 r9 P1=>by obtain⟨p,xs,e,q,pr⟩:=r9;exact⟨p,a,by rw[e],by rw[←QG pr];exact SqL.of q,P1 _ H1 (Xp.refl _) rfl⟩
theorem VO:∀{xs:List V}{bs:List Bool}{H:Hp},Paired (XN K H) xs bs->xs=bs.map V.bl
 |_,_,_, .nil=>rfl
 |_,_,_, .cons r t=>by rw[show _=V.bl _ from r,VO t];rfl
theorem HW {ta:TE}{ma:Rs (List Bool)}(ha:EvB K Er S OO σ ta (rV XN) ma):EvB K Er S OO σ (tCB (ST K) (Xn ta YF)) XN (ma.bind λa=>.ok (a.all id)):=λH Q w s P=>
 ha.run w s FB.tr P λa x H1 s1 w1 q1 r9 P1=>by obtain⟨p,xs,e,q,pr⟩:=r9;exact⟨p,a,by rw[e],by rw[←VO pr];exact SqL.of q,P1 _ H1 (Xp.refl _) rfl⟩
end
section
variable {K:PySem.W.Frag}{Er:Exc->Hp->Prop}{S:SC}{OO OO' OO1 OO2:List (List Xo)}{σ:St}{α β γ ρ ι δ ε:Type}
variable {Fd:Ends->β->Hp->Prop}[fd:FdOk Fd]{u:TS}
theorem On (n:Nat)(H:Hp):W (List.replicate n []) H:=⟨λc hc=>(by rw[Yo] at hc;cases hc),(by unfold fl;rw[Yo];exact List.nodup_nil),λc hc=>(by rw[Yo] at hc;cases hc)⟩
theorem Bb (n:Nat)(H:Hp):hid H (List.replicate n [])=H:=by funext b;unfold hid fl;rw[Yo];simp
theorem HI {o:OE ρ}[z:MonoO o]{Q:VK}{b:ρ}{H:Hp}(q:FF K o Q b H):∀v C OO' H',W (C::OO') H'->Xp H (hid H' (C::OO'))->o K (hid H' (C::OO')) v b C->Q v H':=λv C OO' H' w m ho=>by
 have hs:Xp (hid H' (C::OO')) (hid H' [C]):=Zh (Xp.refl _) λb hb=>by
  rw[XE]
  refine List.mem_append_left _ ?_
  simpa[fl] using hb
 exact q v C H' (w.sub (by simp)) (m.trans hs) (z.mono hs ho)
theorem K1 {o:OE ρ}[MonoO o]{t:TS}{m:Rs ρ}{Q:VK}{b:ρ}{H:Hp}{D:Ends}(n:Nat)(h:Sv (λ_ _=>False) S (List.replicate n []) σ t (FTd K o) m)(hs:S.p H)(hm:m= .ok b)(q:FF K o Q b H)(hD:D.rt=Q):t D σ H:=by
 refine h H D (On n H) (by rw[Bb];exact hs) ?_
 subst hm
 rw[Bb]
 intro v C OO' H' w mm ho
 rw[hD]
 exact HI q v C OO' H' w mm ho
noncomputable def oU:OE Unit:=λ_ _ v _ C=>v= .non/\C=[]
instance:MonoO oU:=⟨λ_ h=>h⟩
instance:FlatO oU:=⟨λ_ h=>h⟩
noncomputable def rU0:Enc Unit:=λ_ _ v _=>v= .non
instance:FlatE rU0:=⟨λ_ h=>h⟩
instance:FrzC oU rU0:=⟨λh _ _=>h.1⟩
theorem KC {t:TS}{m:Rs β}(k:Nat)(hr:Sv Er S (OO.set k []) σ t Fd m):Sv Er S OO σ t Fd m:=λH D w s P=>by
 cases hk:OO[k]? with
 |none=>
  rw[List.set_eq_of_length_le (List.getElem?_eq_none_iff.mp hk)] at hr
  exact hr H D w s P
 |some C=>
  have hp:=XL hk
  have w1:W (C::OO.set k []) H:=w.of hp
  have hs:Xp (hid H OO) (hid H (OO.set k [])):=by
   rw[←XB hp]
   exact Zh (Xp.refl _) λb hb=>by rw[XE];simp[hb]
  exact hr H D w1.tail (S.mono _ _ hs s) (PZ.tr (fd.tr D) hs P)
theorem Q6 {te:TE}{r:Enc α}{m:Rs α}{f:Rs β}(he:EvB K Er S OO σ te r m)(hr:Sv Er S OO σ u Fd f):Sv Er S OO σ (Zv (Kw te) u) Fd (m.bind λ_=>f):=λH D w s P=>
 he.st w s P λa v H' s1 w' s' ho P'=>hr H' D w' s' P'
noncomputable def FAO {α:Type}(K:PySem.W.Frag)(OO OO':List (List Xo))(o:OE α)(Q:List V->Hp->Prop)(as:List α)(H:Hp):Prop:=∀ vs Cs H',Xp H H'->W (Cs.flatten::OO') H'->Xp (hid H OO) (hid H' (Cs.flatten::OO'))->P3 (o K (hid H' (Cs.flatten::OO'))) vs as Cs->Q vs H'
noncomputable def Pp {α:Type}(K:PySem.W.Frag)(Er:Exc->Hp->Prop)(S:SC)(OO OO':List (List Xo))(σ:St)(t:TA)(o:OE α)(m:Rs (List α)):Prop:=∀ H Q,W OO H->S.p (hid H OO)->PZ Er (FAO K OO OO' o Q) H m->t σ H Q
theorem Zn {o:OE α}:Pp K Er S OO OO σ YF o (.ok []):=λH Q w s P=>P [] [] H (Xp.refl _) w.nil (by show Xp _ (hid H ([]::OO));rw[Y6];exact Xp.refl _) .nil
theorem X6 {te:TE}{t:TA}{o:OE α}[z:MonoO o]{m:Rs α}{n:Rs (List α)}(he:Ev K Er S OO OO1 σ te o m)(ht:∀C,Pp K Er S (C::OO1) (C::OO2) σ t o n):Pp K Er S OO OO2 σ (Xn te t) o (m.bind λa=>n.bind λas=>.ok (a::as)):=λH Q w s P=>by
 refine he H _ w s ?_
 cases em:m with
 |bad=>rw[em] at P;exact P
 |err x=>rw[em] at P;exact P
 |ok a=>
  rw[em] at P
  intro v C H1 s1 w1 m1 ho
  refine ht C H1 _ w1 (S.mono _ _ m1 s) ?_
  have P1:PZ Er (FAO K OO OO2 o Q) H (n.bind λas=>.ok (a::as)):=P
  cases en:n with
  |bad=>rw[en] at P1;exact P1
  |err x=>rw[en] at P1;exact λH2 s2=>P1 H2 (s1.trans s2)
  |ok as=>
   rw[en] at P1
   have P1:FAO K OO OO2 o Q (a::as) H:=P1
   intro vs Cs H2 s2 w2 m2 pr
   have pe:((C::Cs).flatten::OO2).flatten.Perm (Cs.flatten::C::OO2).flatten:=by
    simp only[List.flatten_cons]
    rw[←List.append_assoc]
    exact List.perm_append_comm.append_right _
   refine P1 (v::vs) (C::Cs) H2 (s1.trans s2) (w2.of pe) ?_ ?_
   ·rw[XB pe];exact m1.trans m2
   ·rw[XB pe];exact .cons (z.mono m2 ho) pr
theorem QL {t:TA}{o:OE α}[z:MonoO o]{m:Rs (List α)}(h:Pp K Er S OO OO σ t o m):Ev K Er S OO OO σ (BG t) (oL o) (m.bind λas=>chk (as.length<=sizeLine) (.ok as)):=λH Q w s P=>by
 refine h H _ w s ?_
 cases e:m with
 |bad=>rw[e] at P;exact P
 |err x=>rw[e] at P;exact P
 |ok as=>
  rw[e] at P
  obtain⟨hsz,P⟩:=PZ.chk (show PZ Er _ H (chk (as.length<=sizeLine) (.ok as)) from P)
  intro vs Cs H1 s1 w1 m1 p
  exact⟨by rw[p.len.1];exact hsz,NW w1 m1 s1 p P⟩
class InE {α:Type}[DecidableEq α](r:Enc α):Prop where
 fl:∀{K:PySem.W.Frag}{H:Hp}{x:V}{a:α},r K H x a->J9 x=true
 eq:∀{K:PySem.W.Frag}{H H':Hp}{x y:V}{a b:α},r K H x a->r K H' y b->eqV x y=decide (a=b)
instance:InE Xd:=⟨fun {K H x a} h=>by cases(show x= .int a from h);rfl,fun {K H H' x y a b} h h'=>by
 cases(show x= .int a from h);cases(show y= .int b from h');show(a==b)=_;rw[LD]⟩
theorem Qc [DecidableEq α]{r:Enc α}[z:InE r]{H H':Hp}{x:V}{a:α}(hx:r K H x a):∀{xs:List V}{as:List α},Paired (r K H') xs as->xs.all J9=true/\inV x xs=decide (a∈as)
 |_,_, .nil=>⟨rfl,by simp[inV]⟩
 |_,_, .cons h t=>by
  obtain⟨h1,h2⟩:=Qc hx t
  refine⟨by rw[List.all_cons,h1,z.fl h];rfl,?_⟩
  unfold inV at h2⊢
  rw[List.any_cons,h2,z.eq h hx,Bool.eq_iff_iff,Bool.or_eq_true,decide_eq_true_eq,decide_eq_true_eq,decide_eq_true_eq,List.mem_cons]
  exact or_congr ⟨Eq.symm,Eq.symm⟩ Iff.rfl
theorem Mn [DecidableEq α]{ta tb:TE}{r:Enc α}[z:InE r]{ma:Rs α}{mb:Rs (List α)}(ha:EvB K Er S OO σ ta r ma)(hb:EvB K Er S OO σ tb (rV r) mb):EvB K Er S OO σ (tOp (rIn K false) ta tb) XN (ma.bind λa=>mb.bind λas=>.ok (decide (a∈as))):=λH Q w s P=>
 ha.run w s FB.tr P λa x H1 s1 w1 q1 r1 P1=>hb.run w1 q1 FB.tr P1 λb y H2 s2 w2 q2 ⟨p,xs,e,q,pr⟩ P2=>by
  obtain⟨h1,h2⟩:=Qc r1 pr
  exact⟨p,xs,e, .inl (SqL.of q),z.fl r1,h1,P2 _ H2 (Xp.refl _) (by rw[h2];rfl)⟩
theorem MH [DecidableEq α]{ta tb:TE}{r:Enc α}[z:InE r]{ma:Rs α}{mb:Rs (List α)}(ha:EvB K Er S OO σ ta r ma)(hb:EvB K Er S OO σ tb (rV r) mb):EvB K Er S OO σ (tOp (rIn K true) ta tb) XN (ma.bind λa=>mb.bind λas=>.ok (!decide (a∈as))):=λH Q w s P=>
 ha.run w s FB.tr P λa x H1 s1 w1 q1 r1 P1=>hb.run w1 q1 FB.tr P1 λb y H2 s2 w2 q2 ⟨p,xs,e,q,pr⟩ P2=>by
  obtain⟨h1,h2⟩:=Qc r1 pr
  exact⟨p,xs,e, .inl (SqL.of q),z.fl r1,h1,P2 _ H2 (Xp.refl _) (by rw[h2];rfl)⟩
theorem Li [DecidableEq α]{ta tb:TE}{r:Enc α}[z:InE r]{ma:Rs α}{mb:Rs (List α)}(ha:EvB K Er S OO σ ta r ma)(hb:EvB K Er S OO σ tb (rPL r) mb):EvB K Er S OO σ (tOp (rIn K true) ta tb) XN (ma.bind λa=>mb.bind λas=>.ok (!decide (a∈as))):=λH Q w s P=>
 ha.run w s FB.tr P λa x H1 s1 w1 q1 r1 P1=>hb.run w1 q1 FB.tr P1 λb y H2 s2 w2 q2 ⟨p,xs,e,q,pr⟩ P2=>by
  obtain⟨h1,h2⟩:=Qc r1 pr
  exact⟨p,xs,e, .inr (SqT.of q),z.fl r1,h1,P2 _ H2 (Xp.refl _) (by rw[h2];rfl)⟩
noncomputable def IM [DecidableEq α](as:List α)(a:α):Rs Int:=match as.findIdx? (λb=>decide (b=a)) with
 |some j=>.ok (j:Int)
 |none=>.bad
theorem Ke [DecidableEq α]{r:Enc α}[z:InE r]{H H':Hp}{x:V}{a:α}(hx:r K H x a){xs:List V}{as:List α}(p:Paired (r K H') xs as){j:Nat}(hj:as.findIdx? (λb=>decide (b=a))=some j):
  (∃y,xs[j]?=some y/\eqV y x=true)/\∀(m:Nat) y,m<j->xs[m]?=some y->eqV y x=false:=by
 rw[List.findIdx?_eq_some_iff_getElem] at hj
 obtain⟨h1,h2,h3⟩:=hj
 constructor
 ·obtain⟨y,hy,ry⟩:=Paired.getR p (i:=j) (b:=as[j]) (by simp[h1])
  exact⟨y,hy,by rw[z.eq ry hx];exact h2⟩
 ·intro m y hm hy
  obtain⟨b,hb,rb⟩:=Paired.getL p hy
  have hml:m<as.length:=by omega
  have e:b=as[m]:=by rw[List.getElem?_eq_getElem hml] at hb;exact(Option.some.inj hb).symm
  rw[z.eq rb hx,e]
  have:=h3 m hm
  simpa using this
theorem B6 [DecidableEq α]{as:List α}{a:α}{x:Exc}:IM as a≠ .err x:=by unfold IM;split<;> exact λz=>nomatch z
theorem B0 [DecidableEq α]{as:List α}{a:α}{n:Int}(h:IM as a= .ok n):∃j:Nat,as.findIdx? (λb=>decide (b=a))=some j/\n=j:=by
 unfold IM at h;split at h
 ·cases h;exact⟨_,by assumption,rfl⟩
 ·cases h
theorem BQ [DecidableEq α]{ta tb:TE}{r:Enc α}[z:InE r][y:MonoE r]{ma:Rs (List α)}{mb:Rs α}(ha:EvB K Er S OO σ ta (rV r) ma)(hb:EvB K Er S OO σ tb r mb):EvB K Er S OO σ (tBM K "list" (Ht K) ta (Xn tb YF)) Xd (ma.bind λas=>mb.bind λa=>IM as a):=λH Q w s P=>
 ha.run w s FB.tr P λas x H1 s1 w1 q1 ⟨p,xs,e,q,pr⟩ P1=>⟨by rw[e];exact .inl ⟨rfl,_,SqL.of q⟩,hb.run w1 q1 FB.tr P1 λb v H2 s2 w2 q2 r2 P2=>by
  obtain⟨c,hc,P3⟩:=P2.okOf λx=>B6
  obtain⟨j,hj,rfl⟩:=B0 hc
  have pr2:=Paired.imp2 (G:=r K H2) (λ_ _ h=>y.mono s2 h) pr
  obtain⟨h1,h2⟩:=Ke r2 pr2 hj
  exact⟨p,xs,v,j,e,rfl,SqL.of (s2 _ _ q),z.fl r2,(Qc r2 pr2).1,h1,h2,P3 _ H2 (Xp.refl _) rfl⟩⟩
theorem Ky {ta tb:TE}{r:Enc α}{m:Rs (Option α)}(ha:EvB K Er S OO σ ta (Qp r) m):EvB K Er S OO σ (tOp (λx y H Q=>y= .non/\Q (.bl (decide (x= .non))) H) ta (tC .non)) XN (m.bind λa=>.ok a.isNone):=λH Q w s P=>
 ha.run w s FB.tr P λa x H1 s1 w1 q1 r1 P1=>⟨rfl,P1 _ H1 (Xp.refl _) (by
  cases a with
  |none=>rw[show x= .non from r1];rfl
  |some a=>show V.bl _=V.bl _;rw[decide_eq_false r1.1];rfl)⟩
theorem Kv {ta tb:TE}{r:Enc α}{m:Rs (Option α)}(ha:EvB K Er S OO σ ta (Qp r) m):EvB K Er S OO σ (tOp (λx y H Q=>y= .non/\Q (.bl (!decide (x= .non))) H) ta (tC .non)) XN (m.bind λa=>.ok a.isSome):=λH Q w s P=>
 ha.run w s FB.tr P λa x H1 s1 w1 q1 r1 P1=>⟨rfl,P1 _ H1 (Xp.refl _) (by
  cases a with
  |none=>rw[show x= .non from r1];rfl
  |some a=>show V.bl _=V.bl _;rw[decide_eq_false r1.1];rfl)⟩
theorem HC {α:Type}[DecidableEq α]{r r':Enc α}{d:Nat}(E:EqOk r d)(h:∀{K:PySem.W.Frag}{H:Hp}{v:V}{a:α},r' K H v a->r K H v a)(m:MonoE r'):EqOk r' d where
 uniq:=λI h1 h2=>E.uniq I (h h1) (h h2)
 eq:=λI rx ry h1 h2 hu=>E.eq I rx ry (h h1) (h h2) hu
 rc:=λI rx ry h1 h2 hu=>E.rc I rx ry (h h1) (h h2) hu
 ne:=λI rx ry h1 h2 hu=>E.ne I rx ry (h h1) (h h2) hu
 keep:=λs q=>m.mono s q
theorem NM {α:Type}[DecidableEq α]{r:Enc α}{d:Nat}[m:MonoE r](E:EqOk r d):EqOk (rV r) (d+1):=HC (Hd E) (λr9=>by obtain⟨a,xs,e,q,p⟩:=r9;exact⟨a,xs,e,SqL.of q,p⟩) inferInstance
theorem Rz {α β:Type}[DecidableEq α][DecidableEq β]{r:Enc α}{q:Enc β}{d:Nat}[m:MonoE r][n:MonoE q](E:EqOk r d)(F:EqOk q d):EqOk (rP2 r q) (d+1):=HC (Oh E F) (λr9=>by obtain⟨a,x,y,e,q,p⟩:=r9;exact⟨a,x,y,e,SqT.of q,p⟩) inferInstance
end
section
variable {K:PySem.W.Frag}{Er:Exc->Hp->Prop}{S:SC}{OO OO' OO1 OO2:List (List Xo)}{σ:St}{α β γ ρ ι δ ε:Type}
variable {Fd:Ends->β->Hp->Prop}[fd:FdOk Fd]{u:TS}
theorem MS {te:TE}{o:OE α}{m:Rs α}(hn:∀{K h v a C},o K h v a C->v≠ .non)(he:Ev K Er S OO OO' σ te o m):Ev K Er S OO OO' σ te (Ex o) (m.bind λa=>.ok (some a)):=λH Q w s P=>by
 refine he H Q w s ?_
 cases m with
 |bad=>exact P
 |err x=>exact P
 |ok a=>exact λv C H' s' w' m' ho=>P v C H' s' w' m' ⟨hn ho,ho⟩
theorem Js {ta tb:TE}{o:OE α}{q:OE β}[z:MonoO o][y:MonoO q]{ma:Rs α}{mb:Rs β}(ha:Ev K Er S OO OO1 σ ta o ma)(hb:∀C,Ev K Er S (C::OO1) (C::OO2) σ tb q mb):Ev K Er S OO OO2 σ (Mm (Xn ta (Xn tb YF))) (oT2 o q) (ma.bind λa=>mb.bind λb=>.ok (a,b)):=λH Q w s P=>by
 refine ha H _ w s ?_
 cases em:ma with
 |bad=>rw[em] at P;exact P
 |err x=>rw[em] at P;exact P
 |ok a=>
  rw[em] at P
  intro v C H1 s1 w1 m1 ho
  refine hb C H1 _ w1 (S.mono _ _ m1 s) ?_
  have P1:PZ Er (FO K OO OO2 (oT2 o q) Q) H (mb.bind λb=>.ok (a,b)):=P
  cases en:mb with
  |bad=>rw[en] at P1;exact P1
  |err x=>rw[en] at P1;exact λH2 s2=>P1 H2 (s1.trans s2)
  |ok b=>
   rw[en] at P1
   have P1:FO K OO OO2 (oT2 o q) Q (a,b) H:=P1
   intro v2 C2 H2 s2 w2 m2 ho2
   refine⟨by show 2<=sizeLine;decide,λp hp=>?_⟩
   have pe:((C++C2)::OO2).flatten.Perm (C2::C::OO2).flatten:=by
    simp only[List.flatten_cons]
    rw[←List.append_assoc]
    exact List.perm_append_comm.append_right _
   have s3:Xp H2 (upd H2 p (.tup [v,v2])):=Xv hp _
   have w3:=(w2.keep s3).of pe
   have m3:Xp (hid H2 (C2::C::OO2)) (hid (upd H2 p (.tup [v,v2])) ((C++C2)::OO2)):=by rw[XB pe];exact Xh s3
   refine P1 (.ref p) (C++C2) _ (s1.trans (s2.trans s3)) w3 (m1.trans (m2.trans m3)) ⟨p,v,v2,C,C2,rfl,?_,z.mono (m2.trans m3) ho,y.mono m3 ho2,rfl⟩
   rw[XB pe]
   exact QP w2 hp
theorem Gs:∀{l:List Xo}{a b:Xo},(l.map (·.1)).Nodup->a∈l->b∈l->a.1=b.1->a=b
 | [],_,_,_,h,_,_=>by cases h
 |c::l,a,b,n,ha,hb,e=>by
  rw[List.map_cons,List.nodup_cons] at n
  cases ha with
  |head=>cases hb with
   |head=>rfl
   |tail _ hb=>exact absurd (List.mem_map.mpr ⟨b,hb,e.symm⟩) n.1
  |tail _ ha=>cases hb with
   |head=>exact absurd (List.mem_map.mpr ⟨a,ha,e⟩) n.1
   |tail _ hb=>exact Gs n.2 ha hb e
theorem Dv {Cs:List (List Xo)}{k:Nat}{C:List Xo}(h:Cs[k]?=some C):∀c∈C,c∈Cs.flatten:=λc hc=>List.mem_flatten.mpr ⟨C,List.mem_of_getElem? h,hc⟩
theorem Mb {as:List α}{i:Int}{a:α}(h:atR as i= .ok a):∃k,ixN as.length i=some k/\as[k]?=some a:=by
 have:=Gw h
 unfold atI at this
 cases e:ixN as.length i with
 |none=>rw[e] at this;cases this
 |some k=>rw[e] at this;exact⟨k,rfl,this⟩
theorem OH {r:Enc α}[z:MonoE r]{v:V}{as:List (List α)}{row row':List α}{H:Hp}{p q:Addr}{xs ys ys':List V}{Cs:List (List Xo)}{k kk:Nat}(w:W OO H)(hk:OO[k]?=some ((p, .lst xs)::Cs.flatten))(hP:P3 (oL (oF r) K (hid H OO)) xs as Cs)(hrow:as[kk]?=some row)
  (hx:xs[kk]?=some (.ref q))(hq:H q=some (.lst ys))(hcs:Cs[kk]?=some [(q, .lst ys)])(pr:Paired (r K (hid H OO)) ys' row'):
  ∃C',W (OO.set k C') (upd H q (.lst ys'))/\Xp (hid H OO) (hid (upd H q (.lst ys')) (OO.set k C'))/\oL (oL (oF r)) K (hid (upd H q (.lst ys')) (OO.set k C')) (.ref p) (as.set kk row') C':=by
 have hkl:kk<Cs.length:=by
  rcases Nat.lt_or_ge kk Cs.length with h |h
  ·exact h
  ·rw[List.getElem?_eq_none h] at hcs;cases hcs
 have hin:∀c∈(p,HO.lst xs)::Cs.flatten,c∈OO.flatten:=λc hc=>List.mem_flatten.mpr ⟨_,List.mem_of_getElem? hk,hc⟩
 have w0:W ([]::OO) H:=w.nil
 have cn0:=Qz w0 hk
 rw[List.append_nil] at cn0
 have e0:Cs[kk]=[(q, .lst ys)]:=by
  rw[List.getElem?_eq_getElem hkl] at hcs;exact Option.some.inj hcs
 have hp:=DQ (Cs:=Cs) (j:=kk) (D:=[(q,HO.lst ys')]) hkl
 rw[e0] at hp
 have hpm:((Cs.set kk [(q,HO.lst ys')]).flatten.map (·.1)).Perm (Cs.flatten.map (·.1)):=by
  have:=hp.map (·.1)
  simp only[List.map_append,List.map_cons,List.map_nil] at this
  exact(List.perm_append_right_iff _).mp this
 have hpne:p∉Cs.flatten.map (·.1):=by
  have h1:=XL hk
  have:=(w.of (OO':=((p,HO.lst xs)::Cs.flatten)::OO.set k []) h1).nd
  rw[XE,List.map_cons,List.cons_append,List.nodup_cons] at this
  exact λz=>this.1 (List.mem_append_left _ z)
 have hqC:q∈Cs.flatten.map (·.1):=List.mem_map.mpr ⟨(q, .lst ys),Dv hcs _ (by simp),rfl⟩
 have hpq:p≠q:=λe=>hpne (e▸hqC)
 have hcells:∀c∈(p,HO.lst xs)::(Cs.set kk [(q,HO.lst ys')]).flatten,upd H q (.lst ys') c.1=some c.2/\OU c.2=true:=λc hc=>by
  rcases List.mem_cons.mp hc with rfl |hc
  ·rw[XF hpq];exact⟨w.tr _ (hin _ List.mem_cons_self),rfl⟩
  ·obtain⟨D,hD,hcD⟩:=List.mem_flatten.mp hc
   rcases List.mem_or_eq_of_mem_set hD with hD |hD
   ·by_cases hcq:c.1=q
    ·-- a cell at q in another place:then it is this one
     have hc2:c∈(Cs.set kk [(q,HO.lst ys')]).flatten:=hc
     have n1:((Cs.set kk [(q,HO.lst ys')]).flatten.map (·.1)).Nodup:=hpm.nodup_iff.mpr cn0
     have hm:(q,HO.lst ys')∈(Cs.set kk [(q,HO.lst ys')]).flatten:=List.mem_flatten.mpr ⟨[(q, .lst ys')],List.mem_set (by simpa using hkl) _,by simp⟩
     have e1:c=(q,HO.lst ys'):=by
      have:=Gs n1 hc2 hm hcq
      exact this
     rw[e1];exact⟨Yk,rfl⟩
    ·rw[XF hcq]
     have:c∈OO.flatten:=hin c (List.mem_cons_of_mem _ (List.mem_flatten.mpr ⟨D,hD,hcD⟩))
     exact⟨w.tr c this,w.mu c this⟩
   ·rw[hD] at hcD
    have e1:c=(q,HO.lst ys'):=by simpa using hcD
    rw[e1];exact⟨Yk,rfl⟩
 have hq':q∈(Cs.set kk [(q,HO.lst ys')]).flatten.map (·.1):=hpm.mem_iff.mpr hqC
 obtain⟨w2,m2⟩:=Hu (C':=(p, .lst xs)::(Cs.set kk [(q,HO.lst ys')]).flatten) (p:=q) (o:=.lst ys') w0 hk (List.mem_cons_of_mem _ hqC) (List.mem_cons_of_mem _ hq') (by
   rw[List.map_cons,List.nodup_cons]
   exact⟨λz=>hpne (hpm.mem_iff.mp z),hpm.nodup_iff.mpr cn0⟩) (λb hb=>by
   rw[List.append_nil]
   rcases List.mem_cons.mp hb with rfl |hb
   ·exact List.mem_cons_self
   ·exact List.mem_cons_of_mem _ (hpm.mem_iff.mp hb)) (λc hc=>(hcells c hc).1) λc hc=>(hcells c hc).2
 rw[Y6] at m2
 have e3:xs.set kk (.ref q)=xs:=by
  apply List.ext_getElem?
  intro n
  by_cases hn:n=kk
  ·subst hn
   rw[hx,List.getElem?_set_self (by
    rcases Nat.lt_or_ge n xs.length with h |h
    ·exact h
    ·rw[List.getElem?_eq_none h] at hx;cases hx)]
  ·rw[List.getElem?_set_ne (λe=>hn e.symm)]
 refine⟨_,w2,m2,⟨p,xs,Cs.set kk [(q,HO.lst ys')],rfl,?_,rfl⟩⟩
 have:=P3.set (F:=oL (oF r) K (hid (upd H q (.lst ys')) (OO.set k ((p, .lst xs)::(Cs.set kk [(q,HO.lst ys')]).flatten)))) (a:=V.ref q) (b:=row') (c:=[(q,HO.lst ys')])
  ⟨q,ys',List.replicate row'.length [],rfl,(P3.of (Paired.imp2 (λ_ _ h=>z.mono m2 h) pr)).imp λ_ _ _ h=>h,by rw[Yo]⟩ kk (P3.imp (λ_ _ _ h=>MonoO.mono m2 h) hP)
 rw[e3] at this
 exact this
theorem M3 {r:Enc α}{h:Hp}{as:List (List α)}{xs:List V}{Cs:List (List Xo)}{kk:Nat}{row:List α}(q:P3 (oL (oF r) K h) xs as Cs)(hrow:as[kk]?=some row):∃q0 ys,xs[kk]?=some (.ref q0)/\Cs[kk]?=some [(q0, .lst ys)]/\Paired (r K h) ys row:=by
 obtain⟨x,c,h1,h2,p,ys,Ds,e,h3,h4⟩:=q.get hrow
 obtain⟨h5,h6⟩:=P3.flat h3
 rw[h6] at h4
 exact⟨p,ys,by rw[h1,e],by rw[h2,h4],h5⟩
theorem IQ {ta ti:TE}{r:Enc α}[z:MonoE r]{m:Rs α}{mi:Rs Int}{f:List (List α)->Rs β}{v:V}{as:List (List α)}{C:List Xo}(i k:Nat)(hσ:σ[i]?=some (some v))(hk:OO[k]?=some C)(h:∀x,S.p x->oL (oL (oF r)) K x v as C)(he:EvS K Er S OO σ ta r m)
  (hi:EvB K Er S OO σ ti Xd mi)
  (hr:∀bs C',Sv Er (S.addO K (oL (oL (oF r))) v bs C') (OO.set k C') σ u Fd (f bs)):
  Sv Er S OO σ (Zv (Kw (tBM K "list" UL (tOp (BN K) (JQ i) ti) (Xn ta YF))) u) Fd (mi.bind λx=>(atR as x).bind λrow=>m.bind λa=>chk (row.length<sizeLine) ((Bi as x (row++[a])).bind f)):=λH D w s P=>
 ⟨v,hσ,hi.st w s P λx vx H2 s2 w2 q2 r2 P2=>by
  cases ea:atR as x with
  |bad=>rw[ea] at P2;exact P2.elim
  |err ex=>exact absurd ea U1
  |ok row=>
   rw[ea] at P2
   obtain⟨kk,hkk,hrow⟩:=Mb ea
   obtain⟨p,xs,Cs,e,q,c⟩:=h _ q2
   subst c e
   obtain⟨q0,ys,g1,g2,g3⟩:=M3 q hrow
   have hin:∀c∈(p,HO.lst xs)::Cs.flatten,c∈OO.flatten:=λc hc=>List.mem_flatten.mpr ⟨_,List.mem_of_getElem? hk,hc⟩
   have hH:H2 p=some (.lst xs):=w2.tr (p, .lst xs) (hin _ List.mem_cons_self)
   have hq0:H2 q0=some (.lst ys):=w2.tr (q0, .lst ys) (hin _ (List.mem_cons_of_mem _ (Dv g2 _ (by simp))))
   refine⟨p,xs,x, .ref q0,rfl,r2,SqL.of hH,by unfold atI;rw[q.len.1,hkk];exact g1, .inl ⟨rfl,_,SqL.of hq0⟩,he.st w2 q2 (f:=λa=>chk (row.length<sizeLine) ((Bi as x (row++[a])).bind f)) P2 λa va H3 s3 w3 q3 r3 P3'=>?_⟩
   obtain⟨hsz,P3'⟩:=PZ.chk P3'
   have P4:PZ Er (Fd D) (hid H3 OO) (f (as.set kk (row++[a]))):=by
    have e5:Bi as x (row++[a])= .ok (as.set kk (row++[a])):=by unfold Bi;rw[hkk]
    rw[e5] at P3'
    exact P3'
   have m3:=Xh (OO:=OO) s3
   obtain⟨C',w4,m4,o4⟩:=OH (ys':=ys++[va]) (row':=row++[a]) (v:=.ref p) w3 hk (P3.imp (λ_ _ _ h=>MonoO.mono m3 h) q) hrow g1 (s3 _ _ hq0) g2 (Paired.app (Paired.imp2 (λ_ _ h=>z.mono m3 h) g3) (.cons r3 .nil))
   exact⟨q0,ys,va,rfl,rfl,s3 _ _ hq0,by rw[Paired.len g3];exact hsz,hr _ C' _ D w4 ⟨S.mono _ _ m4 q3,o4⟩ (PZ.tr (fd.tr D) m4 P4)⟩⟩
theorem Sr {H H':Hp}{C D:List Xo}{k:Nat}(w:W OO H)(hk:OO[k]?=some C)(s:Xp H H')(w':W (D::OO.set k []) H')(m:Xp (hid H (OO.set k [])) (hid H' (D::OO.set k []))):
  W (D::OO) H'/\Xp (hid H OO) (hid H' (D::OO))/\Bq (hid H' (D::OO.set k [])) (hid H' (D::OO)):=by
 have hp:=XL hk
 have wk:W (C::OO.set k []) H:=w.of hp
 have hC:∀c∈C,hid H (OO.set k []) c.1=some c.2:=λc hc=>Y3 (wk.cell c hc) (by
  have:=wk.nd
  rw[XE] at this
  exact λhb=>(List.nodup_append.mp this).2.2 c.1 (List.mem_map.mpr ⟨c,hc,rfl⟩) c.1 hb rfl)
 have hC':∀c∈C,H' c.1=some c.2/\c.1∉fl (D::OO.set k []):=λc hc=>XZ (m _ _ (hC c hc))
 have w2:W (C::D::OO.set k []) H':=by
  refine⟨λc hc=>?_,?_,λc hc=>?_⟩
  ·rw[List.flatten_cons,List.mem_append] at hc
   exact hc.elim (λhc=>(hC' c hc).1) λhc=>w'.tr c hc
  ·rw[XE]
   refine List.nodup_append.mpr ⟨?_,w'.nd,λa ha b hb e=>?_⟩
   ·have:=wk.nd
    rw[XE] at this
    exact(List.nodup_append.mp this).1
   ·obtain⟨c,hc,rfl⟩:=List.mem_map.mp ha
    subst e
    exact(hC' c hc).2 hb
  ·rw[List.flatten_cons,List.mem_append] at hc
   exact hc.elim (λhc=>wk.mu c (by simp[hc])) λhc=>w'.mu c hc
 have pe:(D::OO).flatten.Perm (C::D::OO.set k []).flatten:=by
  simp only[List.flatten_cons]
  refine List.Perm.trans (List.Perm.append_left D (by simpa using hp.symm:OO.flatten.Perm (C++(OO.set k []).flatten))) ?_
  rw[←List.append_assoc, ←List.append_assoc]
  exact List.perm_append_comm.append_right _
 have w3:=w2.of pe
 refine⟨w3,λb u q=>?_,λb u q i=>w3.i b u (XZ q).1 i⟩
 obtain⟨q1,q2⟩:=XZ q
 have q3:hid H (OO.set k []) b=some u:=Y3 q1 λz=>q2 ((Vt hp b).mp (by rw[XE];simp[z]))
 obtain⟨q4,q5⟩:=XZ (m _ _ q3)
 refine Y3 q4 λz=>?_
 have z2:=(Vt pe b).mp z
 rw[XE,List.mem_append] at z2
 rcases z2 with z2 |z2
 ·exact q2 ((Vt hp b).mp (by rw[XE];exact List.mem_append_left _ z2))
 ·exact q5 z2
theorem R1 {r1:Enc γ}{o1:OE γ}[z:FrzC o1 r1][MonoE r1]{H:Hp}{v:V}{a:γ}{C:List Xo}{k:Nat}(w:W OO H)(hk:OO[k]?=some C)(s:S.p (hid H OO))(h:∀x,S.p x->o1 K x v a C):
  W (OO.set k []) H/\(S.add K r1 v a).p (hid H (OO.set k [])):=by
 have hp:=XL hk
 have wk:W (C::OO.set k []) H:=w.of hp
 have hs:Xp (hid H OO) (hid H (OO.set k [])):=by
  rw[←XB hp]
  exact Zh (Xp.refl _) λb hb=>by rw[XE];simp[hb]
 refine⟨wk.tail,S.mono _ _ hs s,z.frz (h _ s) hs λc hc=>Y3 (wk.cell c hc) ?_⟩
 have:=wk.nd
 rw[XE] at this
 exact λhb=>(List.nodup_append.mp this).2.2 c.1 (List.mem_map.mpr ⟨c,hc,rfl⟩) c.1 hb rfl
theorem Fq {te:TE}{o:OE α}[y:FlatO o]{r1:Enc γ}{o1:OE γ}[FrzC o1 r1][MonoE r1]{m:Rs α}{v:V}{a:γ}{C:List Xo}(k:Nat)(hk:OO[k]?=some C)(h:∀x,S.p x->o1 K x v a C)(he:Ev K Er (S.add K r1 v a) (OO.set k []) (OO.set k []) σ te o m):Ev K Er S OO OO σ te o m:=λH Q w s P=>by
 obtain⟨w1,s1⟩:=R1 (r1:=r1) w hk s h
 refine he H Q w1 s1 (P.imp λb _ hb v' D H' s' w' m' ho=>?_)
 obtain⟨w3,m3,i3⟩:=Sr w hk s' w' m'
 exact hb v' D H' s' w3 m3 (y.flat i3 ho)
end
section
variable {K:PySem.W.Frag}{Er:Exc->Hp->Prop}{S:SC}{OO OO' OO1 OO2:List (List Xo)}{σ:St}{α β γ ρ ι δ ε:Type}
variable {Fd:Ends->β->Hp->Prop}[fd:FdOk Fd]{u:TS}
noncomputable def OR:Option α->Rs α
 |some a=>.ok a
 |none=>.bad
theorem GX {te:TE}{r:Enc α}{m:Rs (Option α)}(he:EvB K Er S OO σ te (Qp r) m):EvB K Er S OO σ te r (m.bind OR):=λH Q w s P=>by
 refine he H Q w s ?_
 cases m with
 |bad=>exact P
 |err x=>exact P
 |ok a=>
  cases a with
  |none=>exact P.elim
  |some a=>exact λv H' s' hr=>P v H' s' hr.2
theorem Od {r:Enc α}{q:Enc γ}{K:PySem.W.Frag}{h:Hp}{v:V}{a:α×γ}{C:List Xo}(q:oF (rP2 r q) K h v a C):v≠ .non:=by
 obtain⟨_,p,x,y,e,_⟩:=q
 rw[e];exact λz=>nomatch z
theorem Sy {r:Enc α}{q:Enc γ}{t:Enc δ}{K:PySem.W.Frag}{h:Hp}{v:V}{a:α×γ×δ}{C:List Xo}(q:oF (rP3 r q t) K h v a C):v≠ .non:=by
 obtain⟨_,p,x,y,z,e,_⟩:=q
 rw[e];exact λz=>nomatch z
theorem Tf {o:OE α}{K:PySem.W.Frag}{h:Hp}{v:V}{a:List α}{C:List Xo}(q:oL o K h v a C):v≠ .non:=by
 obtain⟨p,x,Cs,e,_⟩:=q
 rw[e];exact λz=>nomatch z
end
section
variable {K:PySem.W.Frag}{Er:Exc->Hp->Prop}{S:SC}{OO OO' OO1 OO2:List (List Xo)}{σ:St}{α β γ ρ ι δ ε:Type}
variable {α1 α2 α3 α4 α5:Type}
noncomputable def rP4 (r1:Enc α1)(r2:Enc α2)(r3:Enc α3)(r4:Enc α4):Enc (α1×α2×α3×α4):=λK H v p=>∃ a x1 x2 x3 x4,v= .ref a/\H a=some (.tup [x1,x2,x3,x4])/\r1 K H x1 p.1/\r2 K H x2 p.2.1/\r3 K H x3 p.2.2.1/\r4 K H x4 p.2.2.2
instance {r1:Enc α1}{r2:Enc α2}{r3:Enc α3}{r4:Enc α4}[m1:MonoE r1][m2:MonoE r2][m3:MonoE r3][m4:MonoE r4]:MonoE (rP4 r1 r2 r3 r4):=⟨λs r9=>by obtain⟨a,x1,x2,x3,x4,e,h,p1,p2,p3,p4⟩:=r9;exact⟨a,x1,x2,x3,x4,e,s _ _ h,m1.mono s p1,m2.mono s p2,m3.mono s p3,m4.mono s p4⟩⟩
instance {r1:Enc α1}{r2:Enc α2}{r3:Enc α3}{r4:Enc α4}[m1:FlatE r1][m2:FlatE r2][m3:FlatE r3][m4:FlatE r4]:FlatE (rP4 r1 r2 r3 r4):=⟨λs r9=>by obtain⟨a,x1,x2,x3,x4,e,h,p1,p2,p3,p4⟩:=r9;exact⟨a,x1,x2,x3,x4,e,s _ _ h rfl,m1.flat s p1,m2.flat s p2,m3.flat s p3,m4.flat s p4⟩⟩
theorem Cz {t1:TE}{t2:TE}{t3:TE}{t4:TE}{r1:Enc α1}{r2:Enc α2}{r3:Enc α3}{r4:Enc α4}[z1:MonoE r1][z2:MonoE r2][z3:MonoE r3][z4:MonoE r4]{m1:Rs α1}{m2:Rs α2}{m3:Rs α3}{m4:Rs α4}(h1:EvS K Er S OO σ t1 r1 m1)(h2:EvS K Er S OO σ t2 r2 m2)(h3:EvS K Er S OO σ t3 r3 m3)(h4:EvS K Er S OO σ t4 r4 m4):EvS K Er S OO σ (Mm (Xn t1 (Xn t2 (Xn t3 (Xn t4 YF))))) (rP4 r1 r2 r3 r4) (m1.bind λa1=>m2.bind λa2=>m3.bind λa3=>m4.bind λa4=>.ok (a1,a2,a3,a4)):=λH Q w s P=>
 h1.run w s FS.tr P λa1 y1 H1 s1 w1 u1 q1 P1=>h2.run w1 u1 FS.tr P1 λa2 y2 H2 s2 w2 u2 q2 P2=>h3.run w2 u2 FS.tr P2 λa3 y3 H3 s3 w3 u3 q3 P3=>h4.run w3 u3 FS.tr P3 λa4 y4 H4 s4 w4 u4 q4 P4=>⟨by show 4<=sizeLine;decide,λp hp=>P4 _ _ (Xv hp _) ⟨p,y1,y2,y3,y4,rfl,QP w4 hp,z1.mono ((Xh s2).trans ((Xh s3).trans ((Xh s4).trans (Xh (Xv hp _))))) q1,z2.mono ((Xh s3).trans ((Xh s4).trans (Xh (Xv hp _)))) q2,z3.mono ((Xh s4).trans (Xh (Xv hp _))) q3,z4.mono (Xh (Xv hp _)) q4⟩⟩
@[reducible] noncomputable def tg4 {r1:Enc α1}{r2:Enc α2}{r3:Enc α3}{r4:Enc α4}[MonoE r1][MonoE r2][MonoE r3][MonoE r4](i1 i2 i3 i4:Nat):Tgt K OO (Mj K 4 (Qm (YE i1) (Qm (YE i2) (Qm (YE i3) (Qm (YE i4) NS))))) (rP4 r1 r2 r3 r4) (V×V×V×V) where
 set:=λv σ=>((((σ.set i1 (some v.1)).set i2 (some v.2.1)).set i3 (some v.2.2.1)).set i4 (some v.2.2.2))
 sc:=λa v S=>((((S.add K r1 v.1 a.1).add K r2 v.2.1 a.2.1).add K r3 v.2.2.1 a.2.2.1).add K r4 v.2.2.2 a.2.2.2)
 ok:=fun {H v a σ S Q} r9 hs hq=>by obtain⟨p,x1,x2,x3,x4,e,h,h1,h2,h3,h4⟩:=r9;exact⟨p,_,e,SqT.of (Xu _ _ h),rfl,x1,[x2,x3,x4],rfl,x2,[x3,x4],rfl,x3,[x4],rfl,x4,[],rfl,rfl,hq (x1,x2,x3,x4) ⟨⟨⟨⟨hs,h1⟩,h2⟩,h3⟩,h4⟩⟩
noncomputable def rP5 (r1:Enc α1)(r2:Enc α2)(r3:Enc α3)(r4:Enc α4)(r5:Enc α5):Enc (α1×α2×α3×α4×α5):=λK H v p=>∃ a x1 x2 x3 x4 x5,v= .ref a/\H a=some (.tup [x1,x2,x3,x4,x5])/\r1 K H x1 p.1/\r2 K H x2 p.2.1/\r3 K H x3 p.2.2.1/\r4 K H x4 p.2.2.2.1/\r5 K H x5 p.2.2.2.2
instance {r1:Enc α1}{r2:Enc α2}{r3:Enc α3}{r4:Enc α4}{r5:Enc α5}[m1:MonoE r1][m2:MonoE r2][m3:MonoE r3][m4:MonoE r4][m5:MonoE r5]:MonoE (rP5 r1 r2 r3 r4 r5):=⟨λs r9=>by obtain⟨a,x1,x2,x3,x4,x5,e,h,p1,p2,p3,p4,p5⟩:=r9;exact⟨a,x1,x2,x3,x4,x5,e,s _ _ h,m1.mono s p1,m2.mono s p2,m3.mono s p3,m4.mono s p4,m5.mono s p5⟩⟩
instance {r1:Enc α1}{r2:Enc α2}{r3:Enc α3}{r4:Enc α4}{r5:Enc α5}[m1:FlatE r1][m2:FlatE r2][m3:FlatE r3][m4:FlatE r4][m5:FlatE r5]:FlatE (rP5 r1 r2 r3 r4 r5):=⟨λs r9=>by obtain⟨a,x1,x2,x3,x4,x5,e,h,p1,p2,p3,p4,p5⟩:=r9;exact⟨a,x1,x2,x3,x4,x5,e,s _ _ h rfl,m1.flat s p1,m2.flat s p2,m3.flat s p3,m4.flat s p4,m5.flat s p5⟩⟩
theorem IG {t1:TE}{t2:TE}{t3:TE}{t4:TE}{t5:TE}{r1:Enc α1}{r2:Enc α2}{r3:Enc α3}{r4:Enc α4}{r5:Enc α5}[z1:MonoE r1][z2:MonoE r2][z3:MonoE r3][z4:MonoE r4][z5:MonoE r5]{m1:Rs α1}{m2:Rs α2}{m3:Rs α3}{m4:Rs α4}{m5:Rs α5}(h1:EvS K Er S OO σ t1 r1 m1)(h2:EvS K Er S OO σ t2 r2 m2)(h3:EvS K Er S OO σ t3 r3 m3)(h4:EvS K Er S OO σ t4 r4 m4)(h5:EvS K Er S OO σ t5 r5 m5):EvS K Er S OO σ (Mm (Xn t1 (Xn t2 (Xn t3 (Xn t4 (Xn t5 YF)))))) (rP5 r1 r2 r3 r4 r5) (m1.bind λa1=>m2.bind λa2=>m3.bind λa3=>m4.bind λa4=>m5.bind λa5=>.ok (a1,a2,a3,a4,a5)):=λH Q w s P=>
 h1.run w s FS.tr P λa1 y1 H1 s1 w1 u1 q1 P1=>h2.run w1 u1 FS.tr P1 λa2 y2 H2 s2 w2 u2 q2 P2=>h3.run w2 u2 FS.tr P2 λa3 y3 H3 s3 w3 u3 q3 P3=>h4.run w3 u3 FS.tr P3 λa4 y4 H4 s4 w4 u4 q4 P4=>h5.run w4 u4 FS.tr P4 λa5 y5 H5 s5 w5 u5 q5 P5=>⟨by show 5<=sizeLine;decide,λp hp=>P5 _ _ (Xv hp _) ⟨p,y1,y2,y3,y4,y5,rfl,QP w5 hp,z1.mono ((Xh s2).trans ((Xh s3).trans ((Xh s4).trans ((Xh s5).trans (Xh (Xv hp _)))))) q1,z2.mono ((Xh s3).trans ((Xh s4).trans ((Xh s5).trans (Xh (Xv hp _))))) q2,z3.mono ((Xh s4).trans ((Xh s5).trans (Xh (Xv hp _)))) q3,z4.mono ((Xh s5).trans (Xh (Xv hp _))) q4,z5.mono (Xh (Xv hp _)) q5⟩⟩
@[reducible] noncomputable def tg5 {r1:Enc α1}{r2:Enc α2}{r3:Enc α3}{r4:Enc α4}{r5:Enc α5}[MonoE r1][MonoE r2][MonoE r3][MonoE r4][MonoE r5](i1 i2 i3 i4 i5:Nat):Tgt K OO (Mj K 5 (Qm (YE i1) (Qm (YE i2) (Qm (YE i3) (Qm (YE i4) (Qm (YE i5) NS)))))) (rP5 r1 r2 r3 r4 r5) (V×V×V×V×V) where
 set:=λv σ=>(((((σ.set i1 (some v.1)).set i2 (some v.2.1)).set i3 (some v.2.2.1)).set i4 (some v.2.2.2.1)).set i5 (some v.2.2.2.2))
 sc:=λa v S=>(((((S.add K r1 v.1 a.1).add K r2 v.2.1 a.2.1).add K r3 v.2.2.1 a.2.2.1).add K r4 v.2.2.2.1 a.2.2.2.1).add K r5 v.2.2.2.2 a.2.2.2.2)
 ok:=fun {H v a σ S Q} r9 hs hq=>by obtain⟨p,x1,x2,x3,x4,x5,e,h,h1,h2,h3,h4,h5⟩:=r9;exact⟨p,_,e,SqT.of (Xu _ _ h),rfl,x1,[x2,x3,x4,x5],rfl,x2,[x3,x4,x5],rfl,x3,[x4,x5],rfl,x4,[x5],rfl,x5,[],rfl,rfl,hq (x1,x2,x3,x4,x5) ⟨⟨⟨⟨⟨hs,h1⟩,h2⟩,h3⟩,h4⟩,h5⟩⟩
theorem NQ {K:PySem.W.Frag}{n i1 i2 i3:Nat}(h1:i1<n)(h2:i2<n)(h3:i3<n):Vj n (Mj K 3 (Qm (YE i1) (Qm (YE i2) (Qm (YE i3) NS)))):=λx σ H Q q=>by
 obtain⟨a,xs,e1,hq,hl,v1,r1,f1,v2,r2,f2,v3,r3,f3,e9,q⟩:=q
 exact⟨a,xs,e1,hq,hl,v1,r1,f1,v2,r2,f2,v3,r3,f3,e9,q,by simp,λk hk=>by rw[List.getElem?_set_ne (by omega),List.getElem?_set_ne (by omega),List.getElem?_set_ne (by omega)]⟩
noncomputable def OP (as:List Int):Rs Int:=chk (0<as.length) (.ok (Je as))
theorem Ba {ta:TE}{ma:Rs (List Int)}(ha:EvB K Er S OO σ ta (rV Xd) ma):EvB K Er S OO σ (tCB (PR K Je) (Xn ta YF)) Xd (ma.bind OP):=λH Q w s P=>
 ha.run w s FB.tr P λa x H1 s1 w1 q1 ⟨p,xs,e,q,pr⟩ P1=>by
  obtain⟨h1,P1⟩:=PZ.chk P1
  exact⟨p,a,by rw[e],by rw[←QG pr];exact SqL.of q,h1,P1 _ H1 (Xp.refl _) rfl⟩
theorem ID {ta:TE}{ma:Rs (List Int)}(ha:EvB K Er S OO σ ta (rPL Xd) ma):EvB K Er S OO σ (tCB (Ri K Je) (Xn ta YF)) Xd (ma.bind OP):=λH Q w s P=>
 ha.run w s FB.tr P λa x H1 s1 w1 q1 ⟨p,xs,e,q,pr⟩ P1=>by
  obtain⟨h1,P1⟩:=PZ.chk P1
  exact⟨p,a,by rw[e],by rw[←QG pr];exact SqT.of q,h1,P1 _ H1 (Xp.refl _) rfl⟩
theorem No {ta:TE}{m:Rs (Int×Int×Int)}(ha:EvB K Er S OO σ ta (rP3 Xd Xd Xd) m):EvB K Er S OO σ ta (rPL Xd) (m.bind λp=>.ok [p.1,p.2.1,p.2.2]):=λH Q w s P=>
 ha.run w s FB.tr P λa x H1 s1 w1 q1 r9 P1=>by obtain⟨p,x1,x2,x3,e,q,h1,h2,h3⟩:=r9;exact P1 _ H1 (Xp.refl _) ⟨p,_,e,q, .cons h1 (.cons h2 (.cons h3 .nil))⟩
noncomputable def rDP {α:Type}(r:Enc α)(K:PySem.W.Frag)(H:Hp)(kv:Key×V)(kx:Int×α):Prop:=kv.1= .inl kx.1/\r K H kv.2 kx.2
noncomputable def rD {α:Type}(r:Enc α):Enc (List (Int×α)):=λK H v d=>∃ p kvs,v= .ref p/\H p=some (.dK kvs)/\Paired (rDP r K H) kvs d
noncomputable def oD {α:Type}(r:Enc α):OE (List (Int×α)):=λK h v d C=>∃ p kvs,v= .ref p/\Paired (rDP r K h) kvs d/\C=[(p, .dK kvs)]
instance {r:Enc α}[m:MonoE r]:MonoE (rD r):=⟨λs r9=>by obtain⟨p,kvs,e,q,pr⟩:=r9;exact⟨p,kvs,e,s _ _ q,Paired.imp2 (λ_ _ z=>⟨z.1,m.mono s z.2⟩) pr⟩⟩
instance {r:Enc α}[m:MonoE r]:MonoO (oD r):=⟨λs r9=>by obtain⟨p,kvs,e,pr,c⟩:=r9;exact⟨p,kvs,e,Paired.imp2 (λ_ _ z=>⟨z.1,m.mono s z.2⟩) pr,c⟩⟩
instance {r:Enc α}[m:FlatE r]:FlatO (oD r):=⟨λs r9=>by obtain⟨p,kvs,e,pr,c⟩:=r9;exact⟨p,kvs,e,Paired.imp2 (λ_ _ z=>⟨z.1,m.flat s z.2⟩) pr,c⟩⟩
instance {r:Enc α}[m:MonoE r]:FrzC (oD r) (rD r):=⟨λr9 s hc=>by obtain⟨p,kvs,e,pr,c⟩:=r9;exact⟨p,kvs,e,hc (p, .dK kvs) (by rw[c];simp),Paired.imp2 (λ_ _ z=>⟨z.1,m.mono s z.2⟩) pr⟩⟩
noncomputable def Fb (d:List (Int×α))(k:Int):Option α:=(d.find? λkv=>decide (kv.1=k)).map (·.2)
noncomputable def Bg (d:List (Int×α))(k:Int)(v:α):List (Int×α):=if(d.any λkv=>decide (kv.1=k))=true then d.map (λkv=>if kv.1=k then(kv.1,v) else kv) else d++[(k,v)]
theorem Uy {r:Enc α}{H:Hp}{k:Int}:∀{kvs:List (Key×V)}{d:List (Int×α)},Paired (rDP r K H) kvs d->(∀a,Fb d k=some a->∃v,Bp kvs (.inl k)=some v/\r K H v a)/\(Bp kvs (.inl k)).isSome=(Fb d k).isSome
 |_,_, .nil=>⟨λa h=>(by cases h),rfl⟩
 |kv::kvs,kx::d, .cons h t=>by
  obtain⟨h1,h2⟩:=Uy (k:=k) t
  by_cases e:kx.1=k
  ·have e2:kv.1= .inl k:=by rw[h.1,e]
   rw[V5 e2]
   have e3:Fb (kx::d) k=some kx.2:=by simp[Fb,List.find?_cons,e]
   rw[e3]
   exact⟨λa ha=>by cases ha;exact⟨_,rfl,h.2⟩,rfl⟩
  ·have e2:¬kv.1= .inl k:=by rw[h.1];exact λz=>e (Sum.inl.inj z)
   rw[V4 e2]
   have e3:Fb (kx::d) k=Fb d k:=by simp[Fb,List.find?_cons,e]
   rw[e3]
   exact⟨h1,h2⟩
theorem Kb {r:Enc α}{H:Hp}{k:Int}:∀{kvs:List (Key×V)}{d:List (Int×α)},Paired (rDP r K H) kvs d->(kvs.any λkv=>decide (kv.1= .inl k))=d.any λkx=>decide (kx.1=k)
 |_,_, .nil=>rfl
 |kv::kvs,kx::d, .cons h t=>by
  rw[List.any_cons,List.any_cons,Kb t,h.1]
  congr 1
  rw[Bool.eq_iff_iff];simp
theorem Fk {r:Enc α}{H:Hp}{k:Int}{v:V}{a:α}(hv:r K H v a){kvs:List (Key×V)}{d:List (Int×α)}(h:Paired (rDP r K H) kvs d):Paired (rDP r K H) (G7 kvs (.inl k) v) (Bg d k a):=by
 unfold G7 Bg
 rw[Kb h]
 by_cases e:(d.any λkx=>decide (kx.1=k))=true
 ·rw[if_pos e,if_pos e]
  clear e
  induction h with
  |nil=>exact .nil
  | @cons kv kx l m h t ih=>
   refine .cons ?_ ih
   show rDP r K H (if kv.1= .inl k then(kv.1,v) else kv) (if kx.1=k then(kx.1,a) else kx)
   by_cases e:kx.1=k
   ·rw[if_pos (show kv.1= .inl k by rw[h.1,e]),if_pos e];exact⟨h.1,hv⟩
   ·rw[if_neg (show ¬kv.1= .inl k by rw[h.1];exact λz=>e (Sum.inl.inj z)),if_neg e];exact h
 ·rw[if_neg e,if_neg e]
  exact Paired.app h (.cons ⟨rfl,hv⟩ .nil)
theorem OC {r:Enc α}:Ev K Er S OO OO σ Mz (oD r) (.ok []):=λH Q w s P=>λp hp=>P (.ref p) [(p, .dK [])] _ (Xv hp _) (w.new hp rfl) (JM hp) ⟨p,[],rfl, .nil,rfl⟩
theorem BR {td ty:TE}{r:Enc α}{md:Rs (List (Int×α))}{mk:Rs Int}(hk:EvB K Er S OO σ ty Xd mk)(hd:EvB K Er S OO σ td (rD r) md):EvB K Er S OO σ (SV ty td) XN (mk.bind λk=>md.bind λd=>.ok (Fb d k).isSome):=λH Q w s P=>
 hk.run w s FB.tr P λk y H1 s1 w1 q1 r1 P1=>hd.run w1 q1 FB.tr P1 λd x H2 s2 w2 q2 r9 P2=>by obtain⟨p,kvs,e,q,pr⟩:=r9;exact⟨p,Bp kvs (.inl k),e, .inl ⟨kvs, .inl k, .inl q,r1,rfl⟩,P2 _ H2 (Xp.refl _) (by rw[(Uy (k:=k) pr).2];rfl)⟩
variable {Fd:Ends->β->Hp->Prop}[fd:FdOk Fd]{u:TS}
theorem NG {tv ty:TE}{r:Enc α}[z:MonoE r]{mv:Rs α}{mk:Rs Int}{f:List (Int×α)->Rs β}{v:V}{d:List (Int×α)}{C:List Xo}(i k:Nat)(hσ:σ[i]?=some (some v))(hk:OO[k]?=some C)(h:∀x,S.p x->oD r K x v d C)(hv:EvS K Er S OO σ tv r mv)(hy:EvB K Er S OO σ ty Xd mk)
  (hr:∀d' C',Sv Er (S.addO K (oD r) v d' C') (OO.set k C') σ u Fd (f d')):Sv Er S OO σ (Zv (Nv (JQ i) ty tv) u) Fd (mv.bind λa=>mk.bind λn=>chk (d.length<sizeLine) (f (Bg d n a))):=λH D w s P=>
 hv.st w s P λa va H1 s1 w1 q1 r1 P1=>⟨v,hσ,hy.st w1 q1 P1 λn vn H2 s2 w2 q2 r2 P2=>by
  obtain⟨hsz,P2⟩:=PZ.chk P2
  obtain⟨p,kvs,e,pr,c⟩:=h _ q2
  subst c e
  have hH:H2 p=some (.dK kvs):=w2.tr (p, .dK kvs) (List.mem_flatten.mpr ⟨_,List.mem_of_getElem? hk,by simp⟩)
  obtain⟨w3,m3⟩:=Hu (D:=[]) (C':=[(p, .dK (G7 kvs (.inl n) va))]) (p:=p) (o:=.dK (G7 kvs (.inl n) va)) w2.nil hk (by simp) (by simp) (by simp) (λb hb=>by simpa using hb) (λc hc=>by
   have:c=(p, .dK (G7 kvs (.inl n) va)):=by simpa using hc
   rw[this];exact Yk) (λc hc=>by
   have:c=(p, .dK (G7 kvs (.inl n) va)):=by simpa using hc
   rw[this];rfl)
  rw[Y6] at m3
  refine⟨p,_,rfl, .inl ⟨kvs, .inl n,hH,r2,by rw[Paired.len pr];exact hsz,rfl⟩,?_⟩
  exact hr _ _ _ D w3 ⟨S.mono _ _ m3 q2,⟨p,_,rfl,Fk (z.mono ((Xh s2).trans m3) r1) (Paired.imp2 (λ_ _ h=>⟨h.1,z.mono m3 h.2⟩) pr),rfl⟩⟩ (PZ.tr (fd.tr D) m3 P2)⟩
end
theorem ZA.ex {P:Program}{w:World}{H:Hp}{h:Heap}{a:Addr}{o:HO}(x:ZA P w H h a o):∃u,h.get? a=some u:=by
 cases o with
 |lst xs=>obtain⟨_,_,_,_,e⟩:=x;exact⟨_,e⟩
 |tup xs=>obtain⟨_,_,_,p⟩:=x;obtain⟨o,e,_⟩:=p;exact⟨_,e⟩
 |dK kvs=>obtain⟨_,_,_,_,o,_,_,e,_⟩:=x;exact⟨_,e⟩
 |dT kvs=>obtain⟨_,_,_,_,o,_,_,e,_⟩:=x;exact⟨_,e⟩
 |set S n=>obtain⟨o,_,_,_,e,_⟩:=x;exact⟨_,e⟩
 |ins C dx fs=>obtain⟨_,_,_,e,_⟩:=x;exact⟨_,e⟩
 |own y=>exact x
 |xd fs=>obtain⟨_,⟨_,_,_,e,_⟩,_⟩:=x;exact⟨_,e⟩
 |rng lo hi=>obtain⟨_,_,_,e⟩:=x;exact⟨_,e⟩
 |frz ob u=>exact⟨_,x.1⟩
 |tbl ps=>exact⟨_,x⟩
 |met f y=>exact⟨_,x⟩
 |ext φ=>exact x.2.1
theorem HOk.un0 {P:Program}{w:World}{H:Hp}{h:Heap}{a:Addr}(x:HOk P w H h)(e:h.get? a=none):H a=none:=by
 cases q:H a with
 |none=>rfl
 |some u=>obtain⟨v,hv⟩:=(x a u q).ex;rw[e] at hv;cases hv
structure Fl (h0 h:Heap)(H:Hp)(a T:Addr)(cls:Value):Prop where
 na:h0.get? a=none
 nT:h0.get? T=none
 fa:H a=none
 fT:H T=none
 ne:T≠a
 obj:∃oe vs oT ts a0,h.get? a=some oe/\oe.cls=cls/\vs[0]?=some a0/\oe.data= .fields vs/\vs[1]?=some (.ref T)/\h.get? T=some oT/\oT.data= .fields ts/\ts[3]?=some Value.none
noncomputable def Lm (h:Heap)(fs:List Addr)(a T:Addr):Heap:=Ir h (λb=>if b∈fs∨b=a∨b=T then some (.own 0) else none)
theorem VZ {h:Heap}{fs:List Addr}{a T b:Addr}{o:Obj}(e:h.get? b=some o)(n1:b∉fs)(n2:b≠a)(n3:b≠T):(Lm h fs a T).get? b=some o:=
 DF e (if_neg λz=>z.elim n1 λz=>z.elim n2 n3)
theorem Fx {h:Heap}{fs:List Addr}{a T b:Addr}{o:Obj}(e:(Lm h fs a T).get? b=some o):h.get? b=some o/\b∉fs/\b≠a/\b≠T:=by
 obtain⟨h1,h2⟩:=B7 e
 have h3:¬(b∈fs∨b=a∨b=T):=λz=>by
  have:=(if_pos z).symm.trans h2
  cases this
 exact⟨h1,λq=>h3 (.inl q),λq=>h3 (.inr (.inl q)),λq=>h3 (.inr (.inr q))⟩
theorem Vi {h:Heap}{fs:List Addr}{a T b:Addr}(n:b∈fs∨b=a∨b=T):(Lm h fs a T).get? b=none:=by
 cases q:(Lm h fs a T).get? b with
 |none=>rfl
 |some o=>
  obtain⟨_,h1,h2,h3⟩:=Fx q
  exact(n.elim h1 λz=>z.elim h2 h3).elim
theorem Fw {h base B:Heap}:∀{l:List Env},h.FunFrames base l->(∀b∈frs l,B.get? b=none)->h.FunFrames B l
 | [],_,_=>trivial
 |env::r,⟨hk,⟨L,o,hf,hn,ho,hd⟩,hr⟩,n=>
  ⟨hk,⟨L,o,hf,n L (by unfold frs;rw[List.filterMap_cons,hf];exact List.mem_cons_self),ho,hd⟩,Fw hr λb hb=>n b (by unfold frs;rw[List.filterMap_cons,hf];exact List.mem_cons_of_mem _ hb)⟩
section
variable {P:Program}{w:World}{h0 h h' base:Heap}{H:Hp}{a T:Addr}{cls a0:Value}{l:List Env}
theorem Fl.fly (x:Fl h0 h H a T cls)(hl:h.FunFrames base l):∃a0,Heap.FlyingW (Lm h (frs l) a T) l a cls a0 h:=by
 obtain⟨oe,vs,oT,ts,a0,ha,hc,h0',hd,h1,hT,hdT,h3⟩:=x.obj
 exact⟨a0,λb o e=>(Fx e).1,Vi (.inr (.inl rfl)),Fw hl λb hb=>Vi (.inl hb),oe,vs,T,oT,ts,ha,⟨hc,h0'⟩,hd,h1,Vi (.inr (.inr rfl)),x.ne,hT,hdT,h3⟩
theorem Un.traced (hl:h.FunFrames base l)(keep:∀b o,b∉frs l->b≠a->b≠T->h.get? b=some o->h'.get? b=some o)(up:h.UpToSlots h'):Un (frs l) [a,T] H H h h' where
 keep:=λb o e _ hb hx=>keep b o hb (λz=>hx (by simp[z])) (λz=>hx (by simp[z])) e
 slot:=λb o e _ hb _=>by
  obtain⟨_,o2,ho2,hd2⟩:=hl.mem hb
  rw[e] at ho2;cases ho2
  exact up b o e hd2
 free:=λb o e n _=>n
 there:=λb o e hx=>by
  by_cases hb:b∈frs l
  ·obtain⟨_,o2,ho2,hd2⟩:=hl.mem hb
   obtain⟨sl,q⟩:=up b o2 ho2 hd2
   exact⟨_,q⟩
  ·exact⟨o,keep b o hb (λz=>hx (by simp[z])) (λz=>hx (by simp[z])) e⟩
 tups:=λ_ _ q=>q
 frzs:=λ_ _ _ q=>q
 tbls:=λ_ ps q=>⟨#[],by simpa using q⟩
theorem HOk.traced (hok:HOk P w H h)(hfn:∀b∈frs l,H b=none)(fa:H a=none)(fT:H T=none)(keep:∀b o,b∉frs l->b≠a->b≠T->h.get? b=some o->h'.get? b=some o):HOk P w H h':=λb o e=>by
 refine(hok b o e).stay (λc u hc q=>?_) (λ_ q=>q) λ_ _ q=>q
 have hn:H c≠none:=by
  rcases hc with z |z
  ·rw[z,e];exact λy=>nomatch y
  ·rw[z];exact λy=>nomatch y
 exact keep c u (λz=>hn (hfn c z)) (λz=>hn (z▸fa)) (λz=>hn (z▸fT)) q
theorem Fl.after (x:Fl h0 h H a T cls)(hl:h.FunFrames base l)(hfn:∀b∈frs l,H b=none)(hok:HOk P w H h)(th:∀b o,h0.get? b=some o->∃o',h.get? b=some o')
  (st:(Lm h (frs l) a T).StaysIn h')(tr:h'.TracedW (Lm h (frs l) a T) a cls a0)(up:h.UpToSlots h'):∃T',Fl h0 h' H a T' cls/\HOk P w H h'/\Un (frs l) [a,T] H H h h':=by
 obtain⟨oe,vs,T',oT,ts,ha,⟨hc,h0'⟩,hd,h1,hnT,hne,hT,hdT,h3⟩:=tr
 have key:T'=T∨h.get? T'=none:=by
  cases q:h.get? T' with
  |none=>exact .inr rfl
  |some o=>
   by_cases hf:T'∈frs l
   ·obtain⟨_,o2,ho2,hd2⟩:=hl.mem hf
    obtain⟨sl,e2⟩:=up T' o2 ho2 hd2
    rw[hT] at e2;cases e2
    exact absurd hdT (hd2 ts)
   ·by_cases hz:T'=T
    ·exact .inl hz
    ·rw[VZ q hf hne hz] at hnT;cases hnT
 have keep:∀b o,b∉frs l->b≠a->b≠T->h.get? b=some o->h'.get? b=some o:=λb o n1 n2 n3 e=>st b o (VZ e n1 n2 n3)
 refine⟨T',⟨x.na,?_,x.fa,?_,hne,oe,vs,oT,ts,a0,ha,hc,h0',hd,h1,hT,hdT,h3⟩,hok.traced hfn x.fa x.fT keep,Un.traced hl keep up⟩
 ·rcases key with e |e
  ·rw[e];exact x.nT
  ·cases q:h0.get? T' with
   |none=>rfl
   |some o=>obtain⟨o',e'⟩:=th _ _ q;rw[e] at e';cases e'
 ·rcases key with e |e
  ·rw[e];exact x.fT
  ·exact hok.un0 e
end
section
variable {fs fs2 ex ex2:List Addr}{H0 H H':Hp}{h0 h h':Heap}
theorem Un.past (u:Un fs ex H0 H h0 h)(v:Un fs2 ex2 H H' h h')(n:∀b,b∈ex2->h0.get? b=none)(f:∀b,b∈fs2->b∈fs∨h0.get? b=none):Un fs ex H0 H' h0 h' where
 keep:=λb o e m hb hx=>v.keep b o (u.keep b o e m hb hx) (u.free b o e m hx) (λz=>(f b z).elim hb λy=>by rw[e] at y;cases y) λz=>by rw[n b z] at e;cases e
 slot:=λb o e m hb hx=>by
  obtain⟨sl,q⟩:=u.slot b o e m hb hx
  obtain⟨sl2,q2⟩:=v.any q (u.free b o e m hx) (λz=>by rw[n b z] at e;cases e)
  exact⟨sl2,q2⟩
 free:=λb o e m hx=>by
  obtain⟨o',q⟩:=u.there b o e hx
  exact v.free b o' q (u.free b o e m hx) (λz=>by rw[n b z] at e;cases e)
 there:=λb o e hx=>by
  obtain⟨o',q⟩:=u.there b o e hx
  exact v.there b o' q (λz=>by rw[n b z] at e;cases e)
 tups:=λb xs q=>v.tups b xs (u.tups b xs q)
 frzs:=λb o x q=>v.frzs b o x (u.frzs b o x q)
 tbls:=λb ps q=>by
  obtain⟨m1,e1⟩:=u.tbls b ps q
  obtain⟨m2,e2⟩:=v.tbls b _ e1
  exact⟨m1++m2,by rw[e2,Array.append_assoc]⟩
end
theorem Inv.past {X:Cx}{pins:List (Addr×Obj)}{σ:St}{H H':Hp}{s:Shared}{h':Heap}{ch:List Addr}(I:Inv X pins σ H s)(u:Un (frs X.stack) ch H H' s.heap h')(hok:HOk X.prog X.w H' h')
  (hch:∀b∈ch,X.s₀.heap.get? b=none/\b≠X.env.locals/\(∀x c,X.env.cells.lookup x=some c->c≠b)/\∀p∈X.pn++pins,p.1≠b):Inv X pins σ H' {s with heap:=h'}:=by
 have nL:X.s₀.heap.get? X.env.locals=none:=Heap.get?_none_of_le I.ok.above
 obtain⟨m,⟨o,es,ep,ho,hd,hr⟩,hl⟩:=id I.loc
 have lch:X.env.locals∉ch:=λz=>(hch _ z).2.1 rfl
 obtain⟨sl,hL⟩:=u.any ho I.free lch
 have cl:∀x c v,X.env.cells.lookup x=some c->s.heap.IsCell c v->h'.IsCell c v:=λx c v e ⟨oc,e1,e2⟩=>by
  obtain⟨sl,q⟩:=u.any e1 (I.freeC x c e) λz=>(hch c z).2.2.1 x c e rfl
  exact⟨_,q,e2⟩
 refine⟨I.ok,I.os,I.bare,I.base.past u (λb hb=>(hch b hb).1) λb hb=>?_,⟨m,⟨_,es,ep,hL,hd,hr⟩,λi x v e1 e2 e3=>?_⟩,λx c e=>?_,u.free _ o ho I.free lch,λx c e=>?_,λp hp=>?_,hok,I.len⟩
 ·rcases List.mem_cons.mp (I.stkSub b hb) with z |z
  ·exact .inr (z▸nL)
  ·exact .inl z
 ·obtain⟨u',r,q⟩:=hl i x v e1 e2 e3
  refine⟨u',r,?_⟩
  rcases q with q | ⟨k,c,e,z⟩
  ·exact .inl q
  ·exact .inr ⟨k,c,e,cl x c _ e z⟩
 ·obtain⟨v,z⟩:=I.cell x c e
  exact⟨v,cl x c v e z⟩
 ·obtain⟨v,oc,e1,_⟩:=I.cell x c e
  exact u.free c oc e1 (I.freeC x c e) λz=>(hch c z).2.2.1 x c e rfl
 ·obtain⟨e,n,ne,nf,d⟩:=I.pin p hp
  have nch:p.1∉ch:=λz=>(hch p.1 z).2.2.2 p hp rfl
  exact⟨u.keep p.1 p.2 e n (λz=>(List.mem_cons.mp (I.stkSub _ z)).elim ne nf) nch,u.free p.1 p.2 e n nch,ne,nf,d⟩
noncomputable def CXE (P:Program)(w:World):CXT:=λouter H s E e s'=>∃ a T C H',e= .ref a/\Fl s.heap s'.heap H' a T (.ref C)/\s'.os=s.os/\AllBare s'.gens/\Un (frs outer) [] H H' s.heap s'.heap/\HOk P w H' s'.heap/\E (.ref C) none H'
theorem Ry {P:Program}{w:World}{X:Cx}:Vg (CXE P w) X E0:=λ_ _ _ _ _ _ _ r9=>by obtain⟨_,_,_,_,_,_,_,_,_,_,q⟩:=r9;exact q.elim
section
variable {P:Program}{w:World}{K:PySem.W.Frag}{mg:Str->Option Value}{base:Heap}{N:List Str}{qual:Str}{scope:Scope}{f:Addr}{cd:Value}{A:Around}{outer:List Env}{s0:Shared}{H0:Hp}{E:XK}
theorem QS:Vg (CXE P w) (Uj (CXE P w) P w K mg base N qual scope f cd A outer s0 H0 E) E:=by
 intro pins σ H s e s' I ⟨a,T,C,H',he,x,os,bare,un,hok,q⟩
 subst he
 have I2:=I.call' os un hok bare (λb z=>nomatch z)
 have th:∀b o,s0.heap.get? b=some o->∃o',s.heap.get? b=some o':=λb o e=>I.base.there b o e (λz=>nomatch z)
 have nn:∀b,s.heap.get? b=none->s0.heap.get? b=none:=λb n=>by
  cases q:s0.heap.get? b with
  |none=>rfl
  |some o=>obtain⟨o',e⟩:=th b o q;rw[n] at e;cases e
 have x0:Fl s0.heap s'.heap H' a T (.ref C):=⟨nn _ x.na,nn _ x.nT,x.fa,x.fT,x.ne,x.obj⟩
 obtain⟨a0,fl⟩:=x0.fly I2.stack
 refine wpAny_leaves_onW I.ok.frames rfl fl λh' fl' up=>?_
 obtain⟨T',y1,y2,y3⟩:=x0.after I2.stack I2.stkFree hok (λb o e=>I2.base.there b o e (λz=>nomatch z)) fl'.1 fl'.2.2.2 up
 refine⟨a,T',C,H',rfl,y1,I2.os,bare,I2.base.past y3 (λb hb=>?_) λb hb=>?_,y2,q⟩
 ·rcases List.mem_cons.mp hb with z |z
  ·rw[z];exact x0.na
  ·rw[List.mem_singleton.mp z];exact x0.nT
 ·rcases List.mem_cons.mp (I2.stkSub b hb) with z |z
  ·exact .inr (z▸Heap.get?_none_of_le I.ok.above)
  ·exact .inl z
noncomputable def LO (X:Cx)(E:XK):Prop:=∀ (pins:List (Addr×Obj)) (σ:St) (H:Hp) (s:Shared) (C e:Addr) (vs:List Value) (h':Heap),Inv X pins σ H s->Heap.MadeExcOf s.heap h' e (.ref C) vs->E (.ref C) none H->X.xe (.ref e) {s with heap:=h'}
theorem Ie:LO (Uj (CXE P w) P w K mg base N qual scope f cd A outer s0 H0 E) E:=by
 intro pins σ H s C e vs h' I hx q
 have nn:∀b,s.heap.get? b=none->s0.heap.get? b=none:=λb n=>by
  cases q:s0.heap.get? b with
  |none=>rfl
  |some o=>obtain⟨o',e⟩:=I.base.there b o q (λz=>nomatch z);rw[n] at e;cases e
 refine wpAny_leaves_madeW (base:=Lm s.heap (frs (Uj (CXE P w) P w K mg base N qual scope f cd A outer s0 H0 E).stack) e e) (h:=s.heap) I.ok.frames rfl (λb o z=>(Fx z).1) (Fw I.stack λb hb=>Vi (.inl hb)) hx λh2 t fl _ _ up=>?_
 obtain⟨st,_,_,oe,us,T,oT,ts,ha,⟨hc,h0'⟩,hd,h1,hnT,hne,hT,hdT,h3⟩:=fl
 have up2:s.heap.UpToSlots h2:=λb o z n=>up b o (hx.keeps b o z) n
 have hT0:s.heap.get? T=none:=by
  cases q:s.heap.get? T with
  |none=>rfl
  |some o=>
   by_cases hf:T∈frs (Uj (CXE P w) P w K mg base N qual scope f cd A outer s0 H0 E).stack
   ·obtain⟨_,o2,ho2,hd2⟩:=I.stack.mem hf
    obtain⟨sl,e2⟩:=up2 T o2 ho2 hd2
    rw[hT] at e2;cases e2
    exact absurd hdT (hd2 ts)
   ·rw[VZ q hf hne hne] at hnT;cases hnT
 have keep:∀b o,b∉frs (Uj (CXE P w) P w K mg base N qual scope f cd A outer s0 H0 E).stack->b≠e->b≠T->s.heap.get? b=some o->h2.get? b=some o:=λb o n1 n2 _ z=>st b o (VZ z n1 n2 n2)
 have fe:=I.hok.un0 hx.new
 have fT:=I.hok.un0 hT0
 refine⟨e,T,C,H,rfl,⟨nn _ hx.new,nn _ hT0,fe,fT,hne,oe,us,oT,ts,_,ha,hc,h0',hd,h1,hT,hdT,h3⟩,I.os,I.bare,I.base.past (Un.traced I.stack keep up2) (λb hb=>?_) λb hb=>?_,I.hok.traced I.stkFree fe fT keep,q⟩
 ·rcases List.mem_cons.mp hb with z |z
  ·rw[z];exact nn _ hx.new
  ·rw[List.mem_singleton.mp z];exact nn _ hT0
 ·rcases List.mem_cons.mp (I.stkSub b hb) with z |z
  ·exact .inr (z▸Heap.get?_none_of_le I.ok.above)
  ·exact .inl z
end
structure FnX (P:Program)(w:World)(K:PySem.W.Frag)(mg:Str->Option Value)(base:Heap)(k:Nat)(x:Str)(ps:List Str)(sp:Sp):Prop where
 ex:∃f fd,FnOk P w K mg base (CXE P w) k f fd ps sp/\GR K fd ps []/\PySem.W.keepIn K (.ref f)=true/\mg x=some (.ref f)
section
variable {X:Cx}{k j:Nat}{x:Str}{ps:List Str}{sp:Sp}{e:Expr}{es:List Expr}{t:TA}{p pos:Pos}{E:XK}
theorem Yp (G:FnX X.prog X.w X.K X.mg X.base k x ps sp)(hr:Room j X.A)(hj:k<=j)(hx:Vg (CXE X.prog X.w) X E)(ha:PA X (e::es) t)(hg:Gl X x:=by rfl)(hdb:(x==("__debug__":Str))=false:=by decide)
  (he:starEach (e::es) X.env=(false,eval e X.env)::starEach es X.env:=by rfl)(hpl:(backTo pos (starEach es X.env)).any (·.1)=false:=by rfl):
  PE X (.Call (.Name x p) (e::es) [] pos) (Qj sp [] E t):=by
 obtain⟨f,fd,F,b,kp,m⟩:=G.ex
 exact Hc F (hr.mono hj) hg m kp b .nil hx ha hdb he hpl
end
theorem VJ {P:Program}{w:World}{K:PySem.W.Frag}{mg:Str->Option Value}{base:Heap}{x:Str}{st:Stmt}{N ps:List Str}{k:Nat}{sp:Sp}(D:Def K mg x st ps)(S:FnScope N ps (Xf st))(len:∀vs H Q E,sp vs H Q E->vs.length=ps.length)
  (hbody:∀(f:Addr) (cdv:Value) (A:Around) (outer:List Env) (s:Shared) (H:Hp) (vs:List V) (Q:VK) (E:XK),Room k (A.deeper (envOfC x (Xf st) s.heap.objs.size f cdv))->sp vs H Q E->
   ∃t,PSs (Uj (CXE P w) P w K mg base N x (Xf st) f cdv A outer s H E) (XR st) t/\t {nx:=λ_ H'=>Q .non H',rt:=Q} (VU N vs) H):FnX P w K mg base (k+1) x ps sp:=by
 obtain⟨f,fd,F,b,m⟩:=D
 obtain⟨oc,od,kV,doc,pm,an,cdv,ct,osl,rfl,lk,hcd⟩:=F.ex
 exact⟨f,_,P8 lk hcd S len λA outer s H vs Q E hr hsp=>hbody f cdv A outer s H vs Q E hr hsp,b,F.kp,m⟩
theorem Nw {K:PySem.W.Frag}{h:Heap}{C:Addr}{bmB:List Value}{newId:String}(X:K.In h)(q:PySem.W.excIn K C bmB newId=true):
  ∃bm N nm q bs hdct sn sub ab col dd k0 k1 k2 k3 k5 mN,h.get? C=some (excClassObj nm q C N bs bm hdct sn sub ab col dd k0 k1 k2 k3 k5 newId)/\h.Ns N mN/\mN "__init__" =none/\OwnTail h bmB bm:=by
 unfold PySem.W.excIn at q
 split at q
 ·rename_i dd cd sl ho
  split at q
  ·rename_i C' bm k0 k1 k2 k3 n k5 hm hs
   simp only[Bool.and_eq_true,beq_iff_eq,Bool.not_eq_true'] at q
   obtain⟨⟨⟨⟨⟨q1,q2⟩,q3⟩,q4⟩,q5⟩,q6⟩:=q
   subst q1 q2
   obtain⟨nm,bs,mro,ns,qn,hd,sn,sub,ab,col,del⟩:=cd
   have e1:mro=_:=hm
   have e2:del=false:=q3
   subst e1 e2
   obtain⟨l⟩:=sl
   have e3:l=_:=hs
   subst e3
   exact⟨bm,ns,nm,qn,bs,hd,sn,sub,ab,col,dd,k0,k1,k2,k3,k5,_,X _ _ ho, .of_isNs (PySem.W.isNs_of_in X q5),PySem.W.nsMap_none_of_in X q5 q6,PySem.W.tail_of_in X q4⟩
  ·cases q
 ·cases q
abbrev vEr:List Value:=[.type "ValueError", .type "Exception", .type "BaseException", .type "object"]
noncomputable def Mh (C:Addr)(E:XK)(t:TA):TS:=λ_ σ H=>t σ H λvs H1=>vs.length<=9/\E (.ref C) none H1
section
variable {X:Cx}{E:XK}{C:Addr}{x:Str}{e:Expr}{es:List Expr}{t:TA}{np cpos pos:Pos}
theorem Gq (hR:LO X E)(hc:X.calm=true)(hq:PySem.W.excIn X.K C vEr "ValueError.__new__" =true)(hg:Gl X x)(hm:X.mg x=some (.ref C))(ha:PA X (e::es) t)(hdb:(x==("__debug__":Str))=false:=by decide)
  (he:starEach (e::es) X.env=(false,eval e X.env)::starEach es X.env:=by rfl)(hpl:(backTo cpos (starEach es X.env)).any (·.1)=false:=by rfl):
  PS X (.Raise (some (.Call (.Name x np) (e::es) [] cpos)) none pos) (Mh C E t):=by
 intro pins s σ H D I h
 obtain⟨bm,N,nm,q,bs,hdct,sn,sub,ab,col,dd,k0,k1,k2,k3,k5,mN,hC,hN,hni,T⟩:=Nw I.ok.mod.kin hq
 refine wpAny_Raise_call_subU (C:=C) (nm:=nm) (q:=q) (N:=N) (bs:=bs) (bm:=bm) (hdct:=hdct) (sn:=sn) (sub:=sub) (ab:=ab) (col:=col) (dd:=dd) (k0:=k0) (k1:=k1) (k2:=k2) (k3:=k3) (k5:=k5) (bmB:=vEr)
  PySem.F.excBase_ValueError rfl PySem.F.excBase_ValueError (mN:=mN) (T.hasType rfl) (I.ok.hd hc) (by rw[he];show(false || (backTo cpos (starEach es X.env)).any (·.1))=false;rw[hpl];rfl) hni (KD I hg hm ⟨rfl,?_⟩ hdb)
 have h2:=ha cpos pins s σ H _ I h
 rw[he] at h2⊢
 refine Calls.evalArgs_plain (wpAny_mono h2 (λus s2 ⟨vs,H1,I1,r,hl,hE⟩=>⟨rfl,?_,I1.bk _ _ hC,hN.keeps I1.bk,T.keeps I1.bk,λh' a hx=>hR pins σ H1 s2 C a us h' I1 hx hE⟩) λ_ _ y=>y)
 have:us.length<=9:=by rw[←r.length];exact hl
 exact Nat.le_trans this (by decide)
end
noncomputable abbrev TJ:=St->Hp->(Hp->Prop)->Prop
noncomputable def PJ (X:Cx)(es:List Expr)(n:Nat)(t:TJ):Prop:=
 ∀(pins:List (Addr×Obj)) (s:Shared) (σ:St) (H:Hp) (Q:Hp->Prop) (out:Str),Inv X pins σ H s->out.length<=n->t σ H Q->
  wpAny (model X.prog X.w) X.A (joinParts out (evalEach es X.env)) (λu s'=>∃ x tk H',u=Value.str x tk/\Inv X pins σ H' s'/\Q H') X.xe s
noncomputable def tJn:TJ:=λ_ H Q=>Q H
noncomputable def tJs (te:TE)(t:TJ):TJ:=λσ H Q=>te σ H λv H1=>∃ x:Str,v= .str x/\x.length<=1000/\t σ H1 Q
noncomputable def tJi (te:TE)(t:TJ):TJ:=λσ H Q=>te σ H λv H1=>∃ i:Int,v= .int i/\i.natAbs.log2<1920/\t σ H1 Q
noncomputable def tF (t:TJ):TE:=λσ H Q=>t σ H λH1=>∀ x,Q (.str x) H1
section
variable {X:Cx}{e:Expr}{es:List Expr}{te:TE}{t:TJ}{n:Nat}{pos p:Pos}
theorem ER (h:n<=sizeLine:=by exact Nat.le_of_ble_eq_true rfl):PJ X [] n tJn:=λpins s σ H Q out I hl q=>
 joinParts_nil ⟨_,_,H,rfl,I.tok _,q⟩ (Nat.le_trans hl h)
theorem Ct (he:PE X e te)(hr:PJ X es (n+1000) t)(hz:n+1000<=sizeLine:=by exact Nat.le_of_ble_eq_true rfl):PJ X (e::es) n (tJs te t):=λpins s σ H Q out I hl q=>by
 refine joinParts_cons (wpAny_mono (he pins s σ H _ I q) (λu s1 r9=>?_) λ_ _ z=>z)
 obtain⟨v,H1,I1,r,x,hv,hx,q1⟩:=r9
 subst hv
 obtain⟨tk,hu⟩:∃tk,u=Value.str x tk:=r
 subst hu
 have hle:(out++x).length<=n+1000:=by rw[strLen_append];omega
 exact⟨Nat.le_trans hle hz,hr pins s1 σ H1 Q _ I1 hle q1⟩
theorem Cv (he:PE X e te)(hr:PJ X es (n+2000) t)(hz:n+2000<=sizeLine:=by exact Nat.le_of_ble_eq_true rfl):PJ X (.FormattedValue e (-1) none p::es) n (tJi te t):=λpins s σ H Q out I hl q=>by
 refine joinParts_cons (FormattedValue_plain (wpAny_mono (he pins s σ H _ I q) (λu s1 r9=>?_) λ_ _ z=>z))
 obtain⟨v,H1,I1,r,i,hv,hx,q1⟩:=r9
 subst hv
 obtain⟨tk,hu⟩:∃tk,u=Value.int i tk:=r
 subst hu
 refine formatField_int_small hx ?_
 have h1:(Str.ofString (toString i)).length<=1921:=by
  have:=int_text_length_le (k:=1920) (by decide) hx
  rw[PySem.ofString_length]
  exact this
 have hle:(out++(toString i:Str)).length<=n+2000:=by
  rw[strLen_append]
  show out.length+(Str.ofString (toString i)).length<=_
  omega
 exact⟨Nat.le_trans hle hz,hr pins _ σ H1 Q _ (I1.tok _) hle q1⟩
theorem RQ {e₁:Expr}(h:PJ X (e::e₁::es) 0 t):PE X (.JoinedStr (e::e₁::es) pos) (tF t):=λpins s σ H Q I q=>
 JoinedStr_many (wpAny_mono (h pins s σ H _ Str.empty I (Nat.le_refl _) q) (λu s' r9=>by obtain⟨x,tk,H',hu,I',q'⟩:=r9;exact⟨.str x,H',I',⟨tk,hu⟩,q' x⟩) λ_ _ z=>z)
end
noncomputable abbrev Cx.alt (X:Cx)(pn:List (Addr×Obj))(xe:Value->Shared->Prop):Cx:={X with pn:=pn,xe:=xe}
noncomputable abbrev Cx.held (X:Cx)(a:Addr)(pn:List (Addr×Obj)):Cx:={X with A:=X.A.mark (some (.ref a)),calm:=false,pn:=pn,xe:=λ_ _=>False}
noncomputable def blank (n:Nat):St:=List.replicate n none
noncomputable def SR (K:PySem.W.Frag)(n:Nat)(cc:Value)(i:Nat)(tb:XK->TS)(ts:Addr->Addr->TS):TS:=λD σ H=>
 tb (λc _ H'=>PySem.W.exmOne K c cc=some true/\∀a C,c= .ref C->H' a=none->ts a C {nx:=λ_=>D.nx (blank n),rt:=D.rt,bk:=λ_=>D.bk (blank n),ct:=λ_=>D.ct (blank n)} ((blank n).set i (some (.ref a))) H') D σ H
theorem Cx.Ok.alt {X:Cx}(ok:X.Ok)(pn:List (Addr×Obj))(xe:Value->Shared->Prop):(X.alt pn xe).Ok:=
 ⟨ok.mod,ok.kind,ok.glob,ok.blt,ok.above,ok.inj,ok.has,ok.cab,ok.hd,ok.frames,ok.stk,ok.exf,ok.bs,ok.bsz,ok.noex,ok.exfs,ok.funs,ok.frf⟩
theorem Cx.Ok.held {X:Cx}(ok:X.Ok)(a:Addr)(pn:List (Addr×Obj)):(X.held a pn).Ok:=
 ⟨ok.mod,ok.kind,ok.glob,ok.blt,ok.above,ok.inj,ok.has,ok.cab,(λz=>nomatch z),ok.frames,ok.stk,ok.exf,ok.bs,ok.bsz,ok.noex,ok.exfs,ok.funs,ok.frf⟩
section
variable {X:Cx}{pins:List (Addr×Obj)}{σ:St}{H:Hp}{s:Shared}{h':Heap}
theorem Cu {n i:Nat}{v:V}(h:(blank n)[i]?=some (some v)):False:=by
 unfold blank at h
 rw[List.getElem?_replicate] at h
 split at h<;> cases h
theorem GL {n:Nat}:(blank n).length=n:=by simp[blank]
theorem Inv.blank (I:Inv X pins σ H s):Inv X pins (blank X.N.length) H s:=I.weak (by rw[GL,I.len]) λi v h=>(Cu h).elim
theorem Inv.forget {m':Str->Option Value}{t':Nat}(I:Inv X pins σ H s)(hn:h'.Ns X.env.locals m')(sb:Heap.SameBut X.env.locals s.heap h'):Inv X pins (L2.blank X.N.length) H {s with heap:=h',toks:=t'}:=by
 have v:Un [] [X.env.locals] H H s.heap h':=⟨λb o e n _ hx=>(sb.2 b λz=>hx (by simp[z])).trans e,(λb o e n hb _=>nomatch hb),λb o e n _=>n,λb o e hx=>⟨o,(sb.2 b λz=>hx (by simp[z])).trans e⟩,λ_ _ q=>q,λ_ _ _ q=>q,λ_ ps q=>⟨#[],by simpa using q⟩⟩
 refine⟨I.ok,I.os,I.bare,I.base.past v (λb hb=>?_) (λb hb=>nomatch hb),⟨m',hn,λi x v _ e2=>(Cu e2).elim⟩,λx c e=>?_,I.free,I.freeC,λp hp=>?_,λb o e=>?_,GL⟩
 ·rw[List.mem_singleton.mp hb];exact Heap.get?_none_of_le I.ok.above
 ·obtain⟨v,o,e1,e2⟩:=I.cell x c e
  exact⟨v,o,(sb.2 c (I.cne x c e)).trans e1,e2⟩
 ·obtain⟨e,n,ne,nf,d⟩:=I.pin p hp
  exact⟨(sb.2 p.1 ne).trans e,n,ne,nf,d⟩
 ·refine(I.hok b o e).stay (λc u hc q=>(sb.2 c λz=>?_).trans q) (λ_ q=>q) λ_ _ q=>q
  have hf:=I.free
  rw[←z] at hf
  rcases hc with y |y
  ·rw[y,e] at hf;cases hf
  ·rw[y] at hf;cases hf
end
section
variable {X:Cx}{body suite:List Stmt}{b₀:Stmt}{cn n:Str}{Ch:Addr}{i:Nat}{tb:XK->TS}{ts:Addr->Addr->TS}{np hpos pos:Pos}
theorem Pz (hst:X.stack=X.env::X.outer)(hex:X.ex=[])(hfr:X.env.frame=some X.env.locals)(hg:Gl X cn)(hm:X.mg cn=some (.ref Ch))(hN:X.N.Nodup)(hi:X.N[i]?=some n)(hlo:X.env.kindOf n=some .local)(hlo2:X.env.scope.names.lookup n=some .local)
  (hb:∀pn xe E,Vg (CXE X.prog X.w) (X.alt pn xe) E->PSs (X.alt pn xe) body (tb E))
  (hs:∀pn a o C,(a,o)∈pn->o.cls= .ref C->PSs (X.held a pn) (b₀::suite) (ts a C))
  (hdb:(cn==("__debug__":Str))=false:=by decide):
  PS X (.Try body [.ExceptHandler (some (.Name cn np)) (some n) (b₀::suite) hpos] [] [] pos) (SR X.K X.N.length (.ref Ch) i tb ts):=by
 intro pins s σ H D I h
 refine wpAny_Try_except ?_
 have I0:∀xe,Inv (X.alt (X.pn++pins) xe) [] σ H s:=λxe=>⟨I.ok.alt _ _,I.os,I.bare,I.base,I.loc,I.cell,I.free,I.freeC,λp hp=>I.pin p (by simpa using hp),I.hok,I.len⟩
 have back:∀{xe pins1 σ' H' s'},Inv (X.alt (X.pn++pins) xe) pins1 σ' H' s'->Inv X pins σ' H' s':=fun {xe pins1 σ' H' s'} J=>⟨I.ok,J.os,J.bare,J.base,J.loc,J.cell,J.free,J.freeC,λp hp=>J.pin p (List.mem_append_left _ hp),J.hok,J.len⟩
 refine wpAny_mono (hb (X.pn++pins) _ _ ?pp [] s σ H D (I0 _) h) (λf s1 hq=>?fin) λe s1 hq=>hq
 case fin=>
  cases f with
  |next=>obtain⟨σ',H',J,q⟩:=hq;exact wpAny_execs_nil ⟨σ',H',back J,q⟩
  |brk=>obtain⟨σ',H',J,q⟩:=hq;exact⟨σ',H',back J,q⟩
  |cont=>obtain⟨σ',H',J,q⟩:=hq;exact⟨σ',H',back J,q⟩
  |ret u=>obtain⟨v,σ',H',J,r,q⟩:=hq;exact⟨v,σ',H',back J,r,q⟩
 case pp=>
  intro pins1 σ1 H1 s1 e s' I1 ⟨a,T,C,H',he,x,os,bare,un,hok,hexm,hts⟩
  subst he
  have I2:=I1.call' os un hok bare (λb z=>nomatch z)
  have J:Inv X pins (blank X.N.length) H' s':=(back I2).blank
  have q1:∀b,s1.heap.get? b=none->X.s₀.heap.get? b=none/\b≠X.env.locals/\(∀y c,X.env.cells.lookup y=some c->c≠b)/\∀p∈X.pn++pins,p.1≠b:=λb nb=>by
   refine⟨?_,λz=>?_,λy c hy z=>?_,λp hp z=>?_⟩
   ·cases q:X.s₀.heap.get? b with
    |none=>rfl
    |some o=>obtain⟨o',e⟩:=I1.base.there b o q (by show b∉X.ex;rw[hex];simp);rw[nb] at e;cases e
   ·obtain⟨m,⟨o,es,ep,ho,_⟩,_⟩:=I1.loc
    have ho':s1.heap.get? X.env.locals=some o:=ho
    rw[←z,nb] at ho';cases ho'
   ·obtain⟨v,o,ho,_⟩:=I1.cell y c hy
    rw[z,nb] at ho;cases ho
   ·obtain⟨e,_⟩:=I1.pin p (List.mem_append_left _ hp)
    rw[z,nb] at e;cases e
  have hl:s'.heap.FunFrames X.base (X.env::X.outer):=hst▸J.stack
  have hfn:∀b∈frs (X.env::X.outer),H' b=none:=hst▸J.stkFree
  have hA:X.A.frames=some (X.env::X.outer):=hst▸I.ok.frames
  obtain⟨a0,fl⟩:=x.fly hl
  refine wpAny_looks_onW hA hfr fl λh2 hd2 up2=>?_
  refine wpAny_landsW hd2 λh3 fl3 up3=>?_
  obtain⟨T3,x3,hok3,un3⟩:=x.after hl hfn hok (λb o e=>un.there b o e (λz=>nomatch z)) fl3.1 fl3.2.2.2 (up2.trans up3)
  have ch:∀{U:Addr},s1.heap.get? U=none->∀b∈[a,U],X.s₀.heap.get? b=none/\b≠X.env.locals/\(∀y c,X.env.cells.lookup y=some c->c≠b)/\∀p∈X.pn++pins,p.1≠b:=fun {U} nU b hb=>by
   rcases List.mem_cons.mp hb with z |z
   ·rw[z];exact q1 a x.na
   ·rw[List.mem_singleton.mp z];exact q1 U nU
  have J3:Inv X pins (blank X.N.length) H' {s' with heap:=h3}:=J.past (by rw[hst];exact un3) hok3 (ch x.nT)
  have hh:∀{pn:List (Addr×Obj)}{s4:Shared},Inv X pins (blank X.N.length) H' s4->(∀p∈pn,p∈X.pn++pins∨(p.1=a/\s4.heap.get? a=some p.2/\∀v,p.2.data≠ .cell v))->Inv (X.held a pn) [] (blank X.N.length) H' s4:=fun {pn s4} J4 hp4=>by
   refine⟨I.ok.held _ _,J4.os,J4.bare,J4.base,J4.loc,J4.cell,J4.free,J4.freeC,λp hp=>?_,J4.hok,J4.len⟩
   rcases hp4 p (by simpa using hp) with z | ⟨z1,z2,z3⟩
   ·exact J4.pin p z
   ·refine⟨by rw[z1];exact z2,by rw[z1];exact x.fa,by rw[z1];exact(q1 a x.na).2.1,?_,z3⟩
    rw[z1]
    intro y
    obtain⟨_,o2,ho2,_⟩:=I.ok.funs.mem y
    rw[(q1 a x.na).1] at ho2
    cases ho2
  have hl3:h3.FunFrames X.base (X.env::X.outer):=hst▸J3.stack
  obtain⟨oe,vs,oT,tts,a1,ha3,hc3,_⟩:=id x3.obj
  have J3h:=hh (pn:=X.pn++pins) J3 λp hp=>.inl hp
  refine wpAny_handleBy_cons (codeAny_handlers_test (KD J3h hg hm ?_ hdb)) (by intro q;cases q)
  have LT:PySem.W.Looks (model X.prog X.w) h3 (typeOf (.ref a)) (.ref C):=hc3▸(PySem.W.Looks.ld ha3).andThen .now
  refine PySem.W.exm_one J3.kIn LT hexm _ _ _ _ (λ_ _ e=>e) ?_
  refine codeAny_handlers_suite_as ?_
  obtain⟨a2,fl4⟩:=x3.fly hl3
  refine lands_againW fl4 λh5 fl5 up5=>?_
  obtain⟨T5,x5,hok5,un5⟩:=x3.after hl3 hfn hok3 (λb o e=>by
   obtain⟨o',e'⟩:=un.there b o e (λz=>nomatch z)
   by_cases z:b∈[a,T]
   ·rcases List.mem_cons.mp z with z |z
    ·rw[z,x.na] at e;cases e
    ·rw[List.mem_singleton.mp z,x.nT] at e;cases e
   ·exact un3.there b o' e' z) fl5.1 fl5.2.2.2 up5
  have J5:Inv X pins (blank X.N.length) H' {s' with heap:=h5}:=J3.past (by rw[hst];exact un5) hok5 (ch x3.nT)
  obtain⟨oe5,vs5,oT5,ts5,a5,ha5,hc5,_,hd5,_⟩:=id x5.obj
  have J5h:=hh (pn:=(a,oe5)::(X.pn++pins)) J5 λp hp=>by
   rcases List.mem_cons.mp hp with z |z
   ·rw[z];exact .inr ⟨rfl,ha5,λv q=>by rw[hd5] at q;cases q⟩
   ·exact .inl z
  refine Qw (X:=X.held a ((a,oe5)::(X.pn++pins))) (v:=.ref a) J5h hN hi (.inl hlo2) rfl (λs6 J6=>?_) (.inr hlo2)
  refine wpAny_mono (hs _ a oe5 C List.mem_cons_self hc5 [] s6 _ H' _ J6 (hts a C rfl x.fa)) (λf s7 hq=>?_) λ_ _ z=>z.elim
  have fin:∀{σ7 H7}{Q:Unit->Shared->Prop},Inv (X.held a ((a,oe5)::(X.pn++pins))) [] σ7 H7 s7->(∀s8,Inv X pins (blank X.N.length) H7 s8->Q () s8)->wpAny (model X.prog X.w) X.A (do bindName X.env n .none;unbindBehindTheSuite X.env n hpos) Q X.xe s7:=fun {σ7 H7 Q} J7 q=>by
   obtain⟨m,hn,_⟩:=id J7.loc
   refine wpAny_nameGoes hlo hn (by rw[I.ok.kind];rfl) λh8 m8 hn8 sb8=>q _ ?_
   have J8:=J7.forget (t':=s7.toks+1) hn8 sb8
   exact⟨I.ok,J8.os,J8.bare,J8.base,J8.loc,J8.cell,J8.free,J8.freeC,λp hp=>J8.pin p (by simpa using .inr (by simpa using hp)),J8.hok,J8.len⟩
  cases f with
  |next=>obtain⟨σ7,H7,J7,q⟩:=hq;exact fin J7 λs8 J8=>⟨_,H7,J8,q⟩
  |brk=>obtain⟨σ7,H7,J7,q⟩:=hq;exact fin J7 λs8 J8=>⟨_,H7,J8,q⟩
  |cont=>obtain⟨σ7,H7,J7,q⟩:=hq;exact fin J7 λs8 J8=>⟨_,H7,J8,q⟩
  |ret u=>obtain⟨v,σ7,H7,J7,r,q⟩:=hq;exact fin J7 λs8 J8=>⟨v,_,H7,J8,r,q⟩
end
section
variable {K:PySem.W.Frag}{Er:Exc->Hp->Prop}{S:SC}{OO OO' OO2:List (List Xo)}{σ:St}{α β γ ρ ι:Type}{α1 α2 α3 α4 α5 α6:Type}{mg:Str->Option Value}{E:XK}
noncomputable def ErE (mg:Str->Option Value)(E:XK):Exc->Hp->Prop:=λx H=>∀ C,mg x.cls=some (.ref C)->E (.ref C) none H
structure PX {β:Type}(Er:Exc->Hp->Prop)(F:β->Hp->Prop)(H:Hp)(m:Rs β):Prop where
 z:PZ Er F H m
noncomputable def MD (mg:Str->Option Value)(r1:Enc α1)(o:OE ρ)(f:α1->Rs ρ)(K:PySem.W.Frag):Sp:=λvs H Q E=>∃ v1 a1,vs=[v1]/\r1 K H v1 a1/\PX (ErE mg E) (FF K o Q) H (f a1)
noncomputable def Bn (mg:Str->Option Value)(r1:Enc α1)(r2:Enc α2)(o:OE ρ)(f:α1->α2->Rs ρ)(K:PySem.W.Frag):Sp:=λvs H Q E=>∃ v1 v2 a1 a2,vs=[v1,v2]/\r1 K H v1 a1/\r2 K H v2 a2/\PX (ErE mg E) (FF K o Q) H (f a1 a2)
noncomputable def RF (mg:Str->Option Value)(r1:Enc α1)(r2:Enc α2)(r3:Enc α3)(o:OE ρ)(f:α1->α2->α3->Rs ρ)(K:PySem.W.Frag):Sp:=λvs H Q E=>∃ v1 v2 v3 a1 a2 a3,vs=[v1,v2,v3]/\r1 K H v1 a1/\r2 K H v2 a2/\r3 K H v3 a3/\PX (ErE mg E) (FF K o Q) H (f a1 a2 a3)
theorem Ef {o:OE ρ}[FlatO o]{Q:VK}{H:Hp}{m:Rs ρ}(w:W OO H)(P:PZ Er (FO K OO OO o Q) H m):PZ Er (FF K o Q) H m:=by
 cases m with
 |bad=>exact P
 |err x=>exact P
 |ok b=>exact JV w P
theorem L8 {o:OE ρ}[FlatO o]{Q:VK}{H:Hp}{m:Rs ρ}(w:W OO H)(P:PZ Er (FO K OO OO o Q) H (noE m)):PZ (ErE mg E0) (FF K o Q) H m:=by
 cases m with
 |bad=>exact P
 |err x=>exact P.elim
 |ok b=>exact JV w P
theorem QX {ta:TE}{r1:Enc α1}{o:OE ρ}[FlatO o]{f:α1->Rs ρ}{ma:Rs α1}(ha:EvB K (ErE mg E) S OO σ ta r1 ma):Ev K (ErE mg E) S OO OO σ (Qj (MD mg r1 o f K) [] E (Xn ta YF)) o (ma.bind λa=>f a):=λH Q w s P=>
 ha.run w s FO.tr P λa x H1 s1 w1 q1 r1 P1=>⟨x,a,rfl,r1,⟨Ef w1 P1⟩⟩
theorem XX {ta tb:TE}{r1:Enc α1}{r2:Enc α2}[z1:MonoE r1]{o:OE ρ}[FlatO o]{f:α1->α2->Rs ρ}{ma:Rs α1}{mb:Rs α2}(ha:EvB K (ErE mg E) S OO σ ta r1 ma)(hb:EvB K (ErE mg E) S OO σ tb r2 mb):
  Ev K (ErE mg E) S OO OO σ (Qj (Bn mg r1 r2 o f K) [] E (Xn ta (Xn tb YF))) o (ma.bind λa=>mb.bind λb=>f a b):=λH Q w s P=>
 ha.run w s FO.tr P λa x H1 s1 w1 q1 r1 P1=>hb.run w1 q1 FO.tr P1 λb y H2 s2 w2 q2 r2 P2=>⟨x,y,a,b,rfl,z1.mono s2 r1,r2,⟨Ef w2 P2⟩⟩
theorem GZ {ta tb tc:TE}{r1:Enc α1}{r2:Enc α2}{r3:Enc α3}[z1:MonoE r1][z2:MonoE r2]{o:OE ρ}[FlatO o]{f:α1->α2->α3->Rs ρ}{ma:Rs α1}{mb:Rs α2}{mc:Rs α3}(ha:EvB K (ErE mg E) S OO σ ta r1 ma)(hb:EvB K (ErE mg E) S OO σ tb r2 mb)(hc:EvB K (ErE mg E) S OO σ tc r3 mc):
  Ev K (ErE mg E) S OO OO σ (Qj (RF mg r1 r2 r3 o f K) [] E (Xn ta (Xn tb (Xn tc YF)))) o (ma.bind λa=>mb.bind λb=>mc.bind λc=>f a b c):=λH Q w s P=>
 ha.run w s FO.tr P λa x H1 s1 w1 q1 r1 P1=>hb.run w1 q1 FO.tr P1 λb y H2 s2 w2 q2 r2 P2=>hc.run w2 q2 FO.tr P2 λc z H3 s3 w3 q3 r3 P3=>⟨x,y,z,a,b,c,rfl,z1.mono (s2.trans s3) r1,z2.mono s3 r2,r3,⟨Ef w3 P3⟩⟩
theorem BV {ta tb:TE}{r1:Enc α1}{r2:Enc α2}[z1:MonoE r1]{o:OE ρ}[FlatO o]{f:α1->α2->Rs ρ}{ma:Rs α1}{mb:Rs α2}(ha:EvB K Er S OO σ ta r1 ma)(hb:EvB K Er S OO σ tb r2 mb):
  Ev K Er S OO OO σ (Qj (Bn mg r1 r2 o f K) [] E0 (Xn ta (Xn tb YF))) o (ma.bind λa=>mb.bind λb=>noE (f a b)):=λH Q w s P=>
 ha.run w s FO.tr P λa x H1 s1 w1 q1 r1 P1=>hb.run w1 q1 FO.tr P1 λb y H2 s2 w2 q2 r2 P2=>⟨x,y,a,b,rfl,z1.mono s2 r1,r2,⟨L8 w2 P2⟩⟩
theorem Ey {ta tb tc:TE}{r1:Enc α1}{r2:Enc α2}{r3:Enc α3}[z1:MonoE r1][z2:MonoE r2]{o:OE ρ}[FlatO o]{f:α1->α2->α3->Rs ρ}{ma:Rs α1}{mb:Rs α2}{mc:Rs α3}(ha:EvB K Er S OO σ ta r1 ma)(hb:EvB K Er S OO σ tb r2 mb)(hc:EvB K Er S OO σ tc r3 mc):
  Ev K Er S OO OO σ (Qj (RF mg r1 r2 r3 o f K) [] E0 (Xn ta (Xn tb (Xn tc YF)))) o (ma.bind λa=>mb.bind λb=>mc.bind λc=>noE (f a b c)):=λH Q w s P=>
 ha.run w s FO.tr P λa x H1 s1 w1 q1 r1 P1=>hb.run w1 q1 FO.tr P1 λb y H2 s2 w2 q2 r2 P2=>hc.run w2 q2 FO.tr P2 λc z H3 s3 w3 q3 r3 P3=>⟨x,y,z,a,b,c,rfl,z1.mono (s2.trans s3) r1,z2.mono s3 r2,r3,⟨L8 w3 P3⟩⟩
theorem Cr {o:OE ρ}[MonoO o]{t:TS}{m:Rs ρ}{Q:VK}{H:Hp}{D:Ends}(n:Nat)(h:Sv (ErE mg E) S (List.replicate n []) σ t (FTd K o) m)(hs:S.p H)(PP:PX (ErE mg E) (FF K o Q) H m)(hD:D.rt=Q):t D σ H:=by
 have P:=PP.z
 refine h H D (On n H) (by rw[Bb];exact hs) ?_
 rw[Bb]
 cases m with
 |bad=>exact P
 |err x=>exact P
 |ok b=>
  intro v C OO' H' w mm ho
  rw[hD]
  exact HI P v C OO' H' w mm ho
theorem DO {J:Jn Unit ι}{t:TS}{m:Rs Unit}{Q:VK}{H:Hp}{D:Ends}(n:Nat)(h:Sv (ErE mg E) S (List.replicate n []) σ t (FNd J) m)(hs:S.p H)(PP:PX (ErE mg E) (FF K oU Q) H m)(hD:∀σ H,D.nx σ H=Q .non H):t D σ H:=by
 have P:=PP.z
 refine h H D (On n H) (by rw[Bb];exact hs) ?_
 rw[Bb]
 cases m with
 |bad=>exact P
 |err x=>exact P
 |ok b=>
  intro x H' w mm ho
  rw[hD]
  have hs:Xp (hid H' (J.oo x)) (hid H' [[]]):=Zh (Xp.refl _) λb hb=>by simp[fl] at hb
  exact P .non [] H' ⟨λc hc=>by simp at hc,by simp[fl],λc hc=>by simp at hc⟩ (mm.trans hs) ⟨rfl,rfl⟩
noncomputable def FJ (Q:Hp->Prop)(_:Unit)(H:Hp):Prop:=∀ H',Xp H H'->Q H'
theorem FJ.tr {Q:Hp->Prop}:∀(b:Unit) (H H':Hp),Xp H H'->FJ Q b H->FJ Q b H':=λ_ _ _ s h H2 s2=>h H2 (s.trans s2)
noncomputable def EvJ (Er:Exc->Hp->Prop)(S:SC)(OO:List (List Xo))(σ:St)(t:TJ)(m:Rs Unit):Prop:=∀ H Q,W OO H->S.p (hid H OO)->PZ Er (FJ Q) H m->t σ H Q
theorem Dk:EvJ Er S OO σ tJn (.ok ()):=λH Q _ _ P=>P H (Xp.refl _)
theorem K2 {x:Str}{t:TJ}{m:Rs Unit}(h:EvJ Er S OO σ t m)(hx:x.length<=1000:=by first |decide |decide+kernel):EvJ Er S OO σ (tJs (tC (.str x)) t) m:=λH Q w s P=>⟨x,rfl,hx,h H Q w s P⟩
theorem K0 {te:TE}{t:TJ}{ma:Rs Int}{m:Rs Unit}(ha:EvB K Er S OO σ te Xd ma)(h:EvJ Er S OO σ t m):EvJ Er S OO σ (tJi te t) (ma.bind λi=>chk (i.natAbs.log2<1920) m):=λH Q w s P=>
 ha.run w s FJ.tr P λi v H' s1 w1 q1 r1 P1=>by
  by_cases hc:i.natAbs.log2<1920
  ·rw[Xl hc] at P1
   exact⟨i,r1,hc,h H' Q w1 q1 P1⟩
  ·unfold chk at P1
   rw[if_neg hc] at P1
   exact P1.elim
noncomputable def EvX (Er:Exc->Hp->Prop)(S:SC)(OO:List (List Xo))(σ:St)(t:TE)(m:Rs Unit):Prop:=∀ H (Q:VK),W OO H->S.p (hid H OO)->PZ Er (FJ λH=>∀ v,Q v H) H m->t σ H Q
theorem N7 {t:TJ}{m:Rs Unit}(h:EvJ Er S OO σ t m):EvX Er S OO σ (tF t) m:=λH Q w s P=>h H _ w s (by
 cases m with
 |bad=>exact P
 |err x=>exact P
 |ok b=>exact λH' s' x=>P H' s' _)
variable {Fd:Ends->β->Hp->Prop}[fd:FdOk Fd]{u:TS}
theorem Kr {te:TE}{m:Rs Unit}{C:Addr}{n:Str}(hm:mg n=some (.ref C))(h:EvX (ErE mg E) S OO σ te m):Sv (ErE mg E) S OO σ (Zv (Mh C E (Xn te YF)) u) Fd (m.bind λ_=>.err ⟨n, .non⟩):=λH D w s P=>
 h H _ w s (by
  cases m with
  |bad=>exact P
  |err x=>exact λH' s'=>P H' (Xu.trans s')
  |ok b=>exact λH' s' v=>⟨Nat.le_of_ble_eq_true rfl,P H' (Xu.trans s') C hm⟩)
noncomputable def YY (n d:Str):Bool:=n==d || d==("PlaitError":Str)
noncomputable def erA (K:PySem.W.Frag)(C:Addr):Bool:=PySem.W.findIn K (.ref C) "__getattribute__" ==some (some (.builtin "BaseException.__getattribute__"))&&PySem.W.findIn K (.ref C) "__getattr__" ==some none&&PySem.W.findIn K (.ref C) "__class__" ==some (some (.builtin "object.__class__"))&&
 PySem.W.specialIn K (.builtin "object.__class__") "__get__" ==some (some (.builtin "getset_descriptor.__get__"))&&PySem.W.takesIn K (.builtin "object.__class__")==some true&&PySem.W.mroIn K C (.type "object")==some true&&(PySem.W.clsIn K C).isSome&&PySem.W.mroIn K C (.type "BaseException")==some true
noncomputable def Vl (n:Str):Bool:=!(n==("NotADrawing":Str))&&!(n==("NoChain":Str))
noncomputable def OA (K:PySem.W.Frag)(cs:List (Str×Addr)):Bool:=cs.all λp=>(!(Vl p.1) || PySem.W.excIn K p.2 vEr "ValueError.__new__")&&erA K p.2&&PySem.W.kitOne K (.ref p.2) (.type "ValueError")==some true&&
 cs.all λq=>PySem.W.kitOne K (.ref p.2) (.ref q.2)==some (YY p.1 q.1)&&PySem.W.exmOne K (.ref p.2) (.ref q.2)==some (YY p.1 q.1)
structure Ecs (ns:List Str)(K:PySem.W.Frag)(mg:Str->Option Value):Prop where
 adr:∀n∈ns,∃C,mg n=some (.ref C)/\(Vl n=true->PySem.W.excIn K C vEr "ValueError.__new__" =true)
 att:∀n∈ns,∀C,mg n=some (.ref C)->erA K C=true
 val:∀n∈ns,∀C,mg n=some (.ref C)->PySem.W.kitOne K (.ref C) (.type "ValueError")=some true
 kit:∀n∈ns,∀d∈ns,∀C D,mg n=some (.ref C)->mg d=some (.ref D)->PySem.W.kitOne K (.ref C) (.ref D)=some (YY n d)
 exm:∀n∈ns,∀d∈ns,∀C D,mg n=some (.ref C)->mg d=some (.ref D)->PySem.W.exmOne K (.ref C) (.ref D)=some (YY n d)
theorem Pg {cs:List (Str×Addr)}(h:OA K cs=true)(hn:∀p∈cs,mg p.1=some (.ref p.2)):Ecs (cs.map (·.1)) K mg:=by
 have key:∀n∈cs.map (·.1),∀C,mg n=some (.ref C)->(n,C)∈cs:=λn hm C hC=>by
  obtain⟨⟨n',C'⟩,hp,rfl⟩:=List.mem_map.mp hm
  have:=hn _ hp
  rw[hC] at this
  cases this
  exact hp
 have hp:∀p∈cs,_:=List.all_eq_true.mp h
 simp only[Bool.and_eq_true,List.all_eq_true,beq_iff_eq,Bool.or_eq_true] at hp
 refine⟨λn hm=>?_,λn hm C hC=>(hp _ (key n hm C hC)).1.1.2,λn hm C hC=>(hp _ (key n hm C hC)).1.2,λn hm d hd C D hC hD=>((hp _ (key n hm C hC)).2 _ (key d hd D hD)).1,λn hm d hd C D hC hD=>((hp _ (key n hm C hC)).2 _ (key d hd D hD)).2⟩
 obtain⟨⟨n',C'⟩,hq,rfl⟩:=List.mem_map.mp hm
 exact⟨C',hn _ hq,λe=>(hp _ hq).1.1.1.resolve_left (by rw[e];exact Bool.false_ne_true)⟩
noncomputable def cau (ns:List Str)(n d:Str):Bool:=decide (n∈ns)&&YY n d
noncomputable def Rs.tryC (m:Rs α)(f:α->Rs β)(g:Exc->Rs β):Rs β:=match m with
 | .bad=>.bad
 | .err x=>g x
 | .ok a=>f a
theorem NA {c:Prop}[Decidable c]{m:Rs β}{F:β->Hp->Prop}{H:Hp}(P:PZ Er F H (chk c m)):c/\PZ Er F H m:=by
 by_cases hc:c
 ·rw[Xl hc] at P;exact⟨hc,P⟩
 ·unfold chk at P
  rw[if_neg hc] at P
  exact P.elim
section
variable {te:XK->TE}{m:Rs α}{ts:Addr->Addr->TS}{N i:Nat}{Ch:Addr}{o:OE ρ}{g:Exc->Rs ρ}{ns:List Str}{d:Str}
theorem NY {x:Exc}{H:Hp}{D D':Ends}(hD:D'.rt=D.rt)(Y:Ecs ns K mg)(hd:d∈ns)(hm:mg d=some (.ref Ch))(hs:∀x,x.cls∈ns->∀C a,mg x.cls=some (.ref C)->Sv Er S OO ((blank N).set i (some (.ref a))) (ts a C) (FTd K o) (g x))(w:W OO H)(s:S.p (hid H OO))
  (P:PZ Er (FTd K o D) (hid H OO) (chk (cau ns x.cls d=true) (g x))):∀H',Xp H H'->∀C,mg x.cls=some (.ref C)->PySem.W.exmOne K (.ref C) (.ref Ch)=some true/\∀a C',Value.ref C= .ref C'->H' a=none->ts a C' D' ((blank N).set i (some (.ref a))) H':=λH' s' C hC=>by
 obtain⟨hc,P2⟩:=NA P
 unfold cau at hc
 rw[Bool.and_eq_true,decide_eq_true_eq] at hc
 refine⟨by rw[Y.exm _ hc.1 d hd C Ch hC hm,hc.2],λa C' hC' _=>hs x hc.1 C' a (hC'.symm▸hC) H' D' (w.keep s') (S.mono _ _ (Xh s') s) ?_⟩
 have P3:=PZ.tr (FdOk.tr (Fd:=FTd K o) D) (Xh s') P2
 unfold FTd at P3⊢
 rw[hD]
 exact P3
end
noncomputable def vOf:V->Value
 | .ref a=>.ref a
 | .ty n=>.type n
 |_=>.none
noncomputable def SJ (K:PySem.W.Frag)(c:Value)(a:Addr)(xs:List V)(H:Hp)(Q:VK):Prop:=∃ d b C,c= .ref C/\erA K C=true/\xs=[.ref a,d]/\((∃D,d= .ref D)∨∃n,d= .ty n)/\PySem.W.kitOne K c (vOf d)=some b/\Q (.bl b) H
theorem Ic {a C D:Addr}{b:Bool}(i:Nat)(hσ:σ[i]?=some (some (.ref a)))(hA:erA K C=true)(hk:PySem.W.kitOne K (.ref C) (.ref D)=some b):EvB K Er S OO σ (tCB (SJ K (.ref C) a) (Xn (JQ i) (Xn (tC (.ref D)) YF))) XN (.ok b):=λH Q w s P=>
 ⟨_,hσ,_,b,C,rfl,hA,rfl, .inl ⟨D,rfl⟩,hk,P _ H (Xp.refl _) rfl⟩
theorem LS {o:OE ρ}{c:TT}{t1:TS}{mc:Rs Bool}{m1:Rs ρ}{m2:Rs β}(hc:EvT Er S OO σ c mc)(h1:Sv Er S OO σ t1 (FTd K o) m1)(h2:Sv Er S OO σ u Fd m2):Sv Er S OO σ (Zv (OT c t1 K9) u) Fd (mc.bind λb=>if b=true then m1.bind (λ_=>.bad) else m2):=λH D w s P=>
 hc.st (Fd:=Fd) w s P λb H' w' s' P'=>by
  cases b with
  |true=>
   rw[if_pos rfl] at P'⊢
   refine h1 H' _ w' s' ?_
   cases m1 with
   |bad=>exact P'
   |err x=>exact P'
   |ok a=>exact P'.elim
  |false=>exact h2 H' D w' s' P'
end
end L2
namespace L2
open PySem PySem.Spec PyProof.Rows PySem.W PySem.Builtin PySem.Builtin.ObjectAttr PySem.Builtin.Getset_descriptor
section
variable {prog:Program}{w:World}{A:Around}{E:Value->Shared->Prop}{K:Frag}{x D:Addr}{s:Shared}
theorem IZ {M:Model}{h:Heap}(X:K.In h)(cl:findIn K (.ref D) "__class__" =some (some (.builtin "object.__class__")))(sg:specialIn K (.builtin "object.__class__") "__get__" =some (some (.builtin "getset_descriptor.__get__")))(tk:takesIn K (.builtin "object.__class__")=some true):
  Looks M h (Builtin.ObjectAttr.find (.ref x) (.ref D) "__class__") (.bind (.builtin "getset_descriptor.__get__") (.builtin "object.__class__")):=by
 have L3:=looks_takesIn (M:=M) X tk
 exact(looks_findIn (M:=M) X cl).andThen ((looks_specialIn X sg).andThen ((show Looks M h (Builtin.ObjectAttr.dataDescriptor? (some (.builtin "object.__class__")) (some (.builtin "getset_descriptor.__get__"))) (some (.builtin "getset_descriptor.__get__", .builtin "object.__class__")) from L3.andThen .now).andThen (Looks.tag .now)))
theorem N4 {R:Result->Shared->Prop}{tp:Value}(X:K.In s.heap)(L0:Looks (model prog w) s.heap (typeOf (.ref x)) (.ref D))(hm:mroIn K D (.type "object")=some true)
  (h:R (.ok (.ret (.ref D))) s):codeAny (model prog w) A (.call (.builtin "getset_descriptor.__get__") ⟨[.builtin "object.__class__", .ref x,tp],[]⟩) R s:=by
 obtain⟨hh,g,dr,t,os⟩:=s
 have L1:=looks_mroIn (M:=model prog w) X hm
 refine codeAny_call_builtin KF.slot_gs.plain KF.entry_gs (KF.slot_gs.check _ _ _ _ _ _ _ _ KF.type_class (KF.args_gs _ _ _) ?_)
 unfold Builtin.«getset_descriptor.__get__» descrGet
 rw[dga_obj]
 refine wpAny_bind (wpAny_pure ?_)
 unfold descrGetter descrCheckInstance descrNameAndClass isInstance
 simp only[KF.owner_class]
 repeat lk
 refine⟨Code.quiet_builtin _ (by decide+kernel),codeAny_builtin KF.entry_class ?_⟩
 unfold Builtin.«object.__class__» shownTypeOf
 repeat lk
 exact h
theorem BP {Q:Option Value->Shared->Prop}(X:K.In s.heap)(hx:∃o,s.heap.get? x=some o/\o.cls= .ref D)(hA:erA K D=true)(h:Q (some (.ref D)) {s with toks:=s.toks+1}):wpAny (model prog w) A (getAttr? (.ref x) "__class__") Q E s:=by
 obtain⟨hh,g,d,t,os⟩:=s
 obtain⟨o,ho,hc⟩:=hx
 unfold erA at hA
 simp only[Bool.and_eq_true,beq_iff_eq] at hA
 obtain⟨⟨⟨⟨⟨⟨⟨ga,gh⟩,cl⟩,sg⟩,tk⟩,mo⟩,ci⟩,mb⟩:=hA
 have L0:Looks (model prog w) hh (typeOf (.ref x)) (.ref D):=hc▸(Looks.ld ho).andThen .now
 have L1:=looks_findIn (M:=model prog w) X ga
 have L2:=looks_findIn (M:=model prog w) X gh
 have LB:=looks_mroIn (M:=model prog w) X mb
 have LF:=IZ (M:=model prog w) (x:=x) X cl sg tk
 have f3:=PySem.F.attr_ValueError.ga.bind (.ref x)
 have hx2:(Value.builtin "BaseException.__getattribute__" ==Value.builtin "object.__getattribute__")=false:=by decide+kernel
 unfold getAttr? getAttrBy? getAttrBy
 refine wpAny_bind (wpAny_mkText (wpAny_bind (wpAny_attempt (wpAny_holding (wpAny_bind (L0.at (wpAny_bind (L1.at ?_))))))))
 dsimp only
 rw[hx2,Bool.and_false,if_neg Bool.false_ne_true]
 unfold getAttrByItsOwn hookBefore callGetattribute boundAndCalled
 refine wpAny_bind (L2.at ?_)
 refine wpAny_bind (wpAny_attempt (wpAny_holding ?_))
 rw[Bool.false_and,if_neg Bool.false_ne_true,f3]
 refine wpAny_bind (wpAny_pure ?_)
 refine wpAny_call (codeAny_call_builtin PySem.F.attr_ValueError.ga.plain PySem.F.entry_bexc_ga ?_)
 have hk:builtinKind "BaseException.__getattribute__" =some .slot:=by decide+kernel
 have hsplit:splitId "BaseException.__getattribute__" =some ("BaseException","__getattribute__"):=by decide+kernel
 have ha:=PySem.F.args_bexc_ga (.ref x) (Value.str (Str.ofString "__class__") t)
 simp only[checkBuiltinCall,hk,hsplit]
 unfold isInstance
 refine wpAny_bind (wpAny_bind (L0.at ?_))
 refine LB.at ?_
 rw[if_neg (by decide)]
 have fin:∀s1:Shared,s1=⟨hh,g,d,t+1,os⟩->wpAny (model prog w) A.in1 («object.__getattribute__» {pos:=[Value.ref x]++[Value.str (Str.ofString "__class__") t]}) (λfin s'=>match fin with | .done (.ret v)=>v= .ref D/\s'=s1 |_=>False) (λ_ _=>False) s1:=by
  intro s1 hs1
  subst hs1
  unfold «object.__getattribute__» bindTo
  repeat (any_goals (first |with_reducible refine wpAny_call (N4 X L0 mo ?_) |lk))
  exact⟨rfl,rfl⟩
 unfold argsOk at ha
 have sg2:∀sig,Manifest.signature? "BaseException.__getattribute__" =some sig->Bind.checkArgs "BaseException.__getattribute__" sig {pos:=[Value.ref x,Value.str (Str.ofString "__class__") t]}=pure ():=λsig e=>by
  rw[e] at ha
  exact ha
 have Zu:∀{P:Unit->Shared->Prop}{E':Value->Shared->Prop}{s1:Shared},P () s1->wpAny (model prog w) A.in1 (match Manifest.signature? "BaseException.__getattribute__" with |some sig=>Bind.checkArgs "BaseException.__getattribute__" sig {pos:=[Value.ref x]++[Value.str (Str.ofString "__class__") t]} |_=>pure ()) P E' s1:=fun {P E' s1} p=>by
  split
  ·rename_i sig e
   rw[show[Value.ref x]++[Value.str (Str.ofString "__class__") t]=[Value.ref x,Value.str (Str.ofString "__class__") t] from rfl,sg2 sig e]
   exact wpAny_pure p
  ·exact wpAny_pure p
 refine Zu ?_
 refine wpAny_mono (fin _ rfl) (λfi s' z=>?_) λ_ _ z=>z.elim
 rcases fi with(_ |_ |_ |v) |_
 all_goals first |exact z.elim |skip
 obtain⟨rfl,rfl⟩:=z
 exact handed_on rfl (wpAny_pure h)
theorem La (hA:erA K D=true):KitX K (.ref x) (.ref D) (λh=>∃ o,h.get? x=some o/\o.cls= .ref D) where
 ty:=λ_ _ _ ⟨o,ho,hc⟩=>hc▸(Looks.ld ho).andThen .now
 it:=λ_ _ X _=>by
  unfold erA at hA
  simp only[Bool.and_eq_true] at hA
  have z0:=hA.1.2
  unfold clsIn at z0
  split at z0
  ·rename_i ho
   intro A' Q' E' s' k q
   unfold isType loadHead
   exact wpAny_bind (wpAny_loadPart (k _ _ (X _ _ ho)) (wpAny_pure q))
  ·cases z0
 ne:=λh tp dd its n sl X htp=>by
  unfold erA at hA
  simp only[Bool.and_eq_true] at hA
  have z0:=hA.1.2
  refine Bool.eq_false_iff.mpr λq=>?_
  have e:D=tp:=Value.ref.inj (beq_iff_eq.mp q)
  subst e
  unfold clsIn at z0
  split at z0
  ·rename_i ho
   cases(X _ _ ho).symm.trans htp
  ·cases z0
 ca:=λX I k=>BP X I hA k
end
theorem GQ {X:Cx}{x:Str}{v:V}{pos:Pos}(h:∃u,X.mg x=some u/\X9 v u)(hg:Gl X x)(hd:(x==("__debug__":Str))=false:=by decide):PE X (.Name x pos) (tC v):=by
 obtain⟨u,hm,r⟩:=h
 exact Dh hg hm r hd
theorem PS.nox {X:Cx}{st:Stmt}{t:TS}(h:PS X.nox st t):PS X st t:=λpins s σ H D I hw=>
 wpAny_mono (h pins s σ H D (I.wish _) hw) (λ_ _ q=>q.unwish) λ_ _ z=>False.elim z
theorem Dr {X:Cx}{a C:Addr}{o:Obj}{pn:List (Addr×Obj)}(hpn:X.pn=pn)(hp:(a,o)∈pn)(hc:o.cls= .ref C){K:Frag}(hK:X.K=K):Va X (.builtin "isinstance") (SJ K (.ref C) a):=by
 subst hpn hK
 intro pins s σ H xs us Q I r ⟨d,b,C',hC',hA,hxs,hd,hk,q⟩
 cases hC'
 subst hxs
 obtain⟨e,_⟩:=I.pin (a,o) (List.mem_append_left _ hp)
 cases r with
 |cons r1 r2=>
  cases r2 with
  |cons r3 r4=>
   cases r4
   rename_i u1 u2
   obtain rfl:u1=Value.ref a:=r1
   have e2:u2=vOf d:=by
    rcases hd with⟨D,rfl⟩ | ⟨n,rfl⟩
    ·exact r3
    ·exact r3
   subst e2
   exact kia_one (La hA) I.kIn ⟨o,e,hc⟩ hk (λz=>nomatch z) λtk=>⟨.bl b,H,I.tok tk,rfl,q⟩
section
variable {K:PySem.W.Frag}{C D:Addr}{b:Bool}
theorem CD (h1:PySem.W.findIn K (.ref C) "__getattribute__" =some (some (.builtin "BaseException.__getattribute__")))(h2:PySem.W.findIn K (.ref C) "__getattr__" =some none)(h3:PySem.W.findIn K (.ref C) "__class__" =some (some (.builtin "object.__class__")))
  (h6:PySem.W.mroIn K C (.type "object")=some true)(h7:PySem.W.isClsIn K C=true)(h8:PySem.W.mroIn K C (.type "BaseException")=some true)(h4:PySem.W.specialIn K (.builtin "object.__class__") "__get__" =some (some (.builtin "getset_descriptor.__get__")))(h5:PySem.W.takesIn K (.builtin "object.__class__")=some true):erA K C=true:=by
 unfold erA
 unfold PySem.W.isClsIn at h7
 rw[h1,h2,h3,h4,h5,h6,h7,h8]
 rfl
theorem Gg (h:PySem.W.subIn K (.ref C) (.type "ValueError")=some true):PySem.W.kitOne K (.ref C) (.type "ValueError")=some true:=by
 have e:PySem.W.kitOne K (.ref C) (.type "ValueError")=PySem.W.subIn K (.ref C) (.type "ValueError"):=rfl
 rw[e,h]
theorem JB (s:PySem.W.subIn K (.ref C) (.ref C)=some true)(h:PySem.W.subIn K (.ref C) (.ref D)=some b)(h7:PySem.W.isClsIn K D=true)(ht:PySem.W.typeIn K (.ref D)=some (.type "type"))(hb:PySem.W.subIn K (.ref D) (.type "BaseException")=some true):
  PySem.W.kitOne K (.ref C) (.ref D)=some b/\PySem.W.exmOne K (.ref C) (.ref D)=some b:=by
 have e:PySem.W.kitCls K (.ref C) (.ref D)=some b:=by
  unfold PySem.W.kitCls
  unfold PySem.W.isClsIn at h7
  dsimp only
  rw[h7,ht,h]
  rfl
 constructor
 ·unfold PySem.W.kitOne
  rw[e]
  split
  ·rename_i q
   have q:=eq_of_beq q
   rw[←q,s] at h
   exact h
  ·rfl
 ·unfold PySem.W.exmOne
  rw[hb,e]
  rfl
end
end L2
namespace L2
open PySem PySem.Spec PyProof.Rows
theorem P3.dropLast {α β γ:Type}{F:α->β->γ->Prop}:∀{l m n},P3 F l m n->P3 F l.dropLast m.dropLast n.dropLast
 |_,_,_, .nil=>.nil
 |_,_,_, .cons _ .nil=>.nil
 |_,_,_, .cons r (.cons q t)=>.cons r (P3.dropLast (.cons q t))
theorem Vh {α:Type}(l:List (List α)):l.dropLast.flatten.Sublist l.flatten:=by
 have e:l.flatten=l.dropLast.flatten++(l.drop (l.length-1)).flatten:=by rw[List.dropLast_eq_take, ←List.flatten_append,List.take_append_drop]
 rw[e]
 exact List.sublist_append_left _ _
section
variable {α β:Type}{K:PySem.W.Frag}{Er:Exc->Hp->Prop}{S:SC}{OO:List (List Xo)}{σ:St}{Fd:Ends->β->Hp->Prop}[fd:FdOk Fd]{u:TS}
end
section
variable {α β γ δ ε:Type}
theorem Nc {a b:Bool}:(a==b)=decide (a=b):=by rw[Bool.eq_iff_iff];simp
theorem Sq:EqOk XN 0 where
 uniq:=λ_ h1 h2=>by
  have h1':_=V.bl _:=h1
  have h2':_=V.bl _:=h2
  rw[h1'] at h2';injection h2'
 eq:=fun {X pins σ H s x y v u a b A} I rx ry h1 h2 _=>by
  have h1':x=V.bl a:=h1
  have h2':y=V.bl b:=h2
  subst h1' h2'
  cases rx;cases ry
  rw[←Nc];exact SeqAt.EqAt.bool_bool a b
 rc:=fun {X pins σ H s x y v u a b A} I rx ry h1 h2 _=>by
  have h1':x=V.bl a:=h1
  have h2':y=V.bl b:=h2
  subst h1' h2'
  cases rx;cases ry
  rw[←Nc];exact SeqAt.RcAt.bool_bool a b
 ne:=fun {X pins σ H s x y v u a b A} I rx ry h1 h2 _=>by
  have h1':x=V.bl a:=h1
  have h2':y=V.bl b:=h2
  subst h1' h2'
  cases rx;cases ry
  rw[←Nc];exact SeqAt.RcNeAt.bool_bool a b
 keep:=λ_ h=>h
end
section
variable {K:PySem.W.Frag}{Er:Exc->Hp->Prop}{S:SC}{OO OO' OO1 OO2:List (List Xo)}{σ:St}{α β γ ρ ι δ ε ζ:Type}
variable {Fd:Ends->β->Hp->Prop}[fd:FdOk Fd]{u:TS}
noncomputable def getL:α ⊕ γ->Rs α
 | .inl a=>.ok a
 | .inr _=>.bad
noncomputable def getR:α ⊕ γ->Rs γ
 | .inl _=>.bad
 | .inr b=>.ok b
end
end L2
namespace L2
theorem O9 {α:Type}{us:List α}(h:us.length=1):∃a,us=[a]:=List.length_eq_one_iff.mp h
theorem O6 {α:Type}{us:List α}(h:us.length=2):∃a0 a1,us=[a0,a1]:=by
 cases us with
 |nil=>cases h
 |cons a0 t=>
  obtain⟨a1,rfl⟩:=O9 (Nat.succ.inj h)
  exact⟨a0,a1,rfl⟩
theorem PV {α:Type}{us:List α}(h:us.length=3):∃a0 a1 a2,us=[a0,a1,a2]:=by
 cases us with
 |nil=>cases h
 |cons a0 t=>
  obtain⟨a1,a2,rfl⟩:=O6 (Nat.succ.inj h)
  exact⟨a0,a1,a2,rfl⟩
theorem PM {α:Type}{us:List α}(h:us.length=4):∃a0 a1 a2 a3,us=[a0,a1,a2,a3]:=by
 cases us with
 |nil=>cases h
 |cons a0 t=>
  obtain⟨a1,a2,a3,rfl⟩:=PV (Nat.succ.inj h)
  exact⟨a0,a1,a2,a3,rfl⟩
theorem Sw {α:Type}{us:List α}(h:us.length=5):∃a0 a1 a2 a3 a4,us=[a0,a1,a2,a3,a4]:=by
 cases us with
 |nil=>cases h
 |cons a0 t=>
  obtain⟨a1,a2,a3,a4,rfl⟩:=PM (Nat.succ.inj h)
  exact⟨a0,a1,a2,a3,a4,rfl⟩
end L2
namespace L2
open PySem PySem.Spec PyProof.Rows
section
variable {prog:Program}{w:World}{A:Around}{E:Value->Shared->Prop}
end
section
variable {X:Cx}{pos:Pos}
end
section
variable {K:PySem.W.Frag}{Er:Exc->Hp->Prop}{S:SC}{OO OO' OO1 OO2:List (List Xo)}{σ:St}{α β γ ρ ι δ ε ζ:Type}
variable {Fd:Ends->β->Hp->Prop}[fd:FdOk Fd]{u:TS}
theorem IL {te:TE}{m:Rs (Option (Int×Int))}(he:Ev K Er S OO OO' σ te (oF (Qp (rP2 Xd Xd))) m):Ev K Er S OO OO' σ te (oF (Qp (rPL Xd))) (m.bind λa=>.ok (a.map λp=>[p.1,p.2])):=λH Q w s P=>by
 refine he H Q w s ?_
 cases m with
 |bad=>exact P
 |err x=>exact P
 |ok a=>
  refine λv C H' s' w' m' ho=>P v C H' s' w' m' ⟨ho.1,?_⟩
  cases a with
  |none=>exact ho.2
  |some a=>
   obtain⟨_,hn,p,x,y,e,h,h1,h2⟩:=ho
   exact⟨hn,p,_,e,h, .cons h1 (.cons h2 .nil)⟩
theorem Ce {te:TE}{m:Rs (Option (Int×Int×Int×Int))}(he:Ev K Er S OO OO' σ te (oF (Qp (rP4 Xd Xd Xd Xd))) m):Ev K Er S OO OO' σ te (oF (Qp (rPL Xd))) (m.bind λa=>.ok (a.map λp=>[p.1,p.2.1,p.2.2.1,p.2.2.2])):=λH Q w s P=>by
 refine he H Q w s ?_
 cases m with
 |bad=>exact P
 |err x=>exact P
 |ok a=>
  refine λv C H' s' w' m' ho=>P v C H' s' w' m' ⟨ho.1,?_⟩
  cases a with
  |none=>exact ho.2
  |some a=>
   obtain⟨_,hn,p,x,y,x3,x4,e,h,h1,h2,h3,h4⟩:=ho
   exact⟨hn,p,_,e,h, .cons h1 (.cons h2 (.cons h3 (.cons h4 .nil)))⟩
theorem Vm {r:Enc α}:Ev K Er S OO OO σ (tC .non) (oF (Qp r)) (.ok none):=λH Q w s P=>P _ [] H (Xp.refl _) w.nil (by rw[Y6];exact Xp.refl _) ⟨rfl,rfl⟩
theorem Jx {te:TE}{r:Enc α}{m:Rs α}(hn:∀{K h v a C},oF r K h v a C->v≠ .non)(he:Ev K Er S OO OO' σ te (oF r) m):Ev K Er S OO OO' σ te (oF (Qp r)) (m.bind λa=>.ok (some a)):=λH Q w s P=>by
 refine he H Q w s ?_
 cases m with
 |bad=>exact P
 |err x=>exact P
 |ok a=>exact λv C H' s' w' m' ho=>P v C H' s' w' m' ⟨ho.1,hn ho,ho.2⟩
theorem P7 {r1:Enc α}{r2:Enc β}{r3:Enc γ}{r4:Enc δ}{K:PySem.W.Frag}{h:Hp}{v:V}{a:α×β×γ×δ}{C:List Xo}(q:oF (rP4 r1 r2 r3 r4) K h v a C):v≠ .non:=by
 obtain⟨_,p,x1,x2,x3,x4,e,_⟩:=q
 rw[e]
 exact λz=>nomatch z
end
section
variable {X:Cx}
noncomputable def ipM:TIp:=λx y H Q=>∃ i j,x= .int i/\y= .int j/\OM i j/\Q (.int (i*j)) H
theorem Rk:PIp X .Mult ipM:=by
 intro pins s σ H x y v u Q I r1 r2 h
 obtain⟨i,j,e1,e2,hc,q⟩:=h
 subst e1;subst e2
 obtain⟨t,rfl⟩:=r1
 obtain⟨t',rfl⟩:=r2
 exact PySem.AutoIntOps.imul_0 ⟨.int _,H,I.tok _,⟨_,rfl⟩,q⟩ hc.ok
end
section
variable {K:PySem.W.Frag}{Er:Exc->Hp->Prop}{S:SC}{OO OO' OO1 OO2:List (List Xo)}{σ:St}{α β γ ρ ι δ ε ζ:Type}
variable {Fd:Ends->β->Hp->Prop}[fd:FdOk Fd]{u:TS}
theorem MQ {te:TE}{m:Rs Int}{f:Int->Rs β}{v:V}{a:Int}(i:Nat)(hσ:σ[i]?=some (some v))(h:∀x,S.p x->Xd K x v a)(he:EvB K Er S OO σ te Xd m)
  (hr:∀b v,Sv Er (S.add K Xd v b) OO (σ.set i (some v)) u Fd (f b)):Sv Er S OO σ (Zv (RD i te ipM) u) Fd (m.bind λb=>(Mp a b).bind f):=λH D w s P=>
 ⟨v,hσ,he.st w s P λb y H1 s1 w1 q1 r1 P1=>by
  cases e:Mp a b with
  |bad=>rw[e] at P1;exact P1.elim
  |err x=>exact absurd e Qd
  |ok c=>
   rw[e] at P1
   obtain⟨h1,h2⟩:=YZ e
   cases h2
   exact⟨a,b,h _ s,r1,h1,hr _ _ H1 D w1 ⟨q1,rfl⟩ P1⟩⟩
end
set_option maxRecDepth 100000
section
variable {prog:Program}{w:World}{A:Around}{E:Value->Shared->Prop}{s:Shared}
end
section
variable {prog:Program}{w:World}{A:Around}{R:Result->Shared->Prop}{K:Type}[DecidableEq K]{knd:KeyKind prog w K}
noncomputable def Lh (acc kv:List (K×Value)):List (K×Value):=kv.foldl (λa p=>stored a p.1 p.2) acc
end
section
variable {X:Cx}
noncomputable def Rl (acc kvs:List (Key×V)):List (Key×V):=kvs.foldl (λa p=>G7 a p.1 p.2) acc
theorem KV.all {kvs:List (Key×V)}{vs:List (Key×Value)}(t:KV kvs vs):∀{acc:List (Key×V)}{acc':List (Key×Value)},KV acc acc'->KV (Rl acc kvs) (Lh acc' vs):=by
 induction t with
 |nil=>intro acc acc' h;exact h
 | @cons p q kvs vs r _ ih=>
  intro acc acc' h
  have h2:=h.put p.1 r.2
  have e:stored acc' p.1 q.2=stored acc' q.1 q.2:=by rw[r.1]
  rw[e] at h2
  exact ih h2
end
section
variable {X:Cx}{pins:List (Addr×Obj)}{σ:St}{H:Hp}{s:Shared}{d:Addr}{o:Obj}{kvs:List (Key×V)}
theorem KV.key {kvs:List (Key×V)}{vs:List (Key×Value)}(h:KV kvs vs):∀{i:Nat} (h1:i<kvs.length) (h2:i<vs.length),(kvs[i]).1=(vs[i]).1:=by
 induction h with
 |nil=>intro i h1;exact absurd h1 (Nat.not_lt_zero _)
 |cons r _ ih=>
  intro i h1 h2
  cases i with
  |zero=>exact r.1
  |succ i=>exact ih (Nat.lt_of_succ_lt_succ h1) (Nat.lt_of_succ_lt_succ h2)
end
section
variable {X:Cx}
end
section
variable {K:PySem.W.Frag}{Er:Exc->Hp->Prop}{S:SC}{OO OO' OO2:List (List Xo)}{σ:St}{α β γ ρ ι δ ε:Type}
variable {Fd:Ends->β->Hp->Prop}[fd:FdOk Fd]{u:TS}
theorem Ln {ta:TE}{r:Enc α}[z:FlatE r]{ma:Rs (List α)}(ha:EvB K Er S OO σ ta (rPL r) ma):Ev K Er S OO OO σ (tCB (KQ K) (Xn ta YF)) (oL (oF r)) (ma.bind λas=>.ok as):=λH Q w s P=>
 ha.run w s FO.tr P λas x H1 s1 w1 q1 r9 P1=>by obtain⟨p,xs,e,q,pr⟩:=r9;exact⟨p,xs,by rw[e], .inr (SqT.of q),Me w1 (Paired.imp2 (λ_ _ h=>z.flat w1.i h) pr) P1⟩
end
section
variable {prog:Program}{w:World}{A:Around}
end
section
variable {X:Cx}
end
section
variable {K:PySem.W.Frag}{Er:Exc->Hp->Prop}{S:SC}{OO OO' OO1 OO2:List (List Xo)}{σ:St}{α β γ ρ ι δ ε:Type}
variable {Fd:Ends->β->Hp->Prop}[fd:FdOk Fd]{u:TS}
theorem Nx {ta tb:TE}{o:OE α}[z:MonoO o]{ma mb:Rs (List α)}(ha:Ev K Er S OO OO1 σ ta (oL o) ma)(hb:∀C,Ev K Er S (C::OO1) (C::OO2) σ tb (oL o) mb):Ev K Er S OO OO2 σ (tOp RG ta tb) (oL o) (ma.bind λas=>mb.bind λbs=>Ld as bs):=λH Q w s P=>by
 refine ha H _ w s ?_
 cases em:ma with
 |bad=>rw[em] at P;exact P
 |err x=>rw[em] at P;exact P
 |ok as=>
  rw[em] at P
  intro v C H1 s1 w1 m1 ho
  refine hb C H1 _ w1 (S.mono _ _ m1 s) ?_
  have P1:PZ Er (FO K OO OO2 (oL o) Q) H (mb.bind λbs=>Ld as bs):=P
  cases en:mb with
  |bad=>rw[en] at P1;exact P1
  |err x=>rw[en] at P1;exact λH2 s2=>P1 H2 (s1.trans s2)
  |ok bs=>
   rw[en] at P1
   intro v2 C2 H2 s2 w2 m2 ho2
   have P2:PZ Er (FO K OO OO2 (oL o) Q) H (Ld as bs):=P1
   obtain⟨c,hc,P3⟩:=P2.okOf λx=>Qd
   obtain⟨hsz,h2⟩:=YZ hc
   cases h2
   obtain⟨p,xs,Cs,e,q,ec⟩:=ho
   obtain⟨p2,ys,Cs2,e2,q2,ec2⟩:=ho2
   subst ec ec2 e e2
   have hp1:H2 p=some (.lst xs):=w2.tr (p, .lst xs) (by simp)
   have hp2:H2 p2=some (.lst ys):=w2.tr (p2, .lst ys) (by simp)
   refine⟨p,p2,xs,ys,rfl,rfl,hp1,hp2,by rw[q.len.1,q2.len.1];exact hsz,λa ha=>?_⟩
   have w3:W ((Cs++Cs2).flatten::OO2) H2:=by
    have pm:((Cs2.flatten::Cs.flatten::OO2)).flatten.Perm (((Cs++Cs2).flatten::OO2)).flatten:=by
     simp only[List.flatten_cons,List.flatten_append]
     rw[←List.append_assoc]
     exact List.perm_append_comm.append_right _
    refine(w2.sub (OO':=Cs2.flatten::Cs.flatten::OO2) ?_).of pm.symm
    simp only[List.flatten_cons,List.cons_append]
    exact(List.Sublist.append (List.Sublist.refl _) (List.sublist_cons_self _ _)).trans (List.sublist_cons_self _ _)
   have m3:Xp (hid H2 (((p2, .lst ys)::Cs2.flatten)::((p, .lst xs)::Cs.flatten)::OO2)) (hid H2 ((Cs++Cs2).flatten::OO2)):=Zh (Xp.refl _) λb hb=>by
    rw[XE,List.flatten_append,List.map_append,List.mem_append,List.mem_append] at hb
    rw[XE,XE,List.mem_append,List.mem_append]
    rcases hb with(hb |hb) |hb
    ·exact .inr (.inl (List.mem_cons_of_mem _ hb))
    ·exact .inl (List.mem_cons_of_mem _ hb)
    ·exact .inr (.inr hb)
   have w4:=w3.new ha (o:=.lst (xs++ys)) rfl
   have m4:=JM (OO:=(Cs++Cs2).flatten::OO2) ha (o:=.lst (xs++ys))
   have pf:((((a, .lst (xs++ys))::(Cs++Cs2).flatten))::OO2).flatten.Perm ([(a,HO.lst (xs++ys))]::(Cs++Cs2).flatten::OO2).flatten:=by simp
   have m5:Xp (hid H2 ((Cs++Cs2).flatten::OO2)) (hid (upd H2 a (.lst (xs++ys))) (((a, .lst (xs++ys))::(Cs++Cs2).flatten)::OO2)):=by
    rw[XB pf];exact m4
   refine P3 (.ref a) ((a, .lst (xs++ys))::(Cs++Cs2).flatten) _ ((s1.trans s2).trans (Xv ha _)) (w4.of pf) (((m1.trans m2).trans m3).trans m5) ⟨a,xs++ys,Cs++Cs2,rfl,?_,rfl⟩
   exact L2.P3.app (q.imp λ_ _ _ h=>z.mono ((m2.trans m3).trans m5) h) (q2.imp λ_ _ _ h=>z.mono (m3.trans m5) h)
end
theorem MI {prog:Program}{w:World}{A:Around}{E:Value->Shared->Prop}{s:Shared}{l b:Addr}{o1 o2:Obj}{Q:Value->Shared->Prop}(h1:s.heap.get? l=some o1)(c1:o1.cls= .type "list")(h2:s.heap.get? b=some o2)(c2:o2.cls= .type "list")(hu:A.units<cLine)
  (h:wpAny (model prog w) A (call (.builtin "list.__lt__") [.ref l, .ref b]) (λv s'=>(∃k,v= .bool k)/\Q v s') E s):wpAny (model prog w) A (compareOp .Lt (.ref l) (.ref b)) Q E s:=by
 have t1:s.TypeIs (.ref l) "list":=⟨_,h1,c1⟩
 have t2:s.TypeIs (.ref b) "list":=⟨_,h2,c2⟩
 show wpAny _ _ (richCompare .Lt (.ref l) (.ref b)) _ _ _
 unfold richCompare
 refine wpAny_holding ?_
 refine wpAny_bind (wpAny_cRoomFor hu ?_)
 have hone:oneThing? .Lt (.ref l) (.ref b)=none:=rfl
 rw[hone]
 dsimp only
 refine wpAny_bind (wpAny_typeOf t1 ?_)
 refine wpAny_bind (wpAny_typeOf t2 ?_)
 rw[if_neg (by decide)]
 refine wpAny_bind (wpAny_pure ?_)
 rw[if_neg (by decide)]
 unfold tryCompare
 refine wpAny_bind (wpAny_bind (wpAny_callSpecialIfBound?_slot t1 F.slot_list_lt (thn h λv s' ⟨⟨k,e⟩,q⟩=>?_)))
 subst e
 exact wpAny_pure (wpAny_pure q)
theorem Ue:entryFor table "list.__eq__.loop" =some Builtin.«list.__eq__.loop»:=entryFor_of_fast (by kernel_rfl)
theorem Qv:plainId "list.__eq__.loop" =true:=by decide+kernel
section
variable {X:Cx}
end
section
variable {K:PySem.W.Frag}{Er:Exc->Hp->Prop}{S:SC}{OO OO' OO1 OO2:List (List Xo)}{σ:St}{α β γ ρ ι δ ε:Type}
noncomputable def Sj [DecidableEq α](as:List α)(a:α)(k:Int):Rs Int:=chk (0<=k) ((IM (as.drop k.toNat) a).bind λj=>.ok (k+j))
theorem Bs [DecidableEq α]{ta tb tc:TE}{r:Enc α}[z:InE r][y:MonoE r]{ma:Rs (List α)}{mb:Rs α}{mc:Rs Int}(ha:EvB K Er S OO σ ta (rV r) ma)(hb:EvB K Er S OO σ tb r mb)(hc:EvB K Er S OO σ tc Xd mc):EvB K Er S OO σ (tBM K "list" (EZ K) ta (Xn tb (Xn tc YF))) Xd (ma.bind λas=>mb.bind λa=>mc.bind λk=>Sj as a k):=λH Q w s P=>
 ha.run w s FB.tr P λas x H1 s1 w1 q1 ⟨p,xs,e,q,pr⟩ P1=>⟨by rw[e];exact .inl ⟨rfl,_,SqL.of q⟩,hb.run w1 q1 FB.tr P1 λb v H2 s2 w2 q2 r2 P2=>hc.run w2 q2 FB.tr P2 λk vk H3 s3 w3 q3 r3 P3=>by
  obtain⟨hk0,P4⟩:=PZ.chk P3
  have pr2:=Paired.imp2 (G:=r K H3) (λ_ _ h=>y.mono (s2.trans s3) h) pr
  have r2':=y.mono s3 r2
  cases hi:IM (as.drop k.toNat) b with
  |bad=>rw[hi] at P4;exact P4.elim
  |err x=>exact absurd hi B6
  |ok c=>
   rw[hi] at P4
   obtain⟨j,hj,rfl⟩:=B0 hi
   obtain⟨h1,h2⟩:=Ke r2' (Paired.drop' k.toNat pr2) hj
   obtain⟨zz,hz1,hz2⟩:=h1
   rw[List.getElem?_drop] at hz1
   refine⟨p,xs,v,k.toNat,k.toNat+j,k,e,by rw[show vk= .int k from r3],by omega,SqL.of ((s2.trans s3) _ _ q),z.fl r2',(Qc r2' pr2).1,Nat.le_add_right _ _,⟨zz,hz1,hz2⟩,λm z hm1 hm2 hz=>?_,?_⟩
   ·refine h2 (m-k.toNat) z (by omega) ?_
    rw[List.getElem?_drop,show k.toNat+(m-k.toNat)=m by omega]
    exact hz
   ·have:=P4 (.int (k+(j:Int))) H3 (Xp.refl _) rfl
    rw[show((k.toNat+j:Nat):Int)=k+(j:Int) by omega]
    exact this⟩
end
section
variable {K:PySem.W.Frag}{Er:Exc->Hp->Prop}{S:SC}{OO OO' OO1 OO2:List (List Xo)}{σ:St}{α β γ ρ ι δ ε:Type}
noncomputable def tk (k:List Int):List Key:=k.map Sum.inl
variable {Fd:Ends->β->Hp->Prop}[fd:FdOk Fd]{u:TS}
end
section
variable {X:Cx}{α:Type}[DecidableEq α]{r:Enc α}{d:Nat}
end
section
variable {K:PySem.W.Frag}{Er:Exc->Hp->Prop}{S:SC}{OO OO' OO1 OO2:List (List Xo)}{σ:St}{α β γ ρ ι δ ε:Type}
end
section
variable {X:Cx}{pins:List (Addr×Obj)}{σ:St}{H:Hp}{s:Shared}{h':Heap}
end
section
variable {X:Cx}{elts:List Expr}{k:Nat}{pos0:Pos}
end
section
variable {K:PySem.W.Frag}{Er:Exc->Hp->Prop}{S:SC}{OO OO' OO1 OO2:List (List Xo)}{σ:St}{α β γ ρ ι δ ε:Type}
end
section
variable {X:Cx}
end
section
variable {K:PySem.W.Frag}{Er:Exc->Hp->Prop}{S:SC}{OO OO' OO1 OO2:List (List Xo)}{σ:St}{α β γ ρ ι δ ε:Type}
variable {Fd:Ends->β->Hp->Prop}[fd:FdOk Fd]{u:TS}
end
section
variable {K:PySem.W.Frag}{Er:Exc->Hp->Prop}{S:SC}{OO OO' OO1 OO2:List (List Xo)}{σ:St}{α β γ ρ ι δ ε:Type}{u:TS}
noncomputable def U8:Nat->γ->(γ->Rs Bool)->(γ->Rs (Ctl ρ γ))->Rs (Ctl ρ γ)
 |0,_,_,_=>.bad
 |n+1,g,c,f=>(c g).bind λb=>if b=true then(f g).bind λr=>match r with
  | .ret r=>.ok (.ret r)
  | .nx g'=>U8 n g' c f else .ok (.nx g)
theorem EI {o:OE ρ}{c:TT}{tb:TS}{mc:γ->Rs Bool}{body:γ->Rs (Ctl ρ γ)}{f:γ->Rs ρ}(J:Jn γ ι)(n:Nat)(x0:ι)(g0:γ)(h1:OO=J.oo x0)(h2:σ=J.ss x0)(h3:∀h,S.p h->(J.sc g0 x0).p h)
  (hc:∀g x,EvT Er (J.sc g x) (J.oo x) (J.ss x) c (mc g))(hb:∀g x,Sv Er (J.sc g x) (J.oo x) (J.ss x) tb (FCd K o J) (body g))
  (hr:∀g x,Sv Er (J.sc g x) (J.oo x) (J.ss x) u (FTd K o) (f g)):Sv Er S OO σ (Zv (CG c tb) u) (FTd K o) ((U8 n g0 mc body).bind (Ve f)):=λH D w s P=>by
 refine⟨λmm σ' H2=>∃ x gg,σ'=J.ss x/\W (J.oo x) H2/\(J.sc gg x).p (hid H2 (J.oo x))/\PZ Er (FTd K o D) (hid H2 (J.oo x)) ((U8 mm gg mc body).bind (Ve f)),⟨n,x0,g0,h2,by rw[←h1];exact w,by rw[←h1];exact h3 _ s,by rw[←h1];exact P⟩,?_⟩
 rintro mm σ' H2 ⟨x,gg,rfl,w2,sc2,P2⟩
 cases mm with
 |zero=>exact P2.elim
 |succ mm=>
  have P3:PZ Er (FTd K o D) (hid H2 (J.oo x)) ((mc gg).bind λb=>(if b=true then(body gg).bind λr=>match r with
   | .ret r=>.ok (.ret r)
   | .nx g'=>U8 mm g' mc body else .ok (.nx gg)).bind (Ve f)):=by rw[←XH];exact P2
  refine(hc gg x).st w2 sc2 P3 λb H3 w3 sc3 P4=>?_
  cases b with
  |false=>exact hr gg x H3 D w3 sc3 P4
  |true=>
   rw[if_pos rfl] at P4⊢
   refine⟨λσ3 H4=>∃ x gg,σ3=J.ss x/\W (J.oo x) H4/\(J.sc gg x).p (hid H4 (J.oo x))/\PZ Er (FTd K o D) (hid H4 (J.oo x)) ((U8 mm gg mc body).bind (Ve f)),λσ3 H4 q=>⟨mm,Nat.lt_succ_self _,q⟩,hb gg x H3 _ w3 sc3 ?_⟩
   rw[XH] at P4
   cases eb:body gg with
   |bad=>rw[eb] at P4;exact P4
   |err x=>rw[eb] at P4;exact P4
   |ok c=>
    rw[eb] at P4
    cases c with
    |ret r=>exact P4
    |nx g'=>exact λx' H5 w5 m5 sc5=>⟨x',g',rfl,w5,sc5,PZ.tr (FdOk.tr D) m5 P4⟩
end
section
variable {X:Cx}
end
section
variable {K:PySem.W.Frag}{Er:Exc->Hp->Prop}{S:SC}{OO:List (List Xo)}{σ:St}
end
section
variable {X:Cx}{pins:List (Addr×Obj)}{σ:St}{H:Hp}{s:Shared}{d:Addr}{o:Obj}{kvs:List (Key×V)}
end
section
variable {X:Cx}
end
section
variable {K:PySem.W.Frag}{Er:Exc->Hp->Prop}{S:SC}{OO OO' OO1 OO2 OO3:List (List Xo)}{σ:St}{α β γ ρ ι δ ε ζ:Type}
variable {Fd:Ends->β->Hp->Prop}[fd:FdOk Fd]{u:TS}
theorem RU {o:OE α}[z:MonoO o]{xs:List V}{as:List α}{Cs:List (List Xo)}{H H0:Hp}{Q:VK}{OO0:List (List Xo)}(w:W (Cs.flatten::OO) H)(m0:Xp (hid H0 OO0) (hid H (Cs.flatten::OO)))(s0:Xp H0 H)(pr:P3 (o K (hid H (Cs.flatten::OO))) xs as Cs)(P:FO K OO0 OO (oL o) Q as H0):∀p,H p=none->Q (.ref p) (upd H p (.lst xs)):=λp hp=>by
 have hn:=JM (OO:=Cs.flatten::OO) hp (o:=.lst xs)
 have wn:=w.new hp (o:=.lst xs) rfl
 have pe:(((p,HO.lst xs)::Cs.flatten)::OO).flatten.Perm ([(p,HO.lst xs)]::Cs.flatten::OO).flatten:=by simp
 refine P (.ref p) ((p, .lst xs)::Cs.flatten) _ (s0.trans (Xv hp _)) (wn.of pe) ?_ ?_
 ·rw[XB pe];exact m0.trans hn
 ·rw[XB pe]
  exact⟨p,xs,Cs,rfl,pr.imp λ_ _ _ h=>z.mono hn h,rfl⟩
theorem N9 {t:TA}{o:OE α}[z:MonoO o]{m:Rs (List α)}(h:Pp K Er S OO OO' σ t o m):Ev K Er S OO OO' σ (BG t) (oL o) (m.bind λas=>chk (as.length<=sizeLine) (.ok as)):=λH Q w s P=>by
 refine h H _ w s ?_
 cases e:m with
 |bad=>rw[e] at P;exact P
 |err x=>rw[e] at P;exact P
 |ok as=>
  rw[e] at P
  obtain⟨hsz,P⟩:=PZ.chk (show PZ Er _ H (chk (as.length<=sizeLine) (.ok as)) from P)
  intro vs Cs H1 s1 w1 m1 p
  exact⟨by rw[p.len.1];exact hsz,RU w1 m1 s1 p P⟩
noncomputable def oT3 (o:OE α)(q:OE β)(t:OE γ):OE (α×β×γ):=λK h v a C=>∃ p x y z C1 C2 C3,v= .ref p/\h p=some (.tup [x,y,z])/\o K h x a.1 C1/\q K h y a.2.1 C2/\t K h z a.2.2 C3/\C=C1++(C2++C3)
instance {o:OE α}{q:OE β}{t:OE γ}[m:MonoO o][n:MonoO q][k:MonoO t]:MonoO (oT3 o q t):=⟨λs r9=>by obtain⟨p,x,y,z,C1,C2,C3,e,h,h1,h2,h3,c⟩:=r9;exact⟨p,x,y,z,C1,C2,C3,e,s _ _ h,m.mono s h1,n.mono s h2,k.mono s h3,c⟩⟩
instance {o:OE α}{q:OE β}{t:OE γ}[m:FlatO o][n:FlatO q][k:FlatO t]:FlatO (oT3 o q t):=⟨λs r9=>by obtain⟨p,x,y,z,C1,C2,C3,e,h,h1,h2,h3,c⟩:=r9;exact⟨p,x,y,z,C1,C2,C3,e,s _ _ h rfl,m.flat s h1,n.flat s h2,k.flat s h3,c⟩⟩
instance {o:OE α}{q:OE β}{t:OE γ}{ro:Enc α}{rq:Enc β}{rt:Enc γ}[m:FrzC o ro][n:FrzC q rq][k:FrzC t rt]:FrzC (oT3 o q t) (rP3 ro rq rt):=⟨λ⟨p,x,y,z,C1,C2,C3,e,h,h1,h2,h3,c⟩ s hc=>by
 subst c
 exact⟨p,x,y,z,e,s _ _ h,m.frz h1 s λc hm=>hc c (by simp[hm]),n.frz h2 s λc hm=>hc c (by simp[hm]),k.frz h3 s λc hm=>hc c (by simp[hm])⟩⟩
end
section
variable {K:PySem.W.Frag}{Er:Exc->Hp->Prop}{S:SC}{OO OO' OO1 OO2:List (List Xo)}{σ:St}{α β γ ρ ι δ ε ζ:Type}
variable {Fd:Ends->β->Hp->Prop}[fd:FdOk Fd]{u:TS}
end
section
variable {K:PySem.W.Frag}{Er:Exc->Hp->Prop}{S:SC}{OO OO' OO1 OO2:List (List Xo)}{σ:St}{α β γ ρ ι δ ε ζ:Type}
variable {Fd:Ends->β->Hp->Prop}[fd:FdOk Fd]{u:TS}
end
section
variable {K:PySem.W.Frag}{Er:Exc->Hp->Prop}{S:SC}{OO OO' OO1 OO2:List (List Xo)}{σ:St}{α β γ ρ ι δ ε ζ α1 α3 α4:Type}
variable {Fd:Ends->β->Hp->Prop}[fd:FdOk Fd]{u:TS}
end
end L2
namespace L2
open PySem
noncomputable def Inc (xs:Array Nat):Prop:=xs.toList.Pairwise (· < ·)
structure TOk (t:SetTable)(led:Bool):Prop where
 inc:Inc t.place
 dum:t.dummies= #[]
 led:t.led=led
end L2
namespace L2
open PySem PySem.Spec PyProof.Rows
noncomputable def dd (l:List Int):List Int:=l.foldl step_dedup []
structure SCore (prog:Program)(w:World)(es:Array (Int×Value))(t:SetTable)(ns:List Int):Prop where
 el:ElemsOf (intKind prog w) es.toList
 pm:∃ms,IntsAre (es.toList.map (·.2)) ms/\ms.Perm ns
 sz:es.size<scanBound
 fit:t.fits es.size=true
 tok:TOk t (!w.params.followText "set-order")
noncomputable def SF (prog:Program)(w:World)(h:Heap)(a:Addr)(ns:List Int):Prop:=
 ∃o es ep t,h.get? a=some o/\o.ExactSet/\o.data= .set es ep t/\SCore prog w es t ns
section
variable {prog:Program}{w:World}{A:Around}{E:Value->Shared->Prop}{s:Shared}{a:Addr}{ns:List Int}
theorem SF.put {h:Heap}{o:Obj}{es es':Array (Int×Value)}{ep:Nat}{t t':SetTable}(ho:h.get? a=some o)(hx:o.ExactSet)(hd:o.data= .set es ep t):
  (h.update a (Obj.putSet es' t')).get? a=some {o with data:=.set es' (ep+1) t'}/\(SCore prog w es' t' ns->SF prog w (h.update a (Obj.putSet es' t')) a ns):=by
 have g:=Heap.get?_update_self (Obj.putSet es' t') ho (by rw[putSet_of es' t' hd];rfl)
 rw[putSet_of es' t' hd] at g
 exact⟨g,λc=>⟨_,_,_,_,g,hx,rfl,c⟩⟩
end
section
variable {prog:Program}{w:World}{A:Around}{E:Value->Shared->Prop}{s:Shared}
end
section
variable {M:Model}{A:Around}{E:Value->Shared->Prop}{s:Shared}
end
section
variable {prog:Program}{w:World}{A:Around}{E:Value->Shared->Prop}{s:Shared}{a:Addr}{o:Obj}{es:Array (Int×Value)}{ep:Nat}{t:SetTable}
end
section
variable {prog:Program}{w:World}{A:Around}{E:Value->Shared->Prop}{s:Shared}{a I tp:Addr}{o:Obj}{es:Array (Int×Value)}{ep:Nat}{t:SetTable}{L:List (Int×Value)}
end
section
variable {prog:Program}{w:World}{A:Around}{E:Value->Shared->Prop}{s:Shared}{a I tp:Addr}{o:Obj}{es:Array (Int×Value)}{ep:Nat}{t:SetTable}{L:List (Int×Value)}{ns:List Int}
end
section
variable {X:Cx}
end
section
variable {K:PySem.W.Frag}{Er:Exc->Hp->Prop}{S:SC}{OO:List (List Xo)}{σ:St}
variable {u:TS}{α γ ρ ι:Type}
variable {β:Type}{Fd:Ends->β->Hp->Prop}[fd:FdOk Fd]
noncomputable def RE:Enc Unit:=λ_ _ _ _=>True
instance:MonoE RE:=⟨λ_ _=>trivial⟩
end
section
variable {α β γ:Type}
end
section
variable {K:PySem.W.Frag}{Er:Exc->Hp->Prop}{S:SC}{OO:List (List Xo)}{σ:St}{α1 α2 α3 α4 ρ:Type}{mg:Str->Option Value}{E:XK}
end
section
variable {X:Cx}{tg:Expr}
noncomputable def L4 (K:PySem.W.Frag):R2:=λx y H Q=>∃ a b xs ys,x= .ref a/\y= .ref b/\SqT K H a xs/\SqT K H b ys/\ys≠ []/\xs.length+ys.length<=sizeLine/\
 (xs=[]->Q (.ref b) H)/\(xs≠ []->∀p,H p=none->Q (.ref p) (upd H p (.tup (xs++ys))))
theorem LM (K:PySem.W.Frag)(hK:X.K=K):OpR X (binaryOp .Add) (L4 K):=by
 subst hK
 intro pins s σ H x y v u Q I rx ry h
 obtain⟨a,b,xs,ys,e1,e2,ha,hb,hy,hz,q1,q2⟩:=h
 by_cases hx:xs=[]
 ·subst e1 e2
  cases rx
  cases ry
  obtain⟨its,r1,p1,_⟩:=I.tuple ha
  obtain⟨its2,r2,p2,_⟩:=I.tuple hb
  obtain⟨⟨cls,dd,data,sl⟩,ho,hc,n,hd⟩:=id p1
  obtain⟨⟨cls2,dd2,data2,sl2⟩,ho2,hc2,n2,hd2⟩:=id p2
  simp only at hc hd hc2 hd2
  subst hc hd hc2 hd2
  have e0:its=[]:=r1.nil_iff.mpr hx
  exact concat_meets ⟨_,ho,rfl⟩ ⟨_,ho2,rfl⟩ noFill_tuple_add seq_tuple_add PySem.F.slot_tuple_add PySem.F.entry_tuple_add (PySem.F.args_tuple_add_2 _ _)
   (tuple_addW0 a b its.toArray its2.toArray n n2 dd dd2 sl sl2 (by simp[e0])) ⟨ho,ho2,⟨.ref b,H,I,rfl,q1 hx⟩⟩
 ·exact M4 pins s σ H x y v u Q I rx ry ⟨a,b,xs,ys,e1,e2,ha,hb,hx,hz,λz=>absurd z hy,λ_=>q2 hx⟩
noncomputable def Sh (lo:Int)(n:Nat):It:=⟨λi _=>i<n,λi H x H'=>H'=H/\x= .int (lo-i),λi _=>n<=i⟩
theorem Ho {P:Program}{w:World}{K:PySem.W.Frag}{tg:Expr}(it:Addr)(lo:Int)(n:Nat):Turn P w K tg (Sh lo n) [it] it (λi h=>IsRangeIter h it (lo+(i:Nat)* -1) ((n:Int)-(i:Nat)) (-1)) where
 mem:=by simp
 obj:=λi h st b hb=>by
  have e:b=it:=by simpa using hb
  subst e
  exact⟨_,st,λv z=>by
   have z':Data.fields _=Data.cell v:=z
   cases z'⟩
 keep:=λi h h' st k=>k it (by simp) _ st
 item:=by
  intro X hP hw hK hc i pins s σ H E I hf st hg
  subst hP hw hK
  obtain⟨f0,f1,f2,f3,f4,f5⟩:=hf it (by simp)
  have W:=Walks.range (prog:=X.prog) (w:=X.w) (I.ok.hd hc) it lo (-1) n
  refine W.item i s _ _ hg st λv h' tk hv st' kk=>?_
  obtain⟨t,rfl⟩:=hv
  have I1:Inv X pins σ H {s with heap:=h',toks:=tk}:=I.turned (λb o hb e=>kk b o (by simpa using hb) e) f0 f1 f3 f4 f5
  refine⟨_,rfl,MO (s:={s with heap:=h',toks:=tk}) (n:="range_iterator") st' rfl rfl (by decide) ⟨.int (lo-i),H,I1,⟨t,?_⟩,⟨rfl,rfl⟩,st',λb hb=>(hf b hb).1⟩⟩
  rw[show lo+(i:Int)* -1=lo-i by omega]
 done:=by
  intro X hP hw hK hc i pins s σ H E I hf st hg
  subst hP hw hK
  obtain⟨f0,f1,f2,f3,f4,f5⟩:=hf it (by simp)
  exact wpAny_pyNext_range_end (I.ok.hd hc) st (by have:n<=i:=hg;omega) λh' eb=>⟨rfl,I.turned (t':=s.toks) (λb o hb e=>eb b o hb e) f0 f1 f3 f4 f5⟩
 self:=λ_ _ _ _ _ st h=>wpAny_pyIter_rangeiter st h
theorem JG (a b:Int):Builtin.Range.rangeSize a b (-1)=if b<a then a-b else 0:=by
 unfold Builtin.Range.rangeSize
 simp only[show ¬(-1:Int) > 0 by decide,if_false,Int.neg_neg,Int.ediv_one]
 split<;> omega
theorem Bl {a b:Int}(ha: -(2^62)<=a)(ha':a<2^62)(hb: -(2^62)<=b)(hb':b<2^62):Builtin.Range.small a b (-1)=true:=by
 unfold Builtin.Range.small
 rw[JG]
 simp only[Builtin.Range.rangeFitsLong,Bool.and_eq_true,Bool.or_eq_true,decide_eq_true_eq,beq_iff_eq,show ¬(-1:Int) > 0 by decide,if_false]
 split<;> omega
noncomputable def Pb (ta:TA):TI:=λσ H R=>ta σ H λvs H1=>∃ i j:Int,vs=[.int i, .int j, .int (-1)]/\(-(2^62)<=i/\i<2^62/\ -(2^62)<=j/\j<2^62)/\R (Sh i (i-j).toNat) H1
theorem M1 {pins:List (Addr×Obj)}{σ:St}{H:Hp}{s:Shared}{R:It->Hp->Prop}{E:Value->Shared->Prop}{lo hi:Int}{t u v:Tok}{tk:Nat}(I:Inv X pins σ H s)(h1: -(2^62)<=lo)(h2:lo<2^62)(h3: -(2^62)<=hi)(h4:hi<2^62)
  (q:R (Sh lo (lo-hi).toNat) H):wpAny (model X.prog X.w) X.A (pyIter (.ref s.heap.objs.size)) (PIE X pins σ tg R) E {s with heap:=s.heap.push {cls:=.type "range",data:=.fields #[.int lo t, .int hi u, .int (-1) v]},toks:=tk}:=by
 refine wpAny_pyIter_range (IsRange.new ..) (Bl h1 h2 h3 h4) ?_
 have I1:Inv X pins σ H {s with heap:=s.heap.push {cls:=.type "range",data:=.fields #[.int lo t, .int hi u, .int (-1) v]},toks:=tk}:=I.kept λb o e=>Heap.get?_push_of_some _ e
 refine⟨(s.heap.push {cls:=.type "range",data:=.fields #[.int lo t, .int hi u, .int (-1) v]}).objs.size,[(s.heap.push {cls:=.type "range",data:=.fields #[.int lo t, .int hi u, .int (-1) v]}).objs.size],_,_,H,rfl,
  I1.kept (t':=tk) λb o e=>Heap.get?_push_of_some _ e,Ho _ lo (lo-hi).toNat,?_,λb hb=>?_,q⟩
 ·have e1:lo+((0:Nat):Int)* -1=lo:=by simp
  have e2:(((lo-hi).toNat:Nat):Int)-((0:Nat):Int)=Builtin.Range.rangeSize lo hi (-1):=by rw[JG];split<;> omega
  show IsRangeIter _ _ (lo+((0:Nat):Int)* -1) ((((lo-hi).toNat:Nat):Int)-((0:Nat):Int)) (-1)
  rw[e1,e2]
  exact Heap.get?_push_size _ rfl
 ·have e:b=(s.heap.push {cls:= .type "range",data:= .fields #[.int lo t, .int hi u, .int (-1) v]}).objs.size:=by simpa using hb
  subst e
  exact I1.fpOk (Nat.le_refl _) (I1.hok.fresh (Nat.le_refl _))
theorem Eo {a b c:Expr}{ta:TA}{p pos:Pos}(hg:Gl X "range")(hm:X.mg "range" =none)(ha:PA X [a,b,c] ta)(hs:starEach [a,b,c] X.env=[(false,eval a X.env),(false,eval b X.env),(false,eval c X.env)]:=by rfl)(hs2:starEach [b,c] X.env=[(false,eval b X.env),(false,eval c X.env)]:=by rfl):
  PI X tg (.Call (.Name "range" p) [a,b,c] [] pos) (Pb ta):=by
 intro pins s σ H R I h
 refine Call_ (Kg I hg hm boot_range (PyProof.Rows.callWith_type1 (thn (ha pos pins s σ H _ I h) λus s1 r9=>?_) (by rw[hs,hs2]) (by rw[hs2];rfl)))
 obtain⟨vs,H1,I1,r1,q1⟩:=r9
 obtain⟨i,j,e,⟨q1,q2,q3,q4⟩,q⟩:=q1
 subst e
 cases r1 with
 |cons r rr=>
  cases rr with
  |cons r' rr=>
   cases rr with
   |cons r'' rr=>
    cases rr
    obtain⟨t,rfl⟩:=r
    obtain⟨t',rfl⟩:=r'
    obtain⟨t'',rfl⟩:=r''
    exact call_range_3 (by decide) (M1 I1 q1 q2 q3 q4 q) (.inl (PyProof.noPylong_of_log2 (by decide+kernel)))
end
section
variable {K:PySem.W.Frag}{Er:Exc->Hp->Prop}{S:SC}{OO OO':List (List Xo)}{σ:St}{α β γ:Type}
theorem I9 {ta tb:TE}{r:Enc α}[z:MonoE r]{ma mb:Rs (List α)}(ha:EvB K Er S OO σ ta (rPL r) ma)(hb:EvB K Er S OO σ tb (rPL r) mb):EvB K Er S OO σ (tOp (L4 K) ta tb) (rPL r) (ma.bind λas=>mb.bind λbs=>chk (0<bs.length/\as.length+bs.length<=sizeLine) (.ok (as++bs))):=λH Q w s P=>
 ha.run w s FB.tr P λas x H1 s1 w1 q1 ⟨p,xs,e,q,pr⟩ P1=>hb.run w1 q1 FB.tr P1 λbs y H2 s2 w2 q2 ⟨p',ys,e',q',pr'⟩ P2=>by
  obtain⟨⟨h1,h2⟩,P3⟩:=PZ.chk P2
  have hl:=Paired.len pr
  have hl':=Paired.len pr'
  have pr2:Paired (r K H2) xs as:=Paired.imp2 (λ_ _ h=>z.mono s2 h) pr
  refine⟨p,p',xs,ys,e,e',SqT.of (s2 _ _ q),SqT.of q',λz=>by rw[z] at hl';simp at hl';omega,by rw[hl,hl'];exact h2,λhz=>?_,λ_ a ha=>P3 _ _ (Xv ha _) ⟨a,_,rfl,Yk,Paired.imp2 (λ_ _ h=>z.mono (Xv ha _) h) (Paired.app pr2 pr')⟩⟩
  subst hz
  have ha:as=[]:=List.length_eq_zero_iff.mp (by rw[←hl];rfl)
  subst ha
  exact P3 _ H2 (Xp.refl _) ⟨p',ys,rfl,q',pr'⟩
noncomputable def Gu (lo hi:Int):List Int:=(List.range (lo-hi).toNat).map λ(i:Nat)=>lo-(i:Int)
theorem BA {lo hi:Int}{i:Nat}{a:Int}(h:(Gu lo hi)[i]?=some a):a=lo-i/\i<(lo-hi).toNat:=by
 unfold Gu at h
 rw[List.getElem?_map] at h
 rcases Nat.lt_or_ge i (lo-hi).toNat with q |q
 ·rw[List.getElem?_range q] at h;exact⟨(Option.some.inj h).symm,q⟩
 ·rw[List.getElem?_eq_none (by simpa using q)] at h;cases h
theorem Bm {lo hi:Int}:(Gu lo hi).length=(lo-hi).toNat:=by simp[Gu]
noncomputable def Tc (lo hi st:Int):Rs (List Int):=chk (st= -1/\ -(2^62)<=lo/\lo<2^62/\ -(2^62)<=hi/\hi<2^62) (.ok (Gu lo hi))
theorem FG {ta tb tc:TE}{ma mb mc:Rs Int}(ha:EvB K Er S OO σ ta Xd ma)(hb:EvB K Er S OO σ tb Xd mb)(hc:EvB K Er S OO σ tc Xd mc):Walk K Er S OO σ (Pb (Xn ta (Xn tb (Xn tc YF)))) Xd (ma.bind λlo=>mb.bind λn=>mc.bind λst=>Tc lo n st):=⟨fun {H R} w s P=>
 ha.run w s (λas H H' s' h J H2 s2=>h J H2 (s'.trans s2)) P λlo v H1 s1 w1 q1 r1 P1=>hb.run w1 q1 (λas H H' s' h J H2 s2=>h J H2 (s'.trans s2)) P1 λn v2 H2 s2 w2 q2 r2 P2=>hc.run w2 q2 (λas H H' s' h J H2 s2=>h J H2 (s'.trans s2)) P2 λst v3 H3 s3 w3 q3 r3 P3'=>by
  obtain⟨c,hc,P3⟩:=P3'.okOf λx=>Qd
  obtain⟨⟨h0,h1⟩,h3⟩:=YZ hc
  cases h3
  subst h0
  refine⟨lo,n,by rw[show v= .int lo from r1,show v2= .int n from r2,show v3= .int (-1) from r3],h1,P3 _ H3 (Xp.refl _) (λi a ha OO2 H4 w4 m4=>?_) λOO2 H4 w4 m4=>?_⟩
  ·obtain⟨e1,e2⟩:=BA ha
   refine⟨e2,λx H5 r9=>?_⟩
   obtain⟨e3,e4⟩:=r9
   subst e3
   exact⟨Xp.refl _,by rw[e4,e1];rfl⟩
  ·show(lo-n).toNat<=_
   rw[Bm];exact Nat.le_refl _⟩
theorem Na {te:TE}{o1:OE α}{o2:OE γ}[z:MonoO o1]{m:Rs (α×γ)}(he:Ev K Er S OO OO' σ te (oT2 o1 o2) m):Ev K Er S OO OO' σ (tOp (FR K) te (tC (.int 0))) o1 (m.bind λp=>.ok p.1):=λH Q w s P=>by
 refine he H _ w s ?_
 cases m with
 |bad=>exact P
 |err x=>exact P
 |ok a=>
  intro v C H1 s1 w1 m1 ⟨p,x',y,C1,C2,e,q,h1,h2,c⟩
  subst c
  have hs:Xp (hid H1 ((C1++C2)::OO')) (hid H1 (C1::OO')):=Zh (Xp.refl _) λb hb=>by
   rw[XE] at hb⊢
   rw[List.map_append,List.append_assoc]
   rcases List.mem_append.mp hb with z |z
   ·exact List.mem_append_left _ z
   ·exact List.mem_append_right _ (List.mem_append_right _ z)
  have P2:FO K OO OO' o1 Q a.1 H:=P
  refine⟨p,_,0,x',e,rfl,SqT.of (Xu _ _ q),rfl,P2 x' C1 H1 s1 (w1.sub ?_) (m1.trans hs) (z.mono hs h1)⟩
  simp only[List.flatten_cons,List.append_assoc]
  exact List.Sublist.append_left (List.sublist_append_right _ _) _
variable {u:TS}{Fd:Ends->β->Hp->Prop}[fd:FdOk Fd]
noncomputable def ND (as:List α):Rs (α×List α):=match as.getLast? with
 |some a=>.ok (a,as.dropLast)
 |none=>.bad
theorem Nt {r:Enc α}[MonoE r]{f:α×List α->Rs β}{v:V}{as:List α}{C:List Xo}(x i k:Nat)(hσ:σ[i]?=some (some v))(hk:OO[k]?=some C)(h:∀x,S.p x->oL (oF r) K x v as C)
  (hr:∀a bs y C',Sv Er ((S.add K r y a).addO K (oL (oF r)) v bs C') (OO.set k C') (σ.set x (some y)) u Fd (f (a,bs))):Sv Er S OO σ (Zv (Bf (SK K "list" SU (JQ i)) (YE x)) u) Fd ((ND as).bind f):=λH D w s P=>by
 obtain⟨p,xs,Cs,e,q,c⟩:=h _ s
 subst c e
 unfold ND at P
 cases ha:as.getLast? with
 |none=>rw[ha] at P;exact P.elim
 |some a=>
  rw[ha] at P
  have hH:H p=some (.lst xs):=w.tr (p, .lst xs) (List.mem_flatten.mpr ⟨_,List.mem_of_getElem? hk,List.mem_cons_self⟩)
  have nd:=Qz w.nil hk
  rw[List.append_nil] at nd
  obtain⟨w3,m3⟩:=RH (D:=[]) (xs':=xs.dropLast) (Cs':=Cs.dropLast) w.nil hk (λc hc=>List.mem_append_left _ ((Vh Cs).subset hc)) (nd.sublist ((Vh Cs).map _))
  rw[Y6] at m3
  rw[List.getLast?_eq_getElem?, ←q.len.1] at ha
  obtain⟨y,c,hy,_,_,ry⟩:=P3.get q ha
  refine⟨.ref p,hσ, .inl ⟨rfl,_,SqL.of hH⟩,p,xs,y,rfl,rfl,hH,hy,?_⟩
  exact hr a as.dropLast y _ _ D w3 ⟨⟨S.mono _ _ m3 s,MonoE.mono m3 ry⟩,⟨p,_,_,rfl,P3.imp (λ_ _ _ z=>MonoO.mono m3 z) q.dropLast,rfl⟩⟩ (PZ.tr (fd.tr D) m3 P)
end
section
variable {K:PySem.W.Frag}{Er:Exc->Hp->Prop}{S:SC}{OO:List (List Xo)}{σ:St}{α β γ ι:Type}{u:TS}{Fd:Ends->β->Hp->Prop}[fd:FdOk Fd]
noncomputable def Jn.wR (J:Jn γ ι)(k:Nat)(R:List Xo):Jn γ ι:={oo:=λx=>(J.oo x).set k R,ss:=J.ss,sc:=J.sc}
theorem Ml {k:Nat}{C:List Xo}(hk:OO[k]?=some []):(OO.set k C).flatten.Perm (C::OO).flatten:=by
 have hlt:k<OO.length:=(List.getElem?_eq_some_iff.mp hk).1
 have h1:(OO.set k C)[k]?=some C:=by simp[hlt]
 have h2:=XL h1
 rw[List.set_set] at h2
 have h3:OO.set k []=OO:=by
  refine List.ext_getElem? λi=>?_
  by_cases e:k=i
  ·subst e;rw[hk];simp[hlt]
  ·simp[e]
 rw[h3] at h2
 exact h2.symm
theorem MK {te:TE}{tb:TS}{o:OE α}[z:MonoO o]{m:Rs (List α)}{body:γ->α->Rs γ}{f:γ->Rs β}(J:Jn γ ι)(kx kr ix:Nat)(x0:ι)(g0:γ)(he:Ev K Er S OO OO σ te (oL o) m)(h1:OO=J.oo x0)(h2:σ=J.ss x0)(h3:∀h,S.p h->(J.sc g0 x0).p h)
  (hkx:∀x,(J.oo x)[kx]?=some [])(hkr:∀x,(J.oo x)[kr]?=some [])(hne:kr≠kx)
  (hb:∀R g x a v C,Sv Er ((J.sc g x).addO K o v a C) (((J.oo x).set kr R).set kx C) ((J.ss x).set ix (some v)) tb (FNd (J.wR kr R)) (body g a))
  (hr:∀g x,Sv Er (J.sc g x) (J.oo x) (J.ss x) u Fd (f g)):Sv Er S OO σ (Zv (Iq (Ff K te) (YE ix) tb) u) Fd (m.bind λas=>(forN as g0 body).bind f):=λH D w s P=>by
 refine he H _ w s ?_
 cases em:m with
 |bad=>rw[em] at P;exact P
 |err x=>rw[em] at P;exact λH' s'=>P H' (Xu.trans s')
 |ok as=>
  rw[em] at P
  have P:PZ Er (Fd D) (hid H OO) ((forN as g0 body).bind f):=P
  intro v C H' s' w' m' ⟨p,xs,Cs,e,q,c⟩
  subst c e
  have hp':=w'.cell (p, .lst xs) List.mem_cons_self
  have hlen:=q.len
  let R:Nat->List Xo:=λi=>(p,HO.lst xs)::(Cs.drop i).flatten
  have e0:R 0=(p,HO.lst xs)::Cs.flatten:=by show _::(Cs.drop 0).flatten=_;rw[List.drop_zero]
  have pm0:∀x i,((J.oo x).set kr (R i)).flatten.Perm (R i::J.oo x).flatten:=λx i=>Ml (hkr x)
  have hin:∀{x i H2},W ((J.oo x).set kr (R i)) H2->SqL K H2 p xs:=fun {x i H2} w2=>SqL.of ((w2.of (pm0 x i).symm).cell (p, .lst xs) List.mem_cons_self)
  refine⟨p,rfl,⟨xs,SqL.of hp'⟩,λi mm σ' H2=>mm=as.length-i/\i<=as.length/\∃x gg,σ'=J.ss x/\W ((J.oo x).set kr (R i)) H2/\Xp (hid H' (((p,HO.lst xs)::Cs.flatten)::OO)) (hid H2 ((J.oo x).set kr (R i)))/\(J.sc gg x).p (hid H2 ((J.oo x).set kr (R i)))/\PZ Er (Fd D) (hid H2 ((J.oo x).set kr (R i))) ((forN (as.drop i) gg body).bind f),⟨as.length,rfl,Nat.zero_le _,x0,g0,h2,?_⟩,?_⟩
  ·have pm:((J.oo x0).set kr (R 0)).flatten.Perm (((p,HO.lst xs)::Cs.flatten)::OO).flatten:=by rw[h1, ←e0];exact pm0 x0 0
   rw[XB pm,List.drop_zero]
   exact⟨w'.of pm,Xp.refl _,h3 _ (S.mono _ _ m' s),PZ.tr (fd.tr D) m' P⟩
  ·rintro i mm σ' H2 ⟨rfl,hi,x,gg,rfl,w2,m2,sc2,P2⟩
   by_cases hlt:i<as.length
   ·right
    have ha:as[i]?=some as[i]:=by simp[hlt]
    obtain⟨y0,c0,hy0,hc0,ho0⟩:=P3.get q ha
    have hq:=hin w2
    refine⟨⟨xs,y0,hq,hy0⟩,λσ3 H3=>∃ x gg,σ3=J.ss x/\W ((J.oo x).set kr (R (i+1))) H3/\Xp (hid H' (((p,HO.lst xs)::Cs.flatten)::OO)) (hid H3 ((J.oo x).set kr (R (i+1))))/\(J.sc gg x).p (hid H3 ((J.oo x).set kr (R (i+1))))/\PZ Er (Fd D) (hid H3 ((J.oo x).set kr (R (i+1)))) ((forN (as.drop (i+1)) gg body).bind f),λσ3 H3 q=>⟨as.length-(i+1),Nat.sub_lt_sub_left hlt (Nat.lt_succ_self i),rfl,hlt,q⟩,λy H3 r9=>?_⟩
    obtain⟨e3,hy⟩:=r9
    subst e3
    have hyy:=hy xs hq
    rw[hy0] at hyy
    cases hyy
    have hkx2:((J.oo x).set kr (R (i+1)))[kx]?=some []:=by rw[List.getElem?_set_ne hne];exact hkx x
    have hcl:i<Cs.length:=(List.getElem?_eq_some_iff.mp hc0).1
    have hc1:Cs[i]=c0:=(List.getElem?_eq_some_iff.mp hc0).2
    have pm:(((J.oo x).set kr (R (i+1))).set kx c0).flatten.Perm ((J.oo x).set kr (R i)).flatten:=by
     refine(Ml hkx2).trans (List.Perm.trans ?_ (pm0 x i).symm)
     rw[List.flatten_cons]
     refine((pm0 x (i+1)).append_left c0).trans ?_
     show(c0++(((p,HO.lst xs)::(Cs.drop (i+1)).flatten)::J.oo x).flatten).Perm (((p,HO.lst xs)::(Cs.drop i).flatten)::J.oo x).flatten
     rw[List.drop_eq_getElem_cons hcl,hc1]
     simp only[List.flatten_cons,List.cons_append,List.append_assoc]
     exact List.perm_middle
    have w3:=w2.of pm
    have eh:=XB (H:=H3) pm
    refine hb (R (i+1)) gg x as[i] y0 c0 H3 _ w3 ⟨by rw[eh];exact sc2,by rw[eh];exact z.mono m2 ho0⟩ ?_
    rw[eh]
    rw[List.drop_eq_getElem_cons hlt] at P2
    have P3:PZ Er (Fd D) (hid H3 ((J.oo x).set kr (R i))) ((body gg as[i]).bind λg'=>(forN (as.drop (i+1)) g' body).bind f):=by rw[←XH];exact P2
    cases eb:body gg as[i] with
    |bad=>rw[eb] at P3;exact P3
    |err x=>rw[eb] at P3;exact P3
    |ok g'=>
     rw[eb] at P3
     exact λx' H4 w4 m4 sc4=>⟨x',g',rfl,w4,m2.trans m4,sc4,PZ.tr (fd.tr D) m4 P3⟩
   ·left
    have e:i=as.length:=Nat.le_antisymm hi (Nat.not_lt.mp hlt)
    subst e
    have hs:Xp (hid H2 ((J.oo x).set kr (R as.length))) (hid H2 (J.oo x)):=by
     rw[XB (pm0 x as.length)]
     exact Zh (Xp.refl _) λb hb=>by rw[XE];exact List.mem_append_right _ hb
    refine⟨⟨xs,hin w2,by rw[hlen.1];exact Nat.le_refl _⟩,hr gg x H2 D ((w2.of (pm0 x as.length).symm).tail) ((J.sc gg x).mono _ _ hs sc2) ?_⟩
    rw[List.drop_length] at P2
    exact PZ.tr (fd.tr D) hs P2
end
section
variable {K:PySem.W.Frag}{Er:Exc->Hp->Prop}{S:SC}{OO:List (List Xo)}{σ:St}{α β:Type}
end
noncomputable def ltG {α:Type}[DecidableEq α](lt:α->α->Bool):List α->List α->Bool
 |_,[]=>false
 | [],_::_=>true
 |a::as,b::bs=>if a=b then ltG lt as bs else lt a b
noncomputable def Tb (A:Around)(s:Shared)(v u:Value)(b:Bool):Prop:=
 ∀(prog:Program) (w:World) (E:Value->Shared->Prop) (Q:Value->Shared->Prop),Q (.bool b) s->wpAny (model prog w) A (richCompare .Lt v u) Q E s
structure LtOk {α:Type}(r:Enc α)(lt:α->α->Bool)(d:Nat):Prop where
 at':∀{X:Cx}{pins:List (Addr×Obj)}{σ:St}{H:Hp}{s:Shared}{x y:V}{v u:Value}{a b:α}{A:Around},Inv X pins σ H s->X9 x v->X9 y u->r X.K H x a->r X.K H y b->A.units+d<cLine->Tb A s v u (lt a b)
noncomputable def ltI (a b:Int):Bool:=decide (a<b)
theorem lt_int:LtOk Xd ltI 0:=⟨fun {X pins σ H s x y v u a b A} I rx ry h1 h2 _ prog w E Q q=>by
 have e1:x=V.int a:=h1
 have e2:y=V.int b:=h2
 subst e1 e2
 obtain⟨t,rfl⟩:=rx
 obtain⟨t',rfl⟩:=ry
 exact CmpOf.ints_lt (P:=λj v=>∃ t,v= .int (if j=0 then a else b) t) (λj=>if j=0 then a else b) (λ_ _ h=>h) 0 1 _ _ _ _ _ ⟨t,rfl⟩ ⟨t',rfl⟩ q⟩
section
variable {α:Type}[DecidableEq α]{r:Enc α}{lt:α->α->Bool}{d:Nat}
theorem KM {as:List α}:ltG lt as []=false:=by cases as<;> rfl
theorem S6 (E:EqOk r d)(L:LtOk r lt d){X:Cx}{pins:List (Addr×Obj)}{σ:St}{H:Hp}{s:Shared}(I:Inv X pins σ H s){prog:Program}{w:World}{A:Around}{R:Result->Shared->Prop}{l b:Addr}{i1 i2:List Value}{n m:Nat}{o1 o2:Obj}(d1:o1.data= .seq i1.toArray n)(d2:o2.data= .seq i2.toArray m)
  {xs ys:List V}{as bs:List α}(v1:X5 xs i1)(v2:X5 ys i2)(p1:Paired (r X.K H) xs as)(p2:Paired (r X.K H) ys bs)(g1:s.heap.get? l=some o1)(g2:s.heap.get? b=some o2)(hu:A.units+(d+1)<cLine):
  ∀(k i:Nat),as.length-i=k->i<=as.length->i<=bs.length->R (.ok (.ret (.bool (ltG lt (as.drop i) (bs.drop i))))) s->
  codeAny (model prog w) A (.builtin "list.__eq__.loop" ⟨[.ref l, .ref b,rawInt i,rawInt 0],[]⟩) R s:=by
 have n1:as.length=i1.length:=by rw[←Paired.len p1];exact v1.length
 have n2:bs.length=i2.length:=by rw[←Paired.len p2];exact v2.length
 intro k
 induction k with
 |zero=>
  intro i hk hi1 hi2 q
  refine codeAny_builtin Ue ?_
  rw[Around.under_plainId Qv _]
  show wpAny _ A.in1 (Builtin.List.listItems (.ref l) >>= _) _ _ s
  refine wpAny_bind (wpAny_listItems g1 d1 (wpAny_bind (wpAny_listItems g2 d2 ?_)))
  rw[show((i:Nat):Int).toNat=i from rfl,show i1.toArray[i]?=none by simp;omega]
  refine wpAny_bind (wpAny_listItems g1 d1 (wpAny_bind (wpAny_listItems g2 d2 (wpAny_pure ?_))))
  have e:ltG lt (as.drop i) (bs.drop i)=decide (i1.toArray.size<i2.toArray.size):=by
   rw[List.drop_eq_nil_of_le (show as.length<=i by omega)]
   cases hd:bs.drop i with
   |nil=>
    have:=congrArg List.length hd
    simp at this
    rw[KM,decide_eq_false (by simp;omega)]
   |cons x t=>
    have:=congrArg List.length hd
    simp at this
    exact(decide_eq_true (show i1.toArray.size<i2.toArray.size by simp;omega)).symm
  rw[e] at q
  exact q
 |succ k ih=>
  intro i hk hi1 hi2 q
  have lt1:i<as.length:=by omega
  refine codeAny_builtin Ue ?_
  rw[Around.under_plainId Qv _]
  show wpAny _ A.in1 (Builtin.List.listItems (.ref l) >>= _) _ _ s
  refine wpAny_bind (wpAny_listItems g1 d1 (wpAny_bind (wpAny_listItems g2 d2 ?_)))
  rw[show((i:Nat):Int).toNat=i from rfl]
  have f1:i1.toArray[i]?=some i1[i]:=by simp
  obtain⟨x,ex,rx⟩:=Paired.getR (i:=i) (b:=i1[i]) v1 (by simp)
  obtain⟨a,ea,ra⟩:=Paired.getL p1 ex
  have dx:as.drop i=a::as.drop (i+1):=by rw[List.drop_eq_getElem_cons lt1, ←(List.getElem?_eq_some_iff.mp ea).2]
  rw[f1]
  by_cases lt2:i<bs.length
  ·have f2:i2.toArray[i]?=some i2[i]:=by simp
   obtain⟨y,ey,ry⟩:=Paired.getR (i:=i) (b:=i2[i]) v2 (by simp)
   obtain⟨c,ec,rc⟩:=Paired.getL p2 ey
   have dy:bs.drop i=c::bs.drop (i+1):=by rw[List.drop_eq_getElem_cons lt2, ←(List.getElem?_eq_some_iff.mp ec).2]
   rw[dx,dy,ltG] at q
   rw[f2]
   show wpAny _ _ (eqBool i1[i] i2[i] >>= _) _ _ _
   refine wpAny_bind (E.eq (A:=A.in1) I rx ry ra rc (by rw[ZI];omega) _ _ _ _ ?_)
   by_cases hac:a=c
   ·rw[if_pos hac] at q
    rw[if_pos (by simpa using hac)]
    exact wpAny_pure ⟨plainId_quiet Qv _,ih (i+1) (by omega) (by omega) (by omega) q⟩
   ·rw[if_neg hac] at q
    rw[if_neg (by simpa using hac)]
    refine wpAny_bind (wpAny_listItems g1 d1 (wpAny_bind (wpAny_listItems g2 d2 ?_)))
    rw[f1,f2]
    show wpAny _ _ (richCompare .Lt i1[i] i2[i] >>= _) _ _ _
    exact wpAny_bind (L.at' (A:=A.in1) I rx ry ra rc (by rw[ZI];omega) _ _ _ _ (wpAny_pure q))
  ·rw[show i2.toArray[i]?=none by simp;omega]
   refine wpAny_bind (wpAny_listItems g1 d1 (wpAny_bind (wpAny_listItems g2 d2 (wpAny_pure ?_))))
   rw[List.drop_eq_nil_of_le (show bs.length<=i by omega),KM, ←decide_eq_false (show ¬i1.toArray.size<i2.toArray.size by simp;omega)] at q
   exact q
theorem Ig (E:EqOk r d)(L:LtOk r lt d){X:Cx}{pins:List (Addr×Obj)}{σ:St}{H:Hp}{s:Shared}(I:Inv X pins σ H s){prog:Program}{w:World}{A:Around}{Er:Value->Shared->Prop}{x y:V}{v u:Value}{as bs:List α}(rx:X9 x v)(ry:X9 y u)(h1:rL r X.K H x as)(h2:rL r X.K H y bs)(hu:A.units+(d+1)<cLine){Q:Value->Shared->Prop}(q:Q (.bool (ltG lt as bs)) s):
  ∃l b o1 o2,v= .ref l/\u= .ref b/\s.heap.get? l=some o1/\o1.cls= .type "list" /\s.heap.get? b=some o2/\o2.cls= .type "list" /\wpAny (model prog w) A (call (.builtin "list.__lt__") [.ref l, .ref b]) Q Er s:=by
 obtain⟨l,xs,rfl,q1,p1⟩:=h1
 obtain⟨b,ys,rfl,q2,p2⟩:=h2
 cases rx
 cases ry
 obtain⟨i1,v1,⟨o1,n1,g1,c1,_,d1⟩,_⟩:=I.list q1
 obtain⟨i2,v2,⟨o2,n2,g2,c2,_,d2⟩,_⟩:=I.list q2
 have me:Meets (Builtin.«list.__lt__» ⟨[.ref l, .ref b],[]⟩) λA' R s'=>s'=s/\A'.units+(d+1)<cLine/\R (.ok (.ret (.bool (ltG lt as bs)))) s':=by
  rintro prog w A' R s' ⟨rfl,hu',q'⟩
  show wpAny _ _ (slotArgs "__lt__" 1 ⟨[.ref l, .ref b],[]⟩ >>= _) _ _ _
  refine wpAny_bind (wpAny_pure (wpAny_bind (wpAny_isInstance ⟨_,g2,c2⟩ (by first |rfl |kernel_rfl) ?_)))
  rw[if_neg (by decide)]
  show wpAny _ _ (if(CmpOp.Lt==CmpOp.Eq || CmpOp.Lt==CmpOp.NotEq)=true then _ else _) _ _ _
  rw[if_neg (by decide)]
  exact wpAny_pure ⟨plainId_quiet Qv _,S6 E L I d1 d2 v1 v2 p1 p2 g1 g2 hu' as.length 0 rfl (Nat.zero_le _) (Nat.zero_le _) (by simpa using q')⟩
 exact⟨l,b,o1,o2,rfl,rfl,g1,c1,g2,c2,call_meets F.slot_list_lt ⟨_,g1,c1⟩ F.entry_list_lt (F.args_list_lt_2 _ _) me ⟨rfl,hu,q⟩⟩
theorem IT (E:EqOk r d)(L:LtOk r lt d):LtOk (rL r) (ltG lt) (d+1):=⟨fun {X pins σ H s x y v u as bs A} I rx ry h1 h2 hu prog w Er Q q=>by
 obtain⟨l,b,o1,o2,rfl,rfl,g1,c1,g2,c2,h⟩:=Ig E L I (prog:=prog) (w:=w) (A:=A) (Er:=Er) rx ry h1 h2 hu (Q:=λv s'=>(∃k,v= .bool k)/\Q v s') ⟨⟨_,rfl⟩,q⟩
 exact MI g1 c1 g2 c2 (by omega) h⟩
theorem LtOk.imp {q:Enc α}(L:LtOk r lt d)(h:∀{K:PySem.W.Frag}{H:Hp}{v:V}{a:α},q K H v a->r K H v a):LtOk q lt d:=⟨λI rx ry h1 h2 hu=>L.at' I rx ry (h h1) (h h2) hu⟩
theorem PD {q:Enc α}{K:PySem.W.Frag}{H:Hp}{v:V}{as:List α}(h:rV q K H v as):rL q K H v as:=by
 obtain⟨a,xs,e,q,p⟩:=h
 exact⟨a,xs,e,SqL.of q,p⟩
end
section
variable {α:Type}
noncomputable def kp (kf:Value->α)(d:α)(xs:Array Keyed)(i:Nat):α:=(xs[i]?.map λp=>kf p.1).getD d
theorem Lp {kf:Value->α}{d:α}{xs ys:Array Keyed}{i j:Nat}(h:xs[i]?=ys[j]?):kp kf d xs i=kp kf d ys j:=by unfold kp;rw[h]
structure Ord (lt:α->α->Bool):Prop where
 irr:∀a,lt a a=false
 tr:∀{a b c},lt a b=true->lt b c=true->lt a c=true
structure SB (κ:SortKind)(a0:Array Keyed)(st:SortSt):Prop where
 perm:(arrOf st).Perm a0
 kind:kindOf st=κ
 failed:failedOf st=none
 pend:pendingOf st= #[]
theorem SB.size {κ:SortKind}{a0:Array Keyed}{st:SortSt}(h:SB κ a0 st):(arrOf st).size=a0.size:=h.perm.size_eq
theorem SB.setArr {κ:SortKind}{a0:Array Keyed}{st:SortSt}(h:SB κ a0 st){xs:Array Keyed}(hp:xs.Perm (arrOf st)):SB κ a0 (setArr st xs):=⟨hp.trans h.perm,h.kind,h.failed,h.pend⟩
structure Asks (prog:Program)(w:World)(A:Around)(E:Value->Shared->Prop)(s:Shared)(κ:SortKind)(lt:α->α->Bool)(kf:Value->α)(d:α)(a0:Array Keyed):Prop extends Ord lt where
 ask:∀{st:SortSt}{i j:Nat}{Q:Option Bool->SortSt->Prop},SB κ a0 st->i<a0.size->j<a0.size->Q (some (lt (kp kf d (arrOf st) i) (kp kf d (arrOf st) j))) st->wpS (model prog w) A E s (ltAt' i j) Q st
 two:∀{st:SortSt}{i j:Nat},SB κ a0 st->i<a0.size->j<a0.size->i≠j->lt (kp kf d (arrOf st) i) (kp kf d (arrOf st) j)=true∨lt (kp kf d (arrOf st) j) (kp kf d (arrOf st) i)=true
variable {prog:Program}{w:World}{A:Around}{E:Value->Shared->Prop}{s:Shared}{κ:SortKind}{lt:α->α->Bool}{kf:Value->α}{d:α}{a0:Array Keyed}
noncomputable def Ris (lt:α->α->Bool)(k:Nat->α)(n:Nat):Prop:=∀ i j,i<j->j<n->lt (k i) (k j)=true
noncomputable def Fal (lt:α->α->Bool)(k:Nat->α)(n:Nat):Prop:=∀ i j,i<j->j<n->lt (k j) (k i)=true
theorem Ris.more (O:Ord lt){k:Nat->α}{n:Nat}(h:Ris lt k n)(q:0<n->lt (k (n-1)) (k n)=true):Ris lt k (n+1):=λi j hij hj=>by
 rcases Nat.lt_or_ge j n with z |z
 ·exact h i j hij z
 ·have e:j=n:=by omega
  subst e
  rcases Nat.lt_or_ge i (j-1) with y |y
  ·exact O.tr (h i (j-1) y (by omega)) (q (by omega))
  ·rw[show i=j-1 by omega];exact q (by omega)
theorem Fal.more (O:Ord lt){k:Nat->α}{n:Nat}(h:Fal lt k n)(q:0<n->lt (k n) (k (n-1))=true):Fal lt k (n+1):=λi j hij hj=>by
 rcases Nat.lt_or_ge j n with z |z
 ·exact h i j hij z
 ·have e:j=n:=by omega
  subst e
  rcases Nat.lt_or_ge i (j-1) with y |y
  ·exact O.tr (q (by omega)) (h i (j-1) y (by omega))
  ·rw[show i=j-1 by omega];exact q (by omega)
theorem Asks.other (L:Asks prog w A E s κ lt kf d a0){st:SortSt}{i j:Nat}(B:SB κ a0 st)(hi:i<a0.size)(hj:j<a0.size)(n:i≠j)(h:lt (kp kf d (arrOf st) i) (kp kf d (arrOf st) j)=false):lt (kp kf d (arrOf st) j) (kp kf d (arrOf st) i)=true:=(L.two B hi hj n).resolve_left (by rw[h];decide)
theorem LY (L:Asks prog w A E s κ lt kf d a0){st:SortSt}{a m:Nat}{Q:AscSt->SortSt->Prop}(B:SB κ a0 st)(hm:m<=a0.size)(h1:1<=a)(ham:a<=m)(R:Ris lt (kp kf d (arrOf st)) a)
  (q:∀n,a<=n->n<=m->Ris lt (kp kf d (arrOf st)) n->(n≠m->lt (kp kf d (arrOf st) n) (kp kf d (arrOf st) (n-1))=true)->Q (none,n) st):wpS (model prog w) A E s (ascLoop a m) Q st:=by
 unfold ascLoop
 refine wpS_forRange (I:=λx c t=>t=st/\c=(none,x)/\Ris lt (kp kf d (arrOf st)) x) ?_ ?_ ⟨rfl,rfl,R⟩
 ·intro x c t hx hxm hI
  obtain⟨rfl,rfl,R'⟩:=hI
  refine wpS_bind (L.ask B (by omega) (by omega) ?_)
  cases e:lt (kp kf d (arrOf t) x) (kp kf d (arrOf t) (x-1)) with
  |true=>exact wpS_pure (q x hx (by omega) R' λ_=>e)
  |false=>exact wpS_pure ⟨rfl,rfl,R'.more L.toOrd λ_=>L.other B (by omega) (by omega) (by omega) e⟩
 ·intro c t hI
  obtain⟨rfl,rfl,R'⟩:=hI
  have e:max a m=m:=by omega
  rw[e] at R'⊢
  exact q m ham (Nat.le_refl _) R' λz=>absurd rfl z
theorem IK (L:Asks prog w A E s κ lt kf d a0){st:SortSt}{a m:Nat}{Q:DescSt->SortSt->Prop}(B:SB κ a0 st)(hm:m<=a0.size)(h1:1<=a)(ham:a<=m)(R:Fal lt (kp kf d (arrOf st)) a)
  (q:∀n,a<=n->n<=m->Fal lt (kp kf d (arrOf st)) n->Q (none,n,0) st):wpS (model prog w) A E s (descLoop a m) Q st:=by
 unfold descLoop
 refine wpS_forRange (I:=λx c t=>t=st/\c=(none,x,0)/\Fal lt (kp kf d (arrOf st)) x) ?_ ?_ ⟨rfl,rfl,R⟩
 ·intro x c t hx hxm hI
  obtain⟨rfl,rfl,R'⟩:=hI
  show wpS _ _ _ _ (ltAt' x (x-1) >>= _) _ _
  refine wpS_bind (L.ask B (by omega) (by omega) ?_)
  cases e:lt (kp kf d (arrOf t) x) (kp kf d (arrOf t) (x-1)) with
  |true=>exact wpS_pure ⟨rfl,rfl,R'.more L.toOrd λ_=>e⟩
  |false=>
   show wpS _ _ _ _ (ltAt' (x-1) x >>= _) _ _
   refine wpS_bind (L.ask B (by omega) (by omega) ?_)
   rw[L.other B (by omega) (by omega) (by omega) e]
   exact wpS_pure (q x hx (by omega) R')
 ·intro c t hI
  obtain⟨rfl,rfl,R'⟩:=hI
  have e:max a m=m:=by omega
  rw[e] at R'⊢
  exact q m ham (Nat.le_refl _) R'
theorem Eb {xs:Array Keyed}{n i:Nat}(hn:n<=xs.size)(hi:i<n):kp kf d (mirror xs 0 n ((n-0)/2)) i=kp kf d xs (n-1-i):=by
 have e:=getElem?_mirror_all (i:=0) hn i
 rw[if_pos ⟨Nat.zero_le _,hi⟩,Nat.zero_add] at e
 exact Lp e
theorem Rr (L:Asks prog w A E s κ lt kf d a0){st:SortSt}{m:Nat}{Q:Option Nat->SortSt->Prop}(B:SB κ a0 st)(hm:m<=a0.size)(h1:1<=m)
  (q:∀n t,SB κ a0 t->n<=m->Ris lt (kp kf d (arrOf t)) n->Q (some n) t):wpS (model prog w) A E s (countRun' 0 m) Q st:=by
 rw[countRun0_eq]
 refine wpS_bind (LY L B hm (Nat.le_refl 1) h1 (λi j hij hj=>by omega) λn hn hnm R z=>?_)
 show wpS _ _ _ _ (if(n==m)=true then _ else _) _ _
 by_cases e:n=m
 ·subst e
  rw[if_pos (beq_self_eq_true n)]
  exact wpS_pure (q n st B (Nat.le_refl _) R)
 ·rw[if_neg (by rw[beq_eq_false_iff_ne.mpr e];decide)]
  have z:=z e
  by_cases g:n > 1
  ·show wpS _ _ _ _ (if n > 1 then _ else _) _ _
   rw[if_pos g]
   show wpS _ _ _ _ (ltAt' 0 (n-1) >>= _) _ _
   refine wpS_bind (L.ask B (by omega) (by omega) ?_)
   rw[show lt (kp kf d (arrOf st) 0) (kp kf d (arrOf st) (n-1))=true from R 0 (n-1) (by omega) (by omega)]
   exact wpS_pure (q n st B hnm R)
  ·have e1:n=1:=by omega
   subst e1
   show wpS _ _ _ _ (descPart 1 m) _ _
   unfold descPart
   refine wpS_bind (wpS_lift (wpAny_rule ⟨rfl,?_⟩))
   have F2:Fal lt (kp kf d (arrOf st)) 2:=Fal.more L.toOrd (n:=1) (λi j hij hj=>by omega) λ_=>z
   refine wpS_bind (IK L B hm (by omega) (by omega) F2 λn hn2 hnm2 F=>?_)
   show wpS _ _ _ _ (tail3 n m) _ _
   unfold tail3
   refine wpS_bind (wpS_reverse ?_)
   have B2:SB κ a0 (setArr st (mirror (arrOf st) 0 n ((n-0)/2))):=B.setArr (mirror_perm _ _ _ _)
   have hsz:n<=(arrOf st).size:=by rw[B.size];omega
   refine wpS_bind (LY L B2 hm (by omega) hnm2 (λi j hij hj=>?_) λk _ hk R2 _=>wpS_pure (q k _ B2 hk R2))
   show lt (kp kf d (mirror (arrOf st) 0 n ((n-0)/2)) i) (kp kf d (mirror (arrOf st) 0 n ((n-0)/2)) j)=true
   rw[Eb hsz (by omega),Eb hsz hj]
   exact F (n-1-j) (n-1-i) (by omega) (by omega)
theorem Pr (O:Ord lt){xs:Array Keyed}{k l:Nat}(hk:k<xs.size)(hl:l<=k)(R:Ris lt (kp kf d xs) k)(lo:∀i,i<l->lt (kp kf d xs i) (kp kf d xs k)=true)(hi:∀i,l<=i->i<k->lt (kp kf d xs k) (kp kf d xs i)=true):Ris lt (kp kf d (bubble xs k (k-l))) (k+1):=by
 have g:∀p,kp kf d (bubble xs k (k-l)) p=if p=l then kp kf d xs k else if l<p/\p<=k then kp kf d xs (p-1) else kp kf d xs p:=λp=>by
  have e:=getElem?_bubble hk (k-l) (by omega) p
  rw[show k-(k-l)=l by omega] at e
  by_cases h1:p=l
  ·rw[if_pos h1] at e⊢;exact Lp e
  ·rw[if_neg h1] at e⊢
   by_cases h2:l<p/\p<=k
   ·rw[if_pos h2] at e⊢;exact Lp e
   ·rw[if_neg h2] at e⊢;exact Lp e
 intro i j hij hj
 rw[g,g]
 rcases Nat.lt_trichotomy i l with hi' |hi' |hi'
 ·rw[if_neg (by omega),if_neg (by omega)]
  rcases Nat.lt_trichotomy j l with hj' |hj' |hj'
  ·rw[if_neg (by omega),if_neg (by omega)];exact R i j hij (by omega)
  ·rw[if_pos hj'];exact lo i hi'
  ·rw[if_neg (by omega),if_pos (by omega)];exact R i (j-1) (by omega) (by omega)
 ·rw[if_pos hi',if_neg (by omega),if_pos (by omega)];exact hi (j-1) (by omega) (by omega)
 ·rw[if_neg (by omega),if_pos (by omega),if_neg (by omega),if_pos (by omega)];exact R (i-1) (j-1) (by omega) (by omega)
theorem O3 (L:Asks prog w A E s κ lt kf d a0){st:SortSt}{n ok:Nat}{Q:Bool->SortSt->Prop}(B:SB κ a0 st)(hn:n<=a0.size)(hok:ok<=n)(R:Ris lt (kp kf d (arrOf st)) ok)
  (q:∀t,SB κ a0 t->Ris lt (kp kf d (arrOf t)) n->Q true t):wpS (model prog w) A E s (binarySort' 0 n ok) Q st:=by
 rw[binarySort'_eq]
 simp only[Nat.zero_add]
 refine wpS_bind (wpS_mono (wpS_forRange (I:=λk c t=>c=(none,())/\SB κ a0 t/\Ris lt (kp kf d (arrOf t)) (if k<=n then k else n)) (Q:=λc t=>c=(none,())/\SB κ a0 t/\Ris lt (kp kf d (arrOf t)) n) ?_ ?_ ?_) ?_)
 ·intro k c t hk hkn hI
  obtain⟨rfl,Bt,Rt⟩:=hI
  rw[if_pos (Nat.le_of_lt hkn)] at Rt
  refine wpS_bind (wpS_mono (wpS_forRange (I:=λx c u=>u=t/\∃l r,c=(none,l,r)/\l<=r/\r<=k/\r+x<=k+l/\(∀i,i<l->lt (kp kf d (arrOf t) i) (kp kf d (arrOf t) k)=true)/\(∀i,r<=i->i<k->lt (kp kf d (arrOf t) k) (kp kf d (arrOf t) i)=true))
   (Q:=λc u=>u=t/\∃l,c=(none,l,l)/\l<=k/\(∀i,i<l->lt (kp kf d (arrOf t) i) (kp kf d (arrOf t) k)=true)/\(∀i,l<=i->i<k->lt (kp kf d (arrOf t) k) (kp kf d (arrOf t) i)=true)) ?_ ?_ ?_) ?_)
  ·intro x c u _ hx hI
   obtain⟨rfl,l,r,rfl,hlr,hrk,hm,lo,hi⟩:=hI
   by_cases hge:l≥r
   ·have e:r=l:=by omega
    subst e
    show wpS _ _ _ _ (if r≥r then _ else _) _ _
    rw[if_pos (Nat.le_refl _)]
    exact wpS_pure ⟨rfl,r,rfl,hrk,lo,hi⟩
   ·show wpS _ _ _ _ (if l≥r then _ else _) _ _
    rw[if_neg hge]
    show wpS _ _ _ _ (ltAt' k ((l+r)/2) >>= _) _ _
    refine wpS_bind (L.ask Bt (by omega) (by omega) ?_)
    cases e:lt (kp kf d (arrOf u) k) (kp kf d (arrOf u) ((l+r)/2)) with
    |true=>
     refine wpS_pure ⟨rfl,l,(l+r)/2,rfl,by omega,by omega,by omega,lo,λi h1 h2=>?_⟩
     rcases Nat.eq_or_lt_of_le h1 with y |y
     ·rw[←y];exact e
     ·exact L.tr e (Rt _ _ y h2)
    |false=>
     have e':=L.other Bt (by omega) (by omega) (by omega) e
     refine wpS_pure ⟨rfl,(l+r)/2+1,r,rfl,by omega,by omega,by omega,λi h1=>?_,hi⟩
     rcases Nat.eq_or_lt_of_le (Nat.le_of_lt_succ h1) with y |y
     ·rw[y];exact e'
     ·exact L.tr (Rt _ _ y (by omega)) e'
  ·intro c u hI
   obtain⟨rfl,l,r,rfl,hlr,hrk,hm,lo,hi⟩:=hI
   have e:r=l:=by omega
   subst e
   exact⟨rfl,r,rfl,hrk,lo,hi⟩
  ·exact⟨rfl,0,k,rfl,by omega,by omega,by omega,λi hi=>by omega,λi h1 h2=>by omega⟩
  ·intro c u hI
   obtain⟨rfl,l,rfl,hlk,lo,hi⟩:=hI
   show wpS _ _ _ _ (moveDown' k l >>= _) _ _
   rw[moveDown'_eq]
   refine wpS_bind (wpS_modify (wpS_pure ⟨rfl,Bt.setArr (bubble_perm _ _ _),?_⟩))
   rw[if_pos (show k+1<=n from hkn)]
   exact Pr L.toOrd (by rw[Bt.size];omega) hlk Rt lo hi
 ·intro c t hI
  obtain⟨hc,Bt,Rt⟩:=hI
  refine⟨hc,Bt,?_⟩
  have e:(if max (max ok 1) n<=n then max (max ok 1) n else n)=n:=by split<;> omega
  rwa [e] at Rt
 ·refine⟨rfl,B,λi j hij hj=>?_⟩
  refine R i j hij ?_
  split at hj<;> omega
 ·intro c t hI
  obtain⟨rfl,Bt,Rt⟩:=hI
  exact wpS_pure (q t Bt Rt)
theorem M2 (L:Asks prog w A E s κ lt kf d a0){st:SortSt}{Q:Unit->SortSt->Prop}(B:SB κ a0 st)(h2:2<=a0.size)(h64:a0.size<64)
  (q:∀t,(arrOf t).Perm a0->failedOf t=none->Ris lt (kp kf d (arrOf t)) a0.size->Q () t):wpS (model prog w) A E s sortRuns' Q st:=by
 rw[sortRuns'_eq]
 refine wpS_bind (wpS_get ?_)
 have hmr:minRun' a0.size a0.size 0=a0.size:=by
  cases e:a0.size with
  |zero=>omega
  |succ f=>rw[minRun'_succ,if_pos (by omega)]
 have hs:=B.size
 show wpS _ _ _ _ (forIn [0:(arrOf st).size] _ _ >>= _) _ _
 rw[hs,hmr]
 let Dn:SortSt->Prop:=λt=>(arrOf t).Perm a0/\failedOf t=none/\pendingOf t= #[(0,a0.size,0)]/\Ris lt (kp kf d (arrOf t)) a0.size
 have fin:∀t,SB κ a0 t->Ris lt (kp kf d (arrOf t)) a0.size->Dn (setPending t ((pendingOf t).push (0,a0.size,0))):=λt Bt Rt=>⟨Bt.perm,Bt.failed,by show(pendingOf t).push _=_;rw[Bt.pend];rfl,Rt⟩
 refine wpS_bind (wpS_mono (wpS_forRange (I:=λx c t=>if x=0 then c=(none,0)/\SB κ a0 t else c=(none,a0.size)/\Dn t) (Q:=λc t=>c=(none,a0.size)/\Dn t) ?_ ?_ ?_) ?_)
 ·intro x c t _ hx hI
  by_cases hx0:x=0
  ·rw[if_pos hx0] at hI
   obtain⟨rfl,Bt⟩:=hI
   show wpS _ _ _ _ (if 0≥a0.size then _ else _) _ _
   rw[if_neg (by omega)]
   refine wpS_bind (Rr L Bt (by omega) (by omega) λm u Bu hm Ru=>?_)
   have hb:∀v,SB κ a0 v->(pendingOf v).back?=none:=λv Bv=>by rw[Bv.pend];rfl
   by_cases hlt:m<a0.size
   ·show wpS _ _ _ _ (if m<a0.size then _ else _) _ _
    rw[if_pos hlt]
    refine wpS_bind (wpS_lift (wpAny_rule ⟨rfl,?_⟩))
    rw[Nat.sub_zero,Nat.min_self]
    refine wpS_bind (O3 L Bu (Nat.le_refl _) hm Ru λv Bv Rv=>?_)
    show wpS _ _ _ _ (get >>= _) _ _
    refine wpS_bind (wpS_get ?_)
    rw[hb v Bv]
    refine wpS_bind (wpS_modify (wpS_pure ?_))
    show if x+1=0 then _ else _
    rw[if_neg (by omega)]
    exact⟨by rw[Nat.zero_add],fin v Bv Rv⟩
   ·have e:m=a0.size:=by omega
    subst e
    show wpS _ _ _ _ (if a0.size<a0.size then _ else _) _ _
    rw[if_neg hlt]
    refine wpS_bind (wpS_get ?_)
    rw[hb u Bu]
    refine wpS_bind (wpS_modify (wpS_pure ?_))
    show if x+1=0 then _ else _
    rw[if_neg (by omega)]
    exact⟨by rw[Nat.zero_add],fin u Bu Ru⟩
  ·rw[if_neg hx0] at hI
   obtain⟨rfl,D⟩:=hI
   show wpS _ _ _ _ (if a0.size≥a0.size then _ else _) _ _
   rw[if_pos (Nat.le_refl _)]
   exact wpS_pure ⟨rfl,D⟩
 ·intro c t hI
  rw[if_neg (by omega)] at hI
  exact hI
 ·rw[if_pos rfl];exact⟨rfl,B⟩
 ·intro c t hI
  obtain⟨rfl,D1,D2,D3,D4⟩:=hI
  refine wpS_bind (wpS_mono (wpS_forRange (I:=λ_ c u=>u=t/\c=(none,())) (Q:=λc u=>u=t/\c=(none,())) ?_ (λ_ _ h=>h) ⟨rfl,rfl⟩) ?_)
  ·intro x c u _ _ hI
   obtain⟨rfl,rfl⟩:=hI
   refine wpS_bind (wpS_get ?_)
   rw[if_pos (by rw[D3];exact Nat.le_refl 1)]
   exact wpS_pure ⟨rfl,rfl⟩
  ·intro c u hI
   obtain⟨rfl,rfl⟩:=hI
   exact wpS_pure (q _ D1 D2 D4)
end
section
variable {α β γ:Type}
theorem Gx {f:α->β}{l' k:List β}(h:l'.Perm k):∀{l:List α},k=l.map f->∃m:List α,m.Perm l/\m.map f=l':=by
 induction h with
 |nil=>intro l e;cases l with
  |nil=>exact⟨[], .nil,rfl⟩
  |cons a l=>cases e
 |cons x _ ih=>intro l e;cases l with
  |nil=>cases e
  |cons a l=>
   injection e with e1 e2
   obtain⟨m,hm,em⟩:=ih e2
   exact⟨a::m,hm.cons a,by rw[List.map_cons,em,e1]⟩
 |swap x y t=>intro l e;cases l with
  |nil=>cases e
  |cons a l=>cases l with
   |nil=>cases e
   |cons b l=>
    injection e with e1 e2
    injection e2 with e2 e3
    exact⟨b::a::l, .swap ..,by rw[List.map_cons,List.map_cons,e1,e2,e3]⟩
 |trans _ _ ih1 ih2=>
  intro l e
  obtain⟨m2,h2,e2⟩:=ih2 e
  obtain⟨m1,h1,e1⟩:=ih1 e2.symm
  exact⟨m1,h1.trans h2,e1⟩
structure OrdT (lt:α->α->Bool):Prop extends Ord lt where
 tot:∀{a b},a≠b->lt a b=true∨lt b a=true
theorem Lf:OrdT ltI:=⟨⟨λa=>by simp[ltI],λh1 h2=>by simp only[ltI,decide_eq_true_eq] at*;omega⟩,λh=>by simp only[ltI,decide_eq_true_eq];omega⟩
section
variable [DecidableEq α]{lt:α->α->Bool}
theorem LP (O:OrdT lt):∀{a b c:List α},ltG lt a b=true->ltG lt b c=true->ltG lt a c=true
 |_,[],_,h,_=>by rw[KM] at h;cases h
 |_,_::_,[],_,h=>by rw[KM] at h;cases h
 | [],_::_,_::_,_,_=>rfl
 |a::as,b::bs,c::cs,h1,h2=>by
  rw[ltG] at h1 h2⊢
  by_cases e1:a=b
  ·rw[if_pos e1] at h1
   by_cases e2:b=c
   ·rw[if_pos e2] at h2
    rw[if_pos (e1.trans e2)]
    exact LP O h1 h2
   ·rw[if_neg e2] at h2
    rw[if_neg (by rw[e1];exact e2),e1];exact h2
  ·rw[if_neg e1] at h1
   by_cases e2:b=c
   ·rw[if_neg (by rw[←e2];exact e1), ←e2];exact h1
   ·rw[if_neg e2] at h2
    have h3:=O.tr h1 h2
    rw[if_neg (λe=>by rw[e,O.irr] at h3;cases h3)]
    exact h3
theorem HH:∀(a:List α),ltG lt a a=false
 | []=>rfl
 |a::as=>by rw[ltG,if_pos rfl];exact HH as
theorem HM (O:OrdT lt):∀{a b:List α},a≠b->ltG lt a b=true∨ltG lt b a=true
 | [],[],h=>absurd rfl h
 | [],_::_,_=>.inl rfl
 |_::_,[],_=>.inr rfl
 |a::as,b::bs,h=>by
  rw[ltG,ltG]
  by_cases e:a=b
  ·subst e
   rw[if_pos rfl,if_pos rfl]
   exact HM O λz=>h (by rw[z])
  ·rw[if_neg e,if_neg (Ne.symm e)];exact O.tot e
theorem Fh (O:OrdT lt):OrdT (ltG lt):=⟨⟨HH,LP O⟩,HM O⟩
end
noncomputable def ON (lt:α->α->Bool)(a:α):List α->List α
 | []=>[a]
 |b::l=>if lt a b=true then a::b::l else b::ON lt a l
noncomputable def GY (lt:α->α->Bool)(l:List α):List α:=l.foldr (ON lt) []
theorem UE (lt:α->α->Bool)(a:α):∀l,(ON lt a l).Perm (a::l)
 | []=>.refl _
 |b::l=>by
  rw[ON]
  split
  ·exact .refl _
  ·exact((UE lt a l).cons b).trans (.swap ..)
theorem Jw (lt:α->α->Bool):∀l:List α,(GY lt l).Perm l
 | []=>.refl _
 |a::l=>(UE lt a _).trans ((Jw lt l).cons a)
theorem GC {lt:α->α->Bool}(O:OrdT lt){a:α}:∀{l:List α},(∀b∈l,a≠b)->l.Pairwise (λx y=>lt x y=true)->(ON lt a l).Pairwise λx y=>lt x y=true
 | [],_,_=>List.pairwise_singleton ..
 |b::l,hn,h=>by
  rw[List.pairwise_cons] at h
  rw[ON]
  split
  ·rename_i hab
   refine List.pairwise_cons.mpr ⟨λc hc=>?_,List.pairwise_cons.mpr h⟩
   rcases List.mem_cons.mp hc with z |z
   ·rw[z];exact hab
   ·exact O.tr hab (h.1 c z)
  ·rename_i hab
   refine List.pairwise_cons.mpr ⟨λc hc=>?_,GC O (λc hc=>hn c (List.mem_cons_of_mem _ hc)) h.2⟩
   rcases List.mem_cons.mp ((UE lt a l).mem_iff.mp hc) with z |z
   ·rw[z];exact(O.tot (hn b List.mem_cons_self)).resolve_left hab
   ·exact h.1 c z
theorem UX {lt:α->α->Bool}(O:OrdT lt):∀{l:List α},l.Nodup->(GY lt l).Pairwise λx y=>lt x y=true
 | [],_=>.nil
 |a::l,h=>by
  rw[List.nodup_cons] at h
  exact GC O (λb hb e=>h.1 ((Jw lt l).mem_iff.mp (e▸hb))) (UX O h.2)
theorem IS {lt:α->α->Bool}(O:OrdT lt){a b:List α}(hn:b.Nodup)(h:a.Perm b)(r:a.Pairwise λx y=>lt x y=true):a=GY lt b:=
 List.Perm.eq_of_pairwise (le:=λx y=>lt x y=true) (λx y _ _ h1 h2=>by have:=O.tr h1 h2;rw[O.irr] at this;cases this) r (UX O hn) (h.trans (Jw lt b).symm)
end
section
variable {prog:Program}{w:World}{A:Around}{E:Value->Shared->Prop}{s:Shared}{α:Type}
theorem UB {β:Type}{f:Value->Sem β}{c:β}:∀{vs:List Value}{Q:List β->Shared->Prop},(∀v∈vs,∀Q:β->Shared->Prop,Q c s->wpAny (model prog w) A (f v) Q E s)->Q (vs.map λ_=>c) s->wpAny (model prog w) A (vs.mapM f) Q E s
 | [],Q,_,q=>by rw[List.mapM_nil];exact wpAny_pure q
 |v::vs,Q,h,q=>by
  rw[List.mapM_cons]
  refine wpAny_bind (h v List.mem_cons_self _ (wpAny_bind (UB (λu hu=>h u (List.mem_cons_of_mem _ hu)) (wpAny_pure q))))
theorem Bk {vs:List Value}{Q:SortKind->Shared->Prop}(hT:∀v∈vs,s.TypeIs v "list")(hne:vs≠ [])(q:Q oneType' s):wpAny (model prog w) A (keyKind' vs.toArray) Q E s:=by
 obtain⟨v0,vr,rfl⟩:=List.exists_cons_of_ne_nil hne
 rw[keyKind'_eq,List.mapM_toArray]
 refine wpAny_bind (wpAny_map (UB (c:=(none:Option Value)) (λv hv Q q=>?_) ?_))
 ·show wpAny _ _ (typeOf v >>= λt=>if(t != .type "tuple")=true then pure none else _) _ _ _
  refine wpAny_bind (wpAny_typeOf (hT v hv) ?_)
  rw[if_pos (by decide)]
  exact wpAny_pure q
 ·rw[if_neg (by simp),if_neg (by simp),oneTypeOnly'_eq,List.mapM_toArray]
  refine wpAny_bind (wpAny_bind (wpAny_map (UB (c:=Value.type "list") (λv hv Q q=>wpAny_typeOf (hT v hv) q) ?_)))
  rw[show((List.map (λ_=>Value.type "list") (v0::vr)).toArray)[0]?=some (Value.type "list") by simp]
  have hall:((List.map (λ_=>Value.type "list") (v0::vr)).toArray.all λx=>x==Value.type "list")=true:=by
   simp only[List.all_toArray,List.all_map,List.all_eq_true]
   intro _ _
   rfl
  simp only[hall,if_true]
  exact wpAny_pure (wpAny_pure q)
noncomputable def mid (h:Heap)(a:Addr)(vs:List Value):Heap:=((h.update a (Obj.mapSeq λ_=>#[])).push (seqObj "tuple" vs.toArray 0)).push (seqObj "list" #[] 0)
theorem Oq {h:Heap}{a b:Addr}{vs:List Value}{o:Obj}(hne:b≠a)(hb:h.get? b=some o):(mid h a vs).get? b=some o:=by
 have hlt:=Heap.lt_size hb
 unfold mid
 rw[Heap.get?_push_ne _ _ _ (by rw[size_push',Heap.size_update];exact Nat.ne_of_lt (Nat.lt_succ_of_lt hlt)),Heap.get?_push_ne _ _ _ (by rw[Heap.size_update];exact Nat.ne_of_lt hlt),Heap.get?_update_ne _ _ _ _ hne]
 exact hb
theorem Nq {κ:SortKind}{lt:α->α->Bool}{kf:Value->α}{d:α}{a:Addr}{vs:List Value}{n:Nat}{Q:Fin->Shared->Prop}(ho:s.heap.get? a=some (seqObj "list" vs.toArray n))(h64:vs.length<64)
  (hk:2<=vs.length->∀{Q:SortKind->Shared->Prop},Q κ {s with heap:=mid s.heap a vs}->wpAny (model prog w) A (keyKind' vs.toArray) Q E {s with heap:=mid s.heap a vs})(L:Asks prog w A E {s with heap:=mid s.heap a vs} κ lt kf d (pairsOf vs))
  (q:∀out:Array Keyed,out.Perm (pairsOf vs)->Ris lt (kp kf d out) vs.length->Q (.done (.ret .none)) {s with heap:=sortedHeap s.heap a vs (out.map (·.2))}):
  wpAny (model prog w) A (Builtin.«list.sort» ⟨[.ref a],[]⟩) Q E s:=by
 rw[list_sort_plain]
 have hlt:=Heap.lt_size ho
 obtain⟨e1,ho1⟩:∃e,(s.heap.update a (Obj.mapSeq λ_=>#[])).get? a=some (seqObj "list" #[] e):=⟨_,get?_update_seq ho λ_=>#[]⟩
 have ho2:(mid s.heap a vs).get? a=some (seqObj "list" #[] e1):=by
  unfold mid
  rw[Heap.get?_push_ne _ _ _ (by rw[size_push',Heap.size_update];exact Nat.ne_of_lt (Nat.lt_succ_of_lt hlt)),Heap.get?_push_ne _ _ _ (by rw[Heap.size_update];exact Nat.ne_of_lt hlt)]
  exact ho1
 refine wpAny_bind (listItems_at ho rfl (wpAny_bind (listUpdate_at ho rfl (wpAny_bind (seqEpoch_at ho1 rfl (wpAny_bind (wpAny_newTuple (wpAny_bind (wpAny_newList (wpAny_holding ?_))))))))))
 show wpAny (model prog w) A _ Q E {s with heap:=mid s.heap a vs}
 have tail:∀(st:SortSt),(arrOf st).Perm (pairsOf vs)->failedOf st=none->Ris lt (kp kf d (arrOf st)) vs.length->wpAny (model prog w) A (do
   let touched:=(←seqEpoch a) !=e1
   Builtin.List.listUpdate (.ref a) λ_=>(arrOf st).map (·.2)
   if let some e:=failedOf st then rule "list.sort.comparison-raised";throw e
   if touched then rule "list.sort.modified";raiseError "ValueError" "list modified during sort"
   ret .none) Q E {s with heap:=mid s.heap a vs}:=λst hp hf hr=>by
  refine wpAny_bind (seqEpoch_at ho2 rfl (wpAny_bind (listUpdate_at ho2 rfl ?_ (hsz2:=?_))))
  ·rw[hf]
   simp only[bne_self_eq_false,Bool.false_eq_true,if_false]
   exact wpAny_pure (q (arrOf st) hp hr)
  ·have:=hp.size_eq
   rw[pairsOf_size] at this
   rw[Array.size_map,this,sizeLine_eq];omega
 have hsz:vs.toArray.size=vs.length:=List.size_toArray
 by_cases h2:vs.toArray.size<2
 ·rw[if_pos h2,if_pos h2]
  refine wpAny_bind (wpAny_pure ?_)
  show wpAny _ _ ((pure ():StateT SortSt Sem Unit).run (SortSt.mk' general' (vs.toArray.zip vs.toArray) #[] 7 none) >>= _) _ _ _
  rw[StateT.run_pure]
  exact wpAny_bind (wpAny_pure (tail (SortSt.mk' general' (vs.toArray.zip vs.toArray) #[] 7 none) (Array.Perm.refl _) rfl λi j hij hj=>by omega))
 ·rw[if_neg h2,if_neg h2]
  refine wpAny_bind (hk (by rw[←hsz];omega) ?_)
  refine wpAny_bind (wpAny_mono (M2 L (st:=SortSt.mk' κ (vs.toArray.zip vs.toArray) #[] 7 none) (Q:=λ_ st=>(arrOf st).Perm (pairsOf vs)/\failedOf st=none/\Ris lt (kp kf d (arrOf st)) vs.length) ⟨Array.Perm.refl _,rfl,rfl,rfl⟩ (by rw[pairsOf_size];omega) (by rw[pairsOf_size];exact h64) λt a1 a2 a3=>⟨a1,a2,by rw[pairsOf_size] at a3;exact a3⟩) ?_ λ_ _ e=>e)
  intro p s' hh
  obtain⟨⟨⟩,st⟩:=p
  obtain⟨rfl,hp,hf,hr⟩:=hh
  exact tail st hp hf hr
end
section
variable {X:Cx}{β:Type}[DecidableEq β]{r:Enc β}{lt:β->β->Bool}{d:Nat}
noncomputable def LN (K:PySem.W.Frag)(r:Enc β)(lt:β->β->Bool):List V->Hp->VK->Prop:=λxs H Q=>∃ l ys as,xs=[.ref l]/\SqL K H l ys/\Paired (rL r K H) ys as/\as.Nodup/\as.length<64/\
 ∀p zs,H p=none->(zs.zip (GY (ltG lt) as)).Perm (ys.zip as)->zs.length=as.length->Q (.ref p) (upd H p (.lst zs))
open Classical in
noncomputable def kfo (T:List (Value×V×List β))(v:Value):List β:=if h:∃t,t∈T/\t.1=v then(Classical.choose h).2.2 else[]
theorem Ih {T:List (Value×V×List β)}(hu:∀t u,t∈T->u∈T->t.1=u.1->t.2.2=u.2.2){t:Value×V×List β}(ht:t∈T):kfo T t.1=t.2.2:=by
 have h:∃u,u∈T/\u.1=t.1:=⟨t,ht,rfl⟩
 unfold kfo
 rw[dif_pos h]
 exact hu _ _ (Classical.choose_spec h).1 ht (Classical.choose_spec h).2
theorem Pw {F:Value->V->List β->Prop}:∀{its:List Value}{ys:List V}{as:List (List β)}{G:V->List β->Prop},Paired X9 ys its->Paired G ys as->(∀v y a,X9 y v->G y a->F v y a)->∃T:List (Value×V×List β),T.map (·.1)=its/\T.map (λt=>(t.2.1,t.2.2))=ys.zip as/\T.map (·.2.2)=as/\∀t∈T,F t.1 t.2.1 t.2.2
 |_,_,_,_, .nil, .nil,_=>⟨[],rfl,rfl,rfl,λt h=>nomatch h⟩
 |_,_,_,_, .cons r1 p1, .cons r2 p2,h=>by
  obtain⟨T,e1,e2,e3,hT⟩:=Pw p1 p2 h
  exact⟨(_,_,_)::T,by rw[List.map_cons,e1],by rw[List.map_cons,e2];rfl,by rw[List.map_cons,e3],λt ht=>(List.mem_cons.mp ht).elim (λz=>z▸h _ _ _ r1 r2) (hT t)⟩
theorem Ux (E:EqOk r d)(L:LtOk r lt d)(O:OrdT lt)(K:PySem.W.Frag)(hK:X.K=K)(hu:X.A.units+(d+3)<cLine):Va X (.builtin "sorted") (LN K r lt):=by
 subst hK
 intro pins s σ H xs us Q I rr h
 obtain⟨l,ys,as,rfl,hq,hp,hnd,h64,q⟩:=h
 obtain⟨u,rfl,ru⟩:=Dj rr
 cases ru
 obtain⟨its,rv,pl,hz⟩:=I.list hq
 obtain⟨T,e1,e2,e3,hT⟩:=Pw (F:=λv y a=>X9 y v/\rL r X.K H y a) rv hp λv y a h1 h2=>⟨h1,h2⟩
 have hlen:its.length=as.length:=by rw[←e1, ←e3,List.length_map,List.length_map]
 have huq:∀t u,t∈T->u∈T->t.1=u.1->t.2.2=u.2.2:=λt u ht hu' e=>by
  obtain⟨r1,l1⟩:=hT t ht
  obtain⟨r2,l2⟩:=hT u hu'
  obtain⟨b1,z1,w1,m1⟩:=id l1
  obtain⟨b2,z2,w2,m2⟩:=id l2
  rw[w1] at r1 l1
  rw[w2] at r2 l2
  have r1':t.1= .ref b1:=r1
  have r2':u.1= .ref b2:=r2
  rw[r1',r2'] at e
  cases e
  exact(Hd E).uniq I l1 l2
 refine Calls.call_function_entry kind_sorted plain_sorted entry_sorted (args_sorted1 _) ?_
 unfold Builtin.«sorted»
 refine wpAny_bind (m:=checkCount "sorted" 1 1 _) (wpAny_pure (wpAny_bind (collect_list pl.isList (wpAny_bind (wpAny_newList ?_)) (by rw[hlen,sizeLine_eq];omega))))
 let g0:=((s.heap.push (seqObj "list" #[] 0)).update s.heap.objs.size (Obj.mapSeq (· ++its.toArray))).push (seqObj "list" its.toArray 0)
 have hsz:((s.heap.push (seqObj "list" #[] 0)).update s.heap.objs.size (Obj.mapSeq (· ++its.toArray))).objs.size=s.heap.objs.size+1:=by rw[Heap.size_update,size_push']
 have hoL:g0.get? (s.heap.objs.size+1)=some (seqObj "list" its.toArray 0):=by
  show(Heap.push _ _).get? _=_
  rw[←hsz];exact Heap.get?_push_size _ rfl
 have hold:∀b o,s.heap.get? b=some o->g0.get? b=some o:=λb o hb=>by
  have hlt:=Heap.lt_size hb
  show(Heap.push _ _).get? _=_
  rw[Heap.get?_push_ne _ _ _ (by rw[hsz];exact Nat.ne_of_lt (Nat.lt_succ_of_lt hlt)),Heap.get?_update_ne _ _ _ _ (Nat.ne_of_lt hlt),Heap.get?_push_ne _ _ _ (Nat.ne_of_lt hlt)]
  exact hb
 show wpAny _ _ _ _ _ {s with heap:=g0}
 rw[hsz]
 have hne:∀{b o},s.heap.get? b=some o->b≠s.heap.objs.size+1:=λhb=>Nat.ne_of_lt (Nat.lt_succ_of_lt (Heap.lt_size hb))
 have I2:Inv X pins σ H {s with heap:=mid g0 (s.heap.objs.size+1) its,toks:=s.toks}:=I.kept λb o hb=>Oq (hne hb) (hold b o hb)
 have hitm:∀v,v∈its->∃t,t∈T/\t.1=v:=λv hv=>by rw[←e1] at hv;exact List.mem_map.mp hv
 have htyp:∀v∈its,({s with heap:=mid g0 (s.heap.objs.size+1) its}:Shared).TypeIs v "list":=λv hv=>by
  obtain⟨t,ht,rfl⟩:=hitm v hv
  obtain⟨r1,a,zs,w1,m1,_⟩:=hT t ht
  rw[w1] at r1
  have r1':t.1= .ref a:=r1
  obtain⟨its',_,⟨o,n,g1,c1,_,_⟩,_⟩:=I2.list m1
  rw[r1']
  exact⟨o,g1,c1⟩
 have key:∀{st:SortSt}{i:Nat},SB oneType' (pairsOf its) st->i<(pairsOf its).size->∃t p,t∈T/\(arrOf st)[i]?=some (t.1,p)/\kp (kfo T) [] (arrOf st) i=t.2.2:=fun {st i} B hi=>by
  have hi':i<(arrOf st).size:=by rw[B.size];exact hi
  have hm:(arrOf st)[i]∈(pairsOf its).toList:=(Array.perm_iff_toList_perm.mp B.perm).mem_iff.mp (by simp)
  rw[pairsOf_toList] at hm
  obtain⟨t,ht,e⟩:=hitm _ (mem_zip_self hm).2
  have eg:(arrOf st)[i]?=some (arrOf st)[i]:=getElem?_pos _ i hi'
  refine⟨t,(arrOf st)[i].2,ht,by rw[eg,e],?_⟩
  unfold kp
  rw[eg,Option.map_some,Option.getD_some, ←e]
  exact Ih huq ht
 have keys:∀{st:SortSt},SB oneType' (pairsOf its) st->((arrOf st).toList.map λp=>kfo T p.1).Perm as:=fun {st} B=>by
  have h1:(arrOf st).toList.Perm (its.zip its):=by rw[←pairsOf_toList];exact Array.perm_iff_toList_perm.mp B.perm
  have h2:=h1.map λp=>kfo T p.1
  have h3:(its.zip its).map (λp=>kfo T p.1)=as:=by
   have:(its.zip its).map (λp=>kfo T p.1)=((its.zip its).map Prod.fst).map (kfo T):=by rw[List.map_map];rfl
   rw[this,List.map_fst_zip (Nat.le_refl _), ←e1, ←e3,List.map_map]
   exact List.map_congr_left λt ht=>Ih huq ht
  rwa [h3] at h2
 have kat:∀{st:SortSt}{i:Nat} (hi:i<(arrOf st).size),kp (kfo T) [] (arrOf st) i=((arrOf st).toList.map λp=>kfo T p.1)[i]'(by simpa using hi):=fun {st i} hi=>by
  unfold kp
  rw[getElem?_pos (arrOf st) i hi]
  simp
 have OL:=Fh O
 have LK:∀(A:Around) (Er:Value->Shared->Prop),A.units+(d+1)<cLine->Asks X.prog X.w A Er {s with heap:=mid g0 (s.heap.objs.size+1) its} oneType' (ltG lt) (kfo T) [] (pairsOf its):=λA Er hA=>{
  irr:=OL.irr
  tr:=OL.tr
  ask:=fun {st i j Q} B hi hj qq=>by
   obtain⟨t,p,ht,et,kt⟩:=key B hi
   obtain⟨t',p',ht',et',kt'⟩:=key B hj
   rw[kt,kt'] at qq
   rw[ltAt'_eq]
   refine wpS_bind (wpS_get ?_)
   show wpS _ _ _ _ (elem' (arrOf st) i >>= λx=>elem' (arrOf st) j >>= λy=>lt' x y) Q st
   rw[elem'_eq,elem'_eq,et,et']
   refine wpS_bind (wpS_pure (wpS_bind (wpS_pure ?_)))
   rw[lt'_eq]
   refine wpS_bind (wpS_get ?_)
   rw[B.kind,keyLt'_oneType]
   refine wpS_bind (wpS_lift (wpAny_attempt ?_))
   rw[oneLt'_eq]
   simp only[if_true]
   obtain⟨r1,l1⟩:=hT t ht
   obtain⟨r2,l2⟩:=hT t' ht'
   obtain⟨b1,b2,o1,o2,v1,v2,g1,c1,g2,c2,hcall⟩:=Ig E L I2 (prog:=X.prog) (w:=X.w) (A:=A) (Er:=λe s'=>s'=({s with heap:=mid g0 (s.heap.objs.size+1) its}:Shared)/\wpS (model X.prog X.w) A Er {s with heap:=mid g0 (s.heap.objs.size+1) its} _ Q st) r1 r2 l1 l2 hA (Q:=λv s'=>v= .bool (ltG lt t.2.2 t'.2.2)/\s'=_) ⟨rfl,rfl⟩
   rw[v1,v2]
   refine wpAny_bind (wpAny_cRoomFor (by omega) (wpAny_bind (wpAny_callSpecialIfBound?_slot ⟨_,g1,c1⟩ F.slot_list_lt (thn hcall λv s' ⟨ev,es⟩=>?_))))
   subst ev es
   exact wpAny_truthy_bool ⟨rfl,wpS_pure qq⟩
  two:=fun {st i j} B hi hj hne=>by
   have hi':i<(arrOf st).size:=by rw[B.size];exact hi
   have hj':j<(arrOf st).size:=by rw[B.size];exact hj
   rw[kat hi',kat hj']
   refine OL.tot λe=>hne ?_
   have hN:=(keys B).nodup_iff.mpr hnd
   have hP:=List.pairwise_iff_getElem.mp hN
   rcases Nat.lt_trichotomy i j with z |z |z
   ·exact absurd e (hP i j (by simpa using hi') (by simpa using hj') z)
   ·exact z
   ·exact absurd e.symm (hP j i (by simpa using hj') (by simpa using hi') z)}
 refine wpAny_bind (wpAny_holding (wpAny_call_entry slot_list_sort ⟨_,hoL,rfl⟩ entry_list_sort (Nq hoL (by omega) (λh2 _ hq=>Bk htyp (λe=>by rw[e] at h2;exact absurd h2 (by decide)) hq) (LK _ _ (by rw[ZI,ZI];omega)) λout hp hr=>⟨_,rfl,wpAny_pure ⟨_,rfl,?_⟩⟩) (args_list_sort _)))
 have hpl:out.toList.Perm (its.zip its):=by rw[←pairsOf_toList];exact Array.perm_iff_toList_perm.mp hp
 have hself:∀p∈out.toList,p.1=p.2:=λp hp'=>(mem_zip_self (hpl.mem_iff.mp hp')).1
 have hfst:out.toList.map (·.1)=(out.map (·.2)).toList:=by
  rw[Array.toList_map];exact List.map_congr_left λp hp'=>hself p hp'
 have hperm:((out.map (·.2)).toList).Perm its:=by
  have:=hpl.map Prod.fst
  rw[List.map_fst_zip (Nat.le_refl _)] at this
  rw[←hfst];exact this
 obtain⟨T',hT',eT'⟩:=Gx hperm (l:=T) (f:=(·.1)) e1.symm
 have hk2:T'.map (·.2.2)=out.toList.map λp=>kfo T p.1:=by
  have h1:T'.map (·.2.2)=(T'.map (·.1)).map (kfo T):=by
   rw[List.map_map];exact List.map_congr_left λt ht=>(Ih huq (hT'.mem_iff.mp ht)).symm
  rw[h1,eT', ←hfst,List.map_map];rfl
 have hol:out.size=its.length:=by have:=hp.size_eq;rwa [pairsOf_size] at this
 have hsort:T'.map (·.2.2)=GY (ltG lt) as:=by
  refine IS OL hnd (by rw[←e3];exact hT'.map _) ?_
  rw[hk2,List.pairwise_iff_getElem]
  intro i j hi hj hij
  have hi':i<out.size:=by simpa using hi
  have hj':j<out.size:=by simpa using hj
  have:=hr i j hij (by omega)
  unfold kp at this
  rw[getElem?_pos out i hi',getElem?_pos out j hj'] at this
  simpa using this
 have vv:∀{U:List (Value×V×List β)},(∀t∈U,X9 t.2.1 t.1)->X5 (U.map (·.2.1)) (U.map (·.1)):=fun {U}=>by
  induction U with
  |nil=>intro _;exact .nil
  |cons t U ih=>intro h;exact .cons (h t List.mem_cons_self) (ih λu hu'=>h u (List.mem_cons_of_mem _ hu'))
 obtain⟨e,he⟩:=sortedAll_at s.heap its (out.map (·.2))
 have hfr:H (s.heap.objs.size+1)=none:=I.hok.fresh (Nat.le_succ _)
 have hvv:X5 (T'.map (·.2.1)) (out.map (·.2)).toList:=by rw[←eT'];exact vv λt ht=>(hT t (hT'.mem_iff.mp ht)).1
 have hzl:(T'.map (·.2.1)).length=as.length:=by rw[List.length_map,hT'.length_eq, ←e3,List.length_map]
 refine⟨.ref (s.heap.objs.size+1),_,I.laid (t':=s.toks) (λb o e=>sortedAll_old e) (Nat.le_succ _) (show ZA X.prog X.w _ _ _ (.lst (T'.map (·.2.1))) from⟨?_,(Array.map (λp:Keyed=>p.2) out).toList,e,hvv,he⟩),rfl,q _ _ hfr ?_ hzl⟩
 ·rw[hzl,sizeLine_eq];omega
 ·rw[←hsort, ←e2]
  have:(T'.map (·.2.1)).zip (T'.map (·.2.2))=T'.map λt=>(t.2.1,t.2.2):=by
   rw[List.zip_map']
  rw[this]
  exact hT'.map _
end
section
variable {X:Cx}{α:Type}
end
section
variable {K:PySem.W.Frag}{Er:Exc->Hp->Prop}{S:SC}{OO OO':List (List Xo)}{σ:St}{α β γ δ:Type}
theorem P3.tri {F:α->β->γ->Prop}:∀{l m n},P3 F l m n->∃T:List (α×β×γ),T.map (·.1)=l/\T.map (·.2.1)=m/\T.map (·.2.2)=n/\∀t∈T,F t.1 t.2.1 t.2.2:=λp=>by
 induction p with
 |nil=>exact⟨[],rfl,rfl,rfl,λt h=>nomatch h⟩
 |cons r _ ih=>
  obtain⟨T,e1,e2,e3,h⟩:=ih
  exact⟨(_,_,_)::T,by rw[List.map_cons,e1],by rw[List.map_cons,e2],by rw[List.map_cons,e3],λt ht=>(List.mem_cons.mp ht).elim (λz=>z▸r) (h t)⟩
theorem P3.oft {F:α->β->γ->Prop}:∀{T:List (α×β×γ)},(∀t∈T,F t.1 t.2.1 t.2.2)->P3 F (T.map (·.1)) (T.map (·.2.1)) (T.map (·.2.2)):=fun {T}=>by
 induction T with
 |nil=>intro _;exact .nil
 |cons t T ih=>intro h;exact .cons (h t List.mem_cons_self) (ih λu hu=>h u (List.mem_cons_of_mem _ hu))
theorem M7 {a a':List α}{b b':List β}(h:a.zip b=a'.zip b')(h1:a.length=b.length)(h2:a'.length=b'.length):a=a'/\b=b':=by
 have e1:=congrArg (List.map Prod.fst) h
 have e2:=congrArg (List.map Prod.snd) h
 rw[List.map_fst_zip (by omega),List.map_fst_zip (by omega)] at e1
 rw[List.map_snd_zip (by omega),List.map_snd_zip (by omega)] at e2
 exact⟨e1,e2⟩
theorem P3.perm {F:α->β->γ->Prop}{l zs:List α}{m bs:List β}{n:List γ}(p:P3 F l m n)(h:(zs.zip bs).Perm (l.zip m))(hl:zs.length=bs.length):∃n',P3 F zs bs n'/\n'.Perm n:=by
 obtain⟨T,e1,e2,e3,hT⟩:=p.tri
 have ez:T.map (λt=>(t.1,t.2.1))=l.zip m:=by rw[←e1, ←e2,List.zip_map']
 obtain⟨T',hp,e⟩:=Gx h ez.symm
 have:(T'.map (·.1)).zip (T'.map (·.2.1))=zs.zip bs:=by rw[List.zip_map'];exact e
 obtain⟨f1,f2⟩:=M7 this (by simp) hl
 refine⟨T'.map (·.2.2),?_,by rw[←e3];exact hp.map _⟩
 rw[←f1, ←f2]
 exact P3.oft λt ht=>hT t (hp.mem_iff.mp ht)
theorem Ls [DecidableEq β]{r:Enc β}{lt:β->β->Bool}{o:OE (List β)}[z:MonoO o][zf:FrzC o (rV r)]{te:TE}{m:Rs (List (List β))}(he:Ev K Er S OO OO' σ te (oL o) m):
  Ev K Er S OO OO' σ (tCB (LN K r lt) (Xn te YF)) (oL o) (m.bind λas=>chk (as.length<64/\as.Nodup) (.ok (GY (ltG lt) as))):=λH Q w s P=>by
 refine he H _ w s ?_
 cases m with
 |bad=>exact P
 |err x=>exact P
 |ok as=>
  intro v C H1 s1 w1 m1 ⟨p,xs,Cs,e,q,c⟩
  subst c
  obtain⟨⟨h64,hnd⟩,P⟩:=PZ.chk (show PZ Er (FO K OO OO' (oL o) Q) H (chk (as.length<64/\as.Nodup) (.ok (GY (ltG lt) as))) from P)
  have hH:H1 p=some (.lst xs):=w1.cell (p, .lst xs) List.mem_cons_self
  refine⟨p,xs,as,by rw[e],SqL.of hH,?_,hnd,h64,λp2 zs hp2 hpm hlen=>?_⟩
  ·refine q.pair λa b c hc ho=>PD (zf.frz ho Xu λx hx=>w1.cell x (List.mem_cons_of_mem _ (List.mem_flatten.mpr ⟨c,hc,hx⟩)))
  ·have hsl:(GY (ltG lt) as).length=as.length:=(Jw _ as).length_eq
   obtain⟨Cs',q',hCs⟩:=q.perm hpm (by rw[hsl];exact hlen)
   have w2:W (Cs'.flatten::OO') H1:=w1.sub (OO':=Cs.flatten::OO') (by simp) |>.of (by simp only[List.flatten_cons];exact hCs.flatten.append_right _)
   have w3:=w2.new hp2 (o:=.lst zs) rfl
   have w4:W (((p2, .lst zs)::Cs'.flatten)::OO') (upd H1 p2 (.lst zs)):=w3.of (by simp)
   have mm:Xp (hid H1 (((p,HO.lst xs)::Cs.flatten)::OO')) (hid (upd H1 p2 (.lst zs)) (((p2,HO.lst zs)::Cs'.flatten)::OO')):=λb ob hb=>by
    obtain⟨b1,b2⟩:=XZ hb
    have hne:b≠p2:=XU b1 hp2
    refine Y3 (by rw[XF hne];exact b1) λhz=>b2 ?_
    rw[XE,List.map_cons] at hz⊢
    rcases List.mem_cons.mp hz with y |y
    ·exact absurd y hne
    ·refine List.mem_cons_of_mem _ ?_
     rcases List.mem_append.mp y with y |y
     ·exact List.mem_append_left _ ((hCs.flatten.map _).mem_iff.mp y)
     ·exact List.mem_append_right _ y
   exact P (.ref p2) _ _ (s1.trans (Xv hp2 _)) w4 (m1.trans mm) ⟨p2,zs,Cs',rfl,q'.imp λ_ _ _ h=>z.mono mm h,rfl⟩
theorem NK {o:OE α}{r:Enc α}[z:MonoO o][zf:FrzC o r][zr:MonoE r]{tt:TT}{c:α->Rs Bool}{v:V}{as:List α}{C:List Xo}{n:Nat}{caps:List (Nat×Str)}(i k:Nat)(hn:0<n)(hσ:σ[i]?=some (some v))(hk:OO[k]?=some C)(h:∀x,S.p x->oL o K x v as C)
  (hc:∀(D:List Xo) a u,EvT Er (S.add K r u a) (D::OO.set k []) ((Yb n caps σ).set 0 (some u)) tt (c a)):
  Ev K Er S OO (OO.set k []) σ (K3 n caps (Ff K (JQ i)) (YE 0) tt (JQ 0)) (oL o) ((Rs.ok as).bind λas=>O8 as c λa=>.ok a):=λH Q w s P=>by
 obtain⟨p,xs,Cs,e,q,cc⟩:=h _ s
 subst cc e
 obtain⟨hsz,P⟩:=PZ.chk (show PZ Er (FO K OO (OO.set k []) (oL o) Q) H (chk (as.length<=sizeLine) (UR as c λa=>.ok a)) from P)
 have pm:=XL hk
 have hH:H p=some (.lst xs):=w.tr (p, .lst xs) (List.mem_flatten.mpr ⟨_,List.mem_of_getElem? hk,List.mem_cons_self⟩)
 have hxl:=q.len.1
 have w1:W (((p, .lst xs)::Cs.flatten)::OO.set k []) H:=w.of pm
 have nd1:=w1.nd
 rw[XE] at nd1
 have hm0:∀{H2},Xp H H2->Xp (hid H OO) (hid H2 ([]::OO.set k [])):=fun {H2} s2=>by
  rw[Y6, ←XB pm]
  exact Zh s2 λb hb=>by rw[XE];exact List.mem_append_right _ hb
 refine⟨.ref p,hσ,p,rfl,⟨xs,SqL.of hH⟩,?_⟩
 refine Ek (xs:=xs) (λi ys H2=>∃ bs Ds,Xp H H2/\P3 (o K (hid H OO)) ys bs Ds/\Ds.flatten.Sublist (Cs.take i).flatten/\bs.length<=i/\i<=as.length/\PZ Er (FO K OO (OO.set k []) (oL o) Q) H ((UR (as.drop i) c λa=>.ok a).bind λZu=>.ok (bs++Zu))) ?_ ?_ ?_ ?_
 ·refine⟨[],[],Xp.refl _, .nil,by simp,Nat.le_refl _,Nat.zero_le _,?_⟩
  rw[List.drop_zero]
  revert P
  cases UR as c (λa=>Rs.ok a)<;> exact λz=>z
 ·rintro i ys H2 hi ⟨bs,Ds,s2,q2,_,hb,hi2,_⟩
  exact⟨SqL.of (s2 _ _ hH),by rw[q2.len.1];omega⟩
 ·rintro i x ys H2 hx ⟨bs,Ds,s2,q2,sb,hb,hi2,P2⟩
  have hlt:i<as.length:=by rw[←hxl];exact(List.getElem?_eq_some_iff.mp hx).1
  obtain⟨x',c0,hx',hc0,ho⟩:=P3.get q (show as[i]?=some as[i] by simp[hlt])
  rw[hx] at hx'
  cases hx'
  have hcl:=(List.getElem?_eq_some_iff.mp hc0)
  have hin:∀y∈c0,y∈Cs.flatten:=λy hy=>List.mem_flatten.mpr ⟨c0,List.mem_of_getElem? hc0,hy⟩
  have rx:r K (hid H2 ([]::OO.set k [])) x as[i]:=zf.frz ho (hm0 s2) λy hy=>by
   have hy1:=w1.cell y (List.mem_cons_of_mem _ (hin y hy))
   rw[Y6]
   refine Y3 (s2 _ _ hy1) λhz=>?_
   exact(List.nodup_append.mp nd1).2.2 y.1 (List.mem_map.mpr ⟨y,List.mem_cons_of_mem _ (hin y hy),rfl⟩) y.1 hz rfl
  rw[List.drop_eq_getElem_cons hlt] at P2
  have P3':PZ Er (FO K OO (OO.set k []) (oL o) Q) H ((c as[i]).bind λb=>(if b=true then(Rs.ok as[i]).bind λb=>(UR (as.drop (i+1)) c λa=>.ok a).bind λbs=>.ok (b::bs) else UR (as.drop (i+1)) c λa=>.ok a).bind λZu=>.ok (bs++Zu)):=by
   rw[←XH];exact P2
  refine hc [] as[i] x H2 _ ((w1.tail.keep s2).nil) ⟨S.mono _ _ (hm0 s2) s,rx⟩ ?_
  cases ec:c as[i] with
  |bad=>rw[ec] at P3';exact P3'
  |err ex=>rw[ec] at P3';exact λH4 s4=>P3' H4 (s2.trans s4)
  |ok b=>
   rw[ec] at P3'
   intro H4 s4
   have tk:(Cs.take (i+1)).flatten=(Cs.take i).flatten++c0:=by
    rw[List.take_succ_eq_append_getElem hcl.1,List.flatten_append,hcl.2];simp
   cases b with
   |false=>
    refine⟨bs,Ds,s2.trans s4,q2,sb.trans ?_,Nat.le_succ_of_le hb,hlt,P3'⟩
    rw[tk];exact List.sublist_append_left _ _
   |true=>
    rw[if_pos rfl]
    refine⟨x,?_,bs++[as[i]],Ds++[c0],s2.trans s4,q2.snoc ho,?_,by simp;omega,hlt,?_⟩
    ·unfold Yb
     rw[List.getElem?_set_self (by simp;omega)]
    ·rw[tk,List.flatten_append]
     exact sb.append (by simp)
    ·have:((UR (as.drop (i+1)) c λa=>Rs.ok a).bind λZu=>Rs.ok ((bs++[as[i]])++Zu))=((Rs.ok as[i]).bind λb=>(UR (as.drop (i+1)) c λa=>.ok a).bind λbs=>.ok (b::bs)).bind λZu=>.ok (bs++Zu):=by
      rw[XH,Rs.ok_bind,XH];congr 1;funext Zu;rw[Rs.ok_bind,List.append_assoc];rfl
     rw[this];exact P3'
 ·rintro ys H2 p2 ⟨bs,Ds,s2,q2,sb,hb,hi2,P2⟩ hp2
  rw[hxl,List.drop_length] at P2
  have P2:FO K OO (OO.set k []) (oL o) Q bs H:=by
   have e:((UR ([]:List α) c λa=>Rs.ok a).bind λZu=>Rs.ok (bs++Zu))= .ok bs:=by show Rs.ok (bs++[])=_;rw[List.append_nil]
   rw[e] at P2;exact P2
  have sb2:Ds.flatten.Sublist Cs.flatten:=sb.trans (by
   rw[List.take_of_length_le (by rw[hxl, ←q.len.2];exact Nat.le_refl _)]
   exact List.Sublist.refl _)
  have w2:W (Ds.flatten::OO.set k []) H2:=(w1.keep s2).sub (by
   simp only[List.flatten_cons,List.cons_append]
   exact(sb2.append_right _).trans (List.sublist_cons_self ..))
  have w3:=w2.new hp2 (o:=.lst ys) rfl
  have w4:W (((p2, .lst ys)::Ds.flatten)::OO.set k []) (upd H2 p2 (.lst ys)):=w3.of (by simp)
  have mm:Xp (hid H OO) (hid (upd H2 p2 (.lst ys)) (((p2,HO.lst ys)::Ds.flatten)::OO.set k [])):=λb ob hb=>by
   rw[←XB pm] at hb
   obtain⟨b1,b2⟩:=XZ hb
   have b3:=s2 _ _ b1
   have hne:b≠p2:=XU b3 hp2
   refine Y3 (by rw[XF hne];exact b3) λhz=>b2 ?_
   rw[XE,List.map_cons] at hz⊢
   rcases List.mem_cons.mp hz with y |y
   ·exact absurd y hne
   ·refine List.mem_cons_of_mem _ ?_
    rcases List.mem_append.mp y with y |y
    ·exact List.mem_append_left _ ((sb2.map _).mem y)
    ·exact List.mem_append_right _ y
  exact P2 (.ref p2) _ _ (s2.trans (Xv hp2 _)) w4 mm ⟨p2,ys,Ds,rfl,q2.imp λ_ _ _ hh=>z.mono mm hh,rfl⟩
end
section
variable {K:PySem.W.Frag}{Er:Exc->Hp->Prop}{S:SC}{OO OO':List (List Xo)}{σ:St}{α β:Type}{u:TS}{Fd:Ends->β->Hp->Prop}[fd:FdOk Fd]
theorem OX:LtOk (rV Xd) (ltG ltI) 1:=LtOk.imp (IT eq_int lt_int) PD
end
section
variable {K:PySem.W.Frag}{Er:Exc->Hp->Prop}{S:SC}{OO OO':List (List Xo)}{σ:St}{α1 α2 β ρ:Type}{u:TS}
noncomputable def RC (K:PySem.W.Frag)(o:OE ρ)(Cf:List Xo)(Q:VK)(b:ρ)(h:Hp):Prop:=∀ v C H',W [C++Cf] H'->Xp h (hid H' [C++Cf])->o K (hid H' [C++Cf]) v b C->Q v H'
noncomputable def Sc (K:PySem.W.Frag)(o:OE ρ)(k:Nat)(Cf:List Xo)(D:Ends)(b:ρ)(h:Hp):Prop:=∀ v C OO' H',OO'[k]?=some Cf->W (C::OO') H'->Xp h (hid H' (C::OO'))->o K (hid H' (C::OO')) v b C->D.rt v H'
instance {o:OE ρ}{k:Nat}{Cf:List Xo}:FdOk (Sc K o k Cf):=⟨λD b h h' s q v C O H' e w m x=>q v C O H' e w (s.trans m) x⟩
noncomputable def Sn (r1:Enc α1)(o:OE ρ)(f:α1->Rs ρ)(K:PySem.W.Frag):Sp:=λvs H Q _=>∃ v1 a1 b,vs=[v1]/\∃Cf,W [Cf] H/\r1 K (hid H [Cf]) v1 a1/\f a1= .ok b/\RC K o Cf Q b (hid H [Cf])
noncomputable def R7 (r1:Enc α1)(r2:Enc α2)(o:OE ρ)(f:α1->α2->Rs ρ)(K:PySem.W.Frag):Sp:=λvs H Q _=>∃ v1 v2 a1 a2 b,vs=[v1,v2]/\∃Cf,W [Cf] H/\r1 K (hid H [Cf]) v1 a1/\r2 K (hid H [Cf]) v2 a2/\f a1 a2= .ok b/\RC K o Cf Q b (hid H [Cf])
theorem Ci {te:TE}{o:OE ρ}{m:Rs ρ}{Cf:List Xo}(k:Nat)(hk:OO'[k]?=some Cf)(he:Ev K Er S OO OO' σ te o m):Sv Er S OO σ (Zv (RL te) u) (Sc K o k Cf) m:=λH D w s P=>
 he H _ w s (by
  cases m with
  |bad=>exact P
  |err x=>exact λH' s'=>P H' (Xu.trans s')
  |ok a=>exact λv C H' s' w' m' ho=>P v C OO' H' hk w' m' ho)
theorem Mk {o:OE ρ}[zo:MonoO o]{t:TS}{m:Rs ρ}{Q:VK}{b:ρ}{H:Hp}{D:Ends}{Cf:List Xo}(n:Nat)(h:Sv (λ_ _=>False) S (List.replicate n []++[Cf]) σ t (Sc K o n Cf) m)(w:W [Cf] H)(hs:S.p (hid H [Cf]))(hm:m= .ok b)(qf:RC K o Cf Q b (hid H [Cf]))(hD:D.rt=Q):t D σ H:=by
 have pe:(List.replicate n ([]:List Xo)++[Cf]).flatten.Perm [Cf].flatten:=by
  rw[List.flatten_append,Yo,List.nil_append]
 refine h H D (w.of pe) (by rw[XB pe];exact hs) ?_
 subst hm
 rw[XB pe]
 intro v C OO' H' hk w' m' ho
 rw[hD]
 have hp:=XL hk
 have wk:W (C::Cf::OO'.set n []) H':=w'.of (by rw[List.flatten_cons,List.flatten_cons (l:=C)];exact hp.append_left C)
 have eh:hid H' (C::OO')=hid H' (C::Cf::OO'.set n []):=(XB (by rw[List.flatten_cons,List.flatten_cons (l:=C)];exact hp.append_left C)).symm
 have hsub:Xp (hid H' (C::OO')) (hid H' [C++Cf]):=by
  rw[eh]
  exact Zh (Xp.refl _) λb hb=>by
   rw[XE,XE, ←List.append_assoc]
   refine List.mem_append_left _ ?_
   simpa[fl] using hb
 exact qf v C H' (wk.sub (by simp)) (m'.trans hsub) (zo.mono hsub ho)
theorem Pa {o:OE ρ}{Q:VK}{b:ρ}{H:Hp}(w:W OO H)(P:FO K OO OO o Q b H):RC K o OO.flatten Q b (hid H OO):=λv C H' w' m' ho=>by
 have e1:([C++OO.flatten]:List (List Xo)).flatten=(C::OO).flatten:=by simp
 have e2:hid H' [C++OO.flatten]=hid H' (C::OO):=by unfold hid fl;rw[e1]
 rw[e2] at m' ho
 have w2:W (C::OO) H':=w'.of (by rw[e1])
 refine P v C H' (λx ob hx=>?_) w2 m' ho
 by_cases hb:x∈fl OO
 ·obtain⟨oo,hoo⟩:=Bo hb
  have h1:=w.tr _ hoo
  rw[hx] at h1
  cases h1
  exact w2.tail.tr _ hoo
 ·exact(XZ (m' _ _ (Y3 hx hb))).1
theorem Io {H:Hp}:hid H [OO.flatten]=hid H OO:=by unfold hid fl;rw[show([OO.flatten]:List (List Xo)).flatten=OO.flatten by simp]
theorem W.one {H:Hp}(w:W OO H):W [OO.flatten] H:=w.of (by simp)
theorem EH {ta:TE}{r1:Enc α1}[MonoE r1]{o:OE ρ}{f:α1->Rs ρ}{ma:Rs α1}(ha:EvS K Er S OO σ ta r1 ma):Ev K Er S OO OO σ (Qj (Sn r1 o f K) [] E0 (Xn ta YF)) o (ma.bind λa=>noE (f a)):=λH Q w s P=>
 ha.run w s FO.tr P λa x H1 s1 w1 q1 r1 P1=>by
  obtain⟨b,hb,P2⟩:=P1.okOf λx=>Ut
  exact⟨x,a,b,rfl,OO.flatten,w1.one,by rw[Io];exact r1,UO hb,by rw[Io];exact Pa w1 P2⟩
theorem Hn {ta tb:TE}{r1:Enc α1}{r2:Enc α2}[z1:MonoE r1][MonoE r2]{o:OE ρ}{f:α1->α2->Rs ρ}{ma:Rs α1}{mb:Rs α2}(ha:EvS K Er S OO σ ta r1 ma)(hb:EvS K Er S OO σ tb r2 mb):
  Ev K Er S OO OO σ (Qj (R7 r1 r2 o f K) [] E0 (Xn ta (Xn tb YF))) o (ma.bind λa=>mb.bind λb=>noE (f a b)):=λH Q w s P=>
 ha.run w s FO.tr P λa x H1 s1 w1 q1 r1 P1=>hb.run w1 q1 FO.tr P1 λb y H2 s2 w2 q2 r2 P2=>by
  obtain⟨c,hc,P3⟩:=P2.okOf λx=>Ut
  exact⟨x,y,a,b,c,rfl,OO.flatten,w2.one,by rw[Io];exact z1.mono (Xh s2) r1,by rw[Io];exact r2,UO hc,by rw[Io];exact Pa w2 P3⟩
end
section
variable {K:PySem.W.Frag}{Er:Exc->Hp->Prop}{S:SC}{OO OO':List (List Xo)}{σ:St}{α α2 β γ ρ:Type}
variable {Fd:Ends->β->Hp->Prop}[fd:FdOk Fd]{u:TS}
end
section
variable {prog:Program}{w:World}{A:Around}{E:Value->Shared->Prop}{s:Shared}
end
section
variable {X:Cx}
end
section
variable {K:PySem.W.Frag}{Er:Exc->Hp->Prop}{S:SC}{OO OO':List (List Xo)}{σ:St}{α β γ:Type}
end
section
variable {X:Cx}{α:Type}{r:Enc α}{lt:α->α->Bool}{d:Nat}
end
section
variable {K:PySem.W.Frag}{Er:Exc->Hp->Prop}{S:SC}{OO OO':List (List Xo)}{σ:St}{α:Type}
end
section
variable {X:Cx}{pins:List (Addr×Obj)}{σ:St}{H:Hp}{s0:Shared}
noncomputable def SG (X:Cx)(g:Heap)(d:Addr)(xs:List (List Key×Addr×Value)):Prop:=∃ o es ep,g.get? d=some o/\o.ExactDict/\o.data= .dict es ep/\es.toList=xs.map (entryOfKey (tupleKind (YN X.prog X.w)))/\(xs.map (·.1)).Nodup
theorem SG.of {g:Heap}{d:Addr}{xs:List (List Key×Addr×Value)}(D:g.DictOfH (tupleKind (YN X.prog X.w)) d xs):SG X g d xs:=by
 obtain⟨o,es,ep,h1,h2,h3,h4,_,h5⟩:=D
 exact⟨o,es,ep,h1,h2,h3,h4,h5⟩
end
section
variable {K:PySem.W.Frag}{Er:Exc->Hp->Prop}{S:SC}{OO OO':List (List Xo)}{σ:St}{α β γ:Type}
end
section
variable {K:PySem.W.Frag}{Er:Exc->Hp->Prop}{S:SC}{OO:List (List Xo)}{σ:St}{α1 α2 α3 α4 α5 ρ:Type}{mg:Str->Option Value}{E:XK}
end
section
variable {X:Cx}{o e:Expr}{es:List Expr}{to:TE}{t:TA}{name:Str}{apos cpos:Pos}{id:String}{r:V->List V->Hp->VK->Prop}
end
section
variable {K:PySem.W.Frag}{Er:Exc->Hp->Prop}{S:SC}{OO:List (List Xo)}{σ:St}
end
section
variable {α β γ δ:Type}{K:PySem.W.Frag}{Er:Exc->Hp->Prop}{S:SC}{OO:List (List Xo)}{σ:St}{Fd:Ends->β->Hp->Prop}[fd:FdOk Fd]{u:TS}
end
end L2
namespace HT
open PySem PySem.Spec PyProof PyProof.Rows
section
variable {prog:Program}{w:World}{A:Around}{E:Value->Shared->Prop}{s:Shared}
end
end HT
namespace L2
open PySem PySem.Spec PyProof.Rows
section
variable {X:Cx}{e:Expr}{te:TE}
end
section
variable {α β:Type}{K:PySem.W.Frag}{Er:Exc->Hp->Prop}{S:SC}{OO:List (List Xo)}{σ:St}
end
section
variable {α β:Type}{K:PySem.W.Frag}{Er:Exc->Hp->Prop}{S:SC}{OO:List (List Xo)}{σ:St}{Fd:Ends->β->Hp->Prop}[fd:FdOk Fd]{u:TS}
end
section
variable {K:PySem.W.Frag}{Er:Exc->Hp->Prop}{S:SC}{OO OO' OO2:List (List Xo)}{σ:St}{α β γ ρ ι:Type}{mg:Str->Option Value}{E:XK}{u:TS}
end
section
variable {X:Cx}
end
section
variable {prog:Program}{w:World}{A:Around}{E:Value->Shared->Prop}{s:Shared}
theorem Ph {l sl b:Addr}{items ys:List Value}{n:Nat}{vl vu:Value}{lo hi:Option Int}{Q:Unit->Shared->Prop}(hl:s.heap.get? l=some {cls:=.type "list",data:=.seq items.toArray n})
  (hs:s.heap.IsSliceOf sl vl vu .none)(pl:IsPart vl lo)(pu:IsPart vu hi)(hb:s.heap.IsList b ys.toArray)(hne:l≠b)(hz:items.length+ys.length<=sizeLine)
  (h:Q () {s with heap:=s.heap.update l (Obj.mapSeq λxs=>xs.extract 0 (HT.sIx items.length 0 lo)++ys.toArray++xs.extract (max (HT.sIx items.length 0 lo) (HT.sIx items.length items.length hi)) xs.size)}):
  wpAny (model prog w) A (setItem (.ref l) (.ref sl) (.ref b)) Q E s:=by
 have hL:s.heap.IsList l items.toArray:=PySem.IsL.isList (n:=n) hl
 obtain⟨ob,hob,hbc,nb,hbd⟩:=id hb
 obtain⟨os,hos,hcs,hds⟩:=id hs
 have hTs:s.TypeIs (.ref sl) "slice":=⟨os,hos,hcs⟩
 unfold setItem
 try with_reducible refine wpAny_holding ?_
 first |refine wpAny_bind (wpAny_pure ?_) |skip
 refine wpAny_bind (wpAny_sequenceKey hL.typeIs (by decide) ?_)
 refine wpAny_bind (wpAny_callSpecial?_slot (name:=Str.ofString "__setitem__") hL.typeIs slot_list_setitem
  (wpAny_call_entry slot_list_setitem hL.typeIs entry_list_setitem ?_ (args_list_setitem _ _ _)))
 show wpAny _ _ (Builtin.List.listSubscript? (.ref sl) >>= _) _ _ s
 refine wpAny_bind ?_
 unfold Builtin.List.listSubscript?
 refine wpAny_bind (wpAny_specialOf hTs slice_no_index ?_)
 simp only[Option.isNone_none,if_true]
 refine wpAny_pure ?_
 show wpAny _ _ (typeOf (.ref sl) >>= _) _ _ s
 refine wpAny_bind (wpAny_typeOf hTs ?_)
 rw[if_neg (by decide)]
 rw[listSliceParts_eq]
 refine wpAny_bind (wpAny_bind (wpAny_field hos hds (x:=.none) rfl (wpAny_bind (wpAny_listPart .none ?_))))
 rw[if_neg (show ¬((rawPart none==rawInt 0)=true) from Bool.false_ne_true)]
 refine wpAny_bind (wpAny_field hos hds (x:=vl) rfl (wpAny_bind (wpAny_listPart pl ?_)))
 refine wpAny_bind (wpAny_field hos hds (x:=vu) rfl (wpAny_bind (wpAny_listPart pu (wpAny_pure ?_))))
 dsimp only
 rw[if_neg (by
  have:(l==b)=false:=by rw[beq_eq_false_iff_ne];exact hne
  simp[Builtin.List.listSameRef,this])]
 unfold Builtin.List.listAllItems
 refine wpAny_bind (wpAny_bind (wpAny_typeOf hb.typeIs ?_))
 rw[if_pos (by decide)]
 unfold Builtin.List.listItems
 refine wpAny_bind (wpAny_seqItems hob hbd (wpAny_pure ?_))
 refine wpAny_bind (wpAny_bind (wpAny_seqItems hl rfl (wpAny_pure ?_)))
 obtain⟨b1,b2,b3⟩:=VL lo hi items.length
 refine wpAny_bind (wpAny_of_eq ((sliceIndices_raw lo hi none items.toArray.size (by simp)).trans (congrArg (pure:Int×Int×Int->Sem (Int×Int×Int)) (show sliceBounds lo hi none items.toArray.size=(((HT.sIx items.length 0 lo:Nat):Int),((HT.sIx items.length items.length hi:Nat):Int),1) by rw[List.size_toArray];exact Prod.ext b1 (Prod.ext b2 b3)))) ?_)
 show wpAny _ _ (if((1:Int)==1)=true then _ else _) _ _ s
 rw[if_pos (by decide)]
 refine wpAny_bind (wpAny_rule ?_)
 have hsz:items.toArray.size+ys.toArray.size<=sizeLine:=by rw[List.size_toArray,List.size_toArray];exact hz
 first
  |simp only[V0 hsz,Bool.false_eq_true,if_false]
  |refine PySem.W.KFB.if_not (V0 hsz) ?_
 first |refine wpAny_bind (wpAny_pure ?_) |skip
 have hmax:(max ((HT.sIx items.length 0 lo:Nat):Int) ((HT.sIx items.length items.length hi:Nat):Int)).toNat=max (HT.sIx items.length 0 lo) (HT.sIx items.length items.length hi):=by omega
 show wpAny _ _ (updateSeq l (λxs=>xs.extract 0 (((HT.sIx items.length 0 lo:Nat):Int)).toNat++ys.toArray++xs.extract (max ((HT.sIx items.length 0 lo:Nat):Int) ((HT.sIx items.length items.length hi:Nat):Int)).toNat xs.size) >>= _) _ _ s
 rw[hmax,Int.toNat_natCast]
 refine wpAny_bind (wpAny_updateSeq (hz:=Nat.le_trans (Nat.le_add_right _ _) hsz) (_hz':=by
  simp only[Array.size_append,Array.size_extract,List.size_toArray]
  have:HT.sIx items.length 0 lo<=items.length:=HT.sIx_le _ _ (Nat.zero_le _) lo
  omega) hl rfl ?_)
 refine wpAny_bind (wpAny_letGo ?_)
 first
  |exact wpAny_bind (wpAny_pure (wpAny_pure ⟨.none,rfl,wpAny_pure h⟩))
  |exact wpAny_pure ⟨.none,rfl,wpAny_pure h⟩
end
noncomputable def spl {α:Type}(xs:List α)(lo hi:Option Int)(ys:List α):List α:=xs.take (HT.sIx xs.length 0 lo)++ys++xs.drop (max (HT.sIx xs.length 0 lo) (HT.sIx xs.length xs.length hi))
section
variable {X:Cx}{o:Expr}{lo hi:Option Expr}{pos p2:Pos}{to:TE}{tl th:TO}
noncomputable def gSl (to:TE)(tl th:TO):TG:=λv σ H Q=>to σ H λx H1=>tl σ H1 λl H2=>th σ H2 λu H3=>∃ p xs b ys,x= .ref p/\v= .ref b/\H3 p=some (.lst xs)/\H3 b=some (.lst ys)/\p≠b/\xs.length+ys.length<=sizeLine/\Q σ (upd H3 p (.lst (spl xs l u ys)))
theorem Ss (ho:PE X o to)(hl:PO X lo tl)(hu:PO X hi th)
  (ha:∀v,assign (.Subscript o (.Slice lo hi none p2) pos) X.env v=(do
   let ov ←holding [v] (eval o X.env)
   let iv ←holding [v,ov] (eval (.Slice lo hi none p2) X.env)
   standAt pos
   holding [v,ov,iv] (setItem ov iv v)
   release [iv,v,ov] []):=by intro _;rfl):PG X (.Subscript o (.Slice lo hi none p2) pos) (gSl to tl th):=by
 intro pins s σ H v u Q I r h
 rw[ha]
 refine wpAny_bind (wpAny_holding (thn (ho pins s σ H _ I h) λov s1 r9=>?_))
 obtain⟨x,H1,I1,r1,q1⟩:=r9
 refine wpAny_bind (wpAny_holding (wpAny_Slice (thn (hl pins s1 σ H1 _ I1 q1) λvl s2 ⟨l,H2,I2,pl,q2⟩=>thn (hu pins s2 σ H2 _ I2 q2) λvu s3 r9=>?_)))
 obtain⟨u',H3,I3,pu,q3⟩:=r9
 rw[evalPart_none]
 refine wpAny_pure ?_
 have I4:Inv X pins σ H3 {s3 with heap:=s3.heap.push {cls:=.type "slice",data:=.fields #[vl,vu, .none]}}:=I3.kept (t':=s3.toks) λb ob q=>Heap.get?_push_of_some _ q
 obtain⟨p,xs,b,ys,rfl,rfl,e1,e2,hne,hz,q⟩:=q3
 cases r1
 cases r
 obtain⟨its,n,rv,g1,z1⟩:=I4.lst e1
 obtain⟨its2,n2,rv2,g2,z2⟩:=I4.lst e2
 have l1:=rv.length
 have l2:=rv2.length
 refine wpAny_bind (wpAny_standAt (wpAny_bind (wpAny_holding (Ph g1 (Heap.IsSliceOf.new ..) pl pu (PySem.IsL.isList (n:=n2) g2) hne (by omega) ?_))))
 refine wpAny_release ⟨σ,_,?_,q⟩
 rw[←l1]
 refine I4.lset (t':=s3.toks) (its':=its.take (HT.sIx xs.length 0 l)++its2++its.drop (max (HT.sIx xs.length 0 l) (HT.sIx xs.length xs.length u'))) e1 g1 (BX its its2 _ _) ?_ ?_
 ·exact X5.append (X5.append (rv.take _) rv2) (rv.drop _)
 ·unfold spl
  rw[List.length_append,List.length_append,List.length_take,List.length_drop]
  have:HT.sIx xs.length 0 l<=xs.length:=HT.sIx_le _ _ (Nat.zero_le _) l
  omega
end
section
variable {X:Cx}{pins:List (Addr×Obj)}{σ:St}{H G:Hp}{s:Shared}{h':Heap}
end
section
variable {X:Cx}{l:Expr}{tl:TE}{pos npos apos cpos:Pos}
end
section
variable {X:Cx}
end
inductive Mx where
 |i (n:Int) |s (x:Str) |b (v:Bool)
 deriving DecidableEq
noncomputable def Mx.v:Mx->V
 | .i n=>.int n
 | .s x=>.str x
 | .b v=>.bl v
noncomputable def rMx:Enc Mx:=λ_ _ v m=>v=m.v
instance:FlatE rMx:=⟨λ_ h=>h⟩
section
variable {K:PySem.W.Frag}{Er:Exc->Hp->Prop}{S:SC}{OO OO' OO1 OO2 OO3:List (List Xo)}{σ:St}{α β γ δ ρ:Type}{u:TS}
end
section
variable {K:PySem.W.Frag}{Er:Exc->Hp->Prop}{S:SC}{OO OO' OO1 OO2 OO3:List (List Xo)}{σ:St}{α β γ δ ρ ι:Type}{α1 α2 α3 α4 α5:Type}{u:TS}
variable {Fd:Ends->β->Hp->Prop}[fd:FdOk Fd]
theorem EvP.st {t:TO}{m:Rs (Option Int)}(he:EvP Er S OO σ t m){H:Hp}{D:Ends}{Q:Option Int->Hp->Prop}(w:W OO H)(s:S.p (hid H OO)){f:Option Int->Rs β}(P:PZ Er (Fd D) (hid H OO) (m.bind f))
  (hk:∀a H',Xp H H'->W OO H'->S.p (hid H' OO)->PZ Er (Fd D) (hid H' OO) (f a)->Q a H'):t σ H Q:=by
 refine he H Q w s ?_
 cases m with
 |bad=>exact P
 |err x=>exact λH' s'=>P H' (Xu.trans s')
 |ok a=>exact λH' s'=>hk a H' s' (w.keep s') (S.mono _ _ (Xh s') s) (PZ.tr (fd.tr D) (Xh s') P)
theorem SA {F:α->β->Prop}{a c:List α}{b d:List β}(h:Paired F a b)(k:Paired F c d):Paired F (a++c) (b++d):=by
 induction h with
 |nil=>exact k
 |cons r _ ih=>exact .cons r ih
theorem Bz {F:α->β->Prop}{xs ys:List α}{as bs:List β}(h:Paired F xs as)(k:Paired F ys bs)(lo hi:Option Int):Paired F (spl xs lo hi ys) (spl as lo hi bs):=by
 unfold spl
 rw[Paired.len h]
 exact SA (SA (Paired.take' _ h) k) (Paired.drop' _ h)
theorem Lx {te:TE}{tl th:TO}{m:Rs (List Int)}{ml mh:Rs (Option Int)}{f:List Int->Rs β}{v:V}{as:List Int}{C:List Xo}(i k:Nat)(hσ:σ[i]?=some (some v))(hk':OO'[k]?=some C)(h:∀x,S.p x->oL (oF Xd) K x v as C)(he:Ev K Er S OO OO' σ te (oL (oF Xd)) m)(hl:∀D,EvP Er S (D::OO') σ tl ml)(hh:∀D,EvP Er S (D::OO') σ th mh)
  (hr:∀bs C',Sv Er (S.addO K (oL (oF Xd)) v bs C') (OO'.set k C') σ u Fd (f bs)):Sv Er S OO σ (Zv (Bf te (gSl (JQ i) tl th)) u) Fd (m.bind λbs=>ml.bind λlo=>mh.bind λhi=>chk (as.length+bs.length<=sizeLine) (f (spl as lo hi bs))):=λH D w s P=>
 he.st w s P λbs y D' H1 w1 s1 ho P1=>⟨v,hσ,(hl D').st w1 s1 P1 λlo H2 s2 w2 q2 P2=>(hh D').st w2 q2 P2 λhi H3 s3 w3 q3 P3'=>by
  obtain⟨hsz,P3'⟩:=PZ.chk P3'
  obtain⟨p,xs,Cs,e,q,c⟩:=h _ q3
  obtain⟨pr,cf⟩:=P3.flat q
  rw[cf] at c
  subst c
  have ho3:oL (oF Xd) K (hid H3 (D'::OO')) y bs D':=MonoO.mono ((Xh s2).trans (Xh s3)) ho
  obtain⟨b,ys,Cs',e',q',c'⟩:=ho3
  obtain⟨pr',cf'⟩:=P3.flat q'
  rw[cf'] at c'
  subst c'
  have hp:H3 p=some (.lst xs):=w3.tr (p, .lst xs) (by rw[List.flatten_cons];exact List.mem_append_right _ (List.mem_flatten.mpr ⟨_,List.mem_of_getElem? hk',List.mem_cons_self⟩))
  have hb:H3 b=some (.lst ys):=w3.tr (b, .lst ys) (by simp)
  have hne:p≠b:=λz=>by
   have nd:=w3.nd
   rw[XE] at nd
   have hin:p∈fl OO':=VH (c:=(p, .lst xs)) (List.mem_flatten.mpr ⟨_,List.mem_of_getElem? hk',List.mem_cons_self⟩)
   exact(List.nodup_append.mp nd).2.2 b (by simp) p hin z.symm
  obtain⟨w4,m4⟩:=Hu (D:=[(b, .lst ys)]) (C':=[(p, .lst (spl xs lo hi ys))]) (p:=p) (o:=.lst (spl xs lo hi ys)) w3 hk' (by simp) (by simp) (by simp) (λz hz=>by
   have:z=p:=by simpa using hz
   subst this;simp) (λc hc=>by
   have:c=(p, .lst (spl xs lo hi ys)):=by simpa using hc
   rw[this];exact Yk) (λc hc=>by
   have:c=(p, .lst (spl xs lo hi ys)):=by simpa using hc
   rw[this];rfl)
  have l1:=Paired.len pr
  have l2:=Paired.len pr'
  refine⟨p,xs,b,ys,e,e',hp,hb,hne,by omega,hr (spl as lo hi bs) _ _ D w4 ⟨S.mono _ _ m4 q3,?_⟩ (PZ.tr (fd.tr D) m4 P3')⟩
  exact⟨p,_,_,e,(P3.of (Bz (F:=Xd K _) (Paired.imp2 (λ_ _ h=>h) pr) (Paired.imp2 (λ_ _ h=>h) pr') lo hi)).imp λ_ _ _ h=>h,by rw[Yo]⟩⟩
theorem B1 {te ts:TE}{r:Enc α}[z:MonoE r]{m:Rs (List α)}{ms:Rs Int}(he:EvL K Er S OO σ te r m)(hs:EvB K Er S OO σ ts Xd ms):Ev K Er S OO OO σ (SD K te ts) (oL (oF r)) (m.bind λas=>ms.bind λk=>chk (k= -1) (.ok as.reverse)):=λH Q w s P=>
 he.run w s FO.tr P λas x H1 s1 w1 q1 ⟨p,xs,e,q,pr⟩ P1=>hs.run w1 q1 FO.tr P1 λk y H2 s2 w2 q2 r2 P2=>by
  obtain⟨hn,P3⟩:=PZ.chk P2
  exact⟨by rw[show y= .int k from r2,hn],p,xs,e,SqL.of (s2 _ _ q),Me w2 (L2.Paired.rev' (Paired.imp2 (λ_ _ h=>z.mono (Xh s2) h) pr)) P3⟩
theorem RZ {Cy:List Xo}{H:Hp}{k:Nat}(w:W OO H)(hk:OO[k]?=some Cy):W [Cy] H/\Xp (hid H OO) (hid H [Cy])/\W (OO.set k []) (hid H [Cy])/\(∀b,b∈fl (OO.set k [])->b∈fl OO):=by
 have hp:=XL hk
 have wk:W (Cy::OO.set k []) H:=w.of hp
 refine⟨wk.sub (by simp),?_,⟨λcc hc=>Y3 (wk.tail.tr cc hc) (λz=>by
   have nd:=wk.nd
   rw[XE] at nd
   exact(List.nodup_append.mp nd).2.2 cc.1 (by simpa[fl] using z) cc.1 (VH hc) rfl),wk.tail.nd,wk.tail.mu⟩,λb hb=>by
   rw[←Vt hp,XE]
   exact List.mem_append_right _ hb⟩
 rw[←XB hp]
 exact Zh (Xp.refl _) λb hb=>by
  rw[XE]
  refine List.mem_append_left _ ?_
  simpa[fl] using hb
noncomputable def SL (q:OE γ)(r2:Enc α2)(r3:Enc α3)(o:OE ρ)(f:γ->α2->α3->Rs ρ)(K:PySem.W.Frag):Sp:=λvs H Q _=>∃ v1 v2 v3 a1 a2 a3 b,vs=[v1,v2,v3]/\∃C,W [C] H/\q K (hid H [C]) v1 a1 C/\r2 K (hid H [C]) v2 a2/\r3 K (hid H [C]) v3 a3/\f a1 a2 a3= .ok b/\FF K o Q b (hid H [C])
theorem Lw {t2 t3:TE}{r2:Enc α2}{r3:Enc α3}[z2:MonoE r2][z3:MonoE r3]{q:OE γ}[mq:MonoO q]{o:OE ρ}[zo:FlatO o]{f:γ->α2->α3->Rs ρ}{m2:Rs α2}{m3:Rs α3}{vy:V}{ay:γ}{Cy:List Xo}(i k:Nat)(hσ:σ[i]?=some (some vy))(hk:OO[k]?=some Cy)(h:∀x,S.p x->q K x vy ay Cy)
  (h2:EvS K Er S OO σ t2 r2 m2)(h3:EvS K Er S OO σ t3 r3 m3):
  Sv Er S OO σ (Zv (RL (Qj (SL q r2 r3 o f K) [] E0 (Xn (JQ i) (Xn t2 (Xn t3 YF))))) u) (FTd K o) (m2.bind λb=>m3.bind λc=>noE (f ay b c)):=λH D w s P=>
 ⟨vy,hσ,h2.st (Fd:=FTd K o) w s P λb z H2 s2 w2 q2 e2 P2=>h3.st (Fd:=FTd K o) w2 q2 P2 λc y H3 s3 w3 q3 e3 P3=>by
  cases en:f ay b c with
  |bad=>rw[en] at P3;exact P3.elim
  |err ex=>rw[en] at P3;exact P3.elim
  |ok r=>
   rw[en] at P3
   have P3:FTd K o D r (hid H3 OO):=P3
   obtain⟨wl,m0,wo,hin⟩:=RZ w3 hk
   refine⟨vy,z,y,ay,b,c,r,rfl,Cy,wl,mq.mono m0 (h _ q3),z2.mono ((Xh s3).trans m0) e2,z3.mono m0 e3,en,λv C' H' w' m' ho=>?_⟩
   obtain⟨w4,n4,i4⟩:=Re wo w' m'
   refine P3 v C' (OO.set k []) H' w4 (Xp.trans (λbb uu hb=>?_) n4) (zo.flat i4 ho)
   obtain⟨b1,b2⟩:=XZ hb
   exact Y3 (m0 _ _ hb) λz=>b2 (hin _ z)⟩
theorem RV {o:OE ρ}[MonoO o]{t:TS}{m:Rs ρ}{Q:VK}{b:ρ}{H:Hp}{D:Ends}{C:List Xo}(n k:Nat)(hkn:k<n)(h:Sv (λ_ _=>False) S ((List.replicate n []).set k C) σ t (FTd K o) m)(w:W [C] H)(hs:S.p (hid H [C]))(hm:m= .ok b)(q:FF K o Q b (hid H [C]))(hD:D.rt=Q):t D σ H:=by
 have pe:((List.replicate n []).set k C).flatten.Perm [C].flatten:=by
  have h1:=XL (OO:=(List.replicate n []).set k C) (k:=k) (C:=C) (by simp[hkn])
  have e:((List.replicate n ([]:List Xo)).set k C).set k []=List.replicate n []:=by
   rw[List.set_set]
   apply List.ext_getElem?
   intro m
   by_cases hm:m=k
   ·subst hm;simp[hkn]
   ·rw[List.getElem?_set_ne (λe=>hm e.symm)]
  rw[e,List.flatten_cons,Yo] at h1
  simpa using h1.symm
 refine h H D (w.of pe) (by rw[XB pe];exact hs) ?_
 subst hm
 rw[XB pe]
 intro v C1 OO' H' w' mm ho
 rw[hD]
 exact HI q v C1 OO' H' w' mm ho
section
variable {o:OE ρ}{kf:Nat}{Cf:List Xo}{J:Jn γ ι}
end
theorem Lz {o1:OE α1}{o2:OE α2}{o3:OE α3}[MonoO o1][MonoO o2][MonoO o3]{f:Rs β}(i j l k1 k2 k3:Nat)(h1:k1<OO.length)(h2:k2<OO.length)(h3:k3<OO.length)
  (hr:∀v w x C1 C2 C3,Sv Er (((S.addO K (oL o1) v [] C1).addO K (oL o2) w [] C2).addO K (oL o3) x [] C3) (((OO.set k1 C1).set k2 C2).set k3 C3) (((σ.set i (some v)).set j (some w)).set l (some x)) u Fd f):Sv Er S OO σ (Zv (Pc i j l (Xn (BG YF) (Xn (BG YF) (Xn (BG YF) YF)))) u) Fd f:=λH D w s P=>by
 refine⟨Nat.zero_le _,λp1 hp1=>⟨Nat.zero_le _,λp2 hp2=>⟨Nat.zero_le _,λp3 hp3=>⟨_,_,_,rfl,?_⟩⟩⟩⟩
 have key:∀{OO:List (List Xo)}{H:Hp}{p:Addr}{k:Nat},W OO H->H p=none->k<OO.length->W (OO.set k [(p, .lst [])]) (upd H p (.lst []))/\Xp (hid H OO) (hid (upd H p (.lst [])) (OO.set k [(p, .lst [])])):=λw hp hk=>by
  obtain⟨a,b⟩:=SN (w.new hp (o:=.lst []) rfl) hk
  exact⟨a,(JM hp (o:=.lst [])).trans b⟩
 obtain⟨w1,m1⟩:=key w hp1 h1
 obtain⟨w2,m2⟩:=key w1 hp2 (k:=k2) (by simpa using h2)
 obtain⟨w3,m3⟩:=key w2 hp3 (k:=k3) (by simpa using h3)
 have nl:∀{τ:Type}{o:OE τ}{h:Hp}{p:Addr},oL o K h (.ref p) [] [(p, .lst [])]:=fun {τ o h p}=>⟨p,[],[],rfl, .nil,rfl⟩
 exact hr _ _ _ _ _ _ _ D w3 ⟨⟨⟨S.mono _ _ ((m1.trans m2).trans m3) s,nl⟩,nl⟩,nl⟩ (PZ.tr (fd.tr D) ((m1.trans m2).trans m3) P)
end
section
variable {K:PySem.W.Frag}{Er:Exc->Hp->Prop}{S:SC}{OO:List (List Xo)}{σ:St}{α β γ ρ ι:Type}{u:TS}{Fd:Ends->β->Hp->Prop}[fd:FdOk Fd]
theorem Iy {ti:TE}{g:TG}{tb:TS}{r:Enc α}[z:MonoE r]{κ:Type}{mi:Rs Int}{body:γ->α->Rs γ}{f:γ->Rs β}{v:V}{as:List (List α)}{C:List Xo}(n k:Nat)(hσ:σ[n]?=some (some v))(hk:OO[k]?=some C)(h:∀x,S.p x->oL (oL (oF r)) K x v as C)(hi:EvB K Er S OO σ ti Xd mi)
  (J:Jn γ ι)(T:∀OO,Tgt K OO g r κ)(x0:ι)(g0:γ)(hC:∀x,(J.oo x)[k]?=some C)(h1:OO=J.oo x0)(h2:σ=J.ss x0)(h3:∀h,S.p h->(J.sc g0 x0).p h)
  (hb:∀g x a v,Sv Er ((T (J.oo x)).sc a v (J.sc g x)) (J.oo x) ((T (J.oo x)).set v (J.ss x)) tb (FNd J) (body g a))
  (hr:∀g x,Sv Er (J.sc g x) (J.oo x) (J.ss x) u Fd (f g)):Sv Er S OO σ (Zv (Iq (Ff K (tOp (BN K) (JQ n) ti)) g tb) u) Fd (mi.bind λi=>(atR as i).bind λrow=>(forN row g0 body).bind f):=λH0 D w0 s0 P0=>
 ⟨v,hσ,hi.st w0 s0 P0 λix vi H s1 w s r1 P=>by
  obtain⟨p,xs,Cs,e,q,c⟩:=h _ s
  subst c
  cases er:atR as ix with
  |bad=>rw[er] at P;exact P.elim
  |err x=>exact absurd er U1
  |ok row=>
   rw[er] at P
   have P:PZ Er (Fd D) (hid H OO) ((forN row g0 body).bind f):=P
   obtain⟨j,hj,hrow⟩:=Mb er
   obtain⟨a,c,ha,hc,ho⟩:=P3.get q hrow
   obtain⟨p',ys,Cs',e',q',c'⟩:=ho
   have pr:=(P3.flat q').1
   have hpin:(p,HO.lst xs)∈OO.flatten:=List.mem_flatten.mpr ⟨_,List.mem_of_getElem? hk,List.mem_cons_self⟩
   have hin:∀x,(p',HO.lst ys)∈(J.oo x).flatten:=λx=>List.mem_flatten.mpr ⟨_,List.mem_of_getElem? (hC x),List.mem_cons_of_mem _ (List.mem_flatten.mpr ⟨c,List.mem_of_getElem? hc,by rw[c'];exact List.mem_cons_self⟩)⟩
   have hH:H p=some (.lst xs):=w.tr _ hpin
   have hH':H p'=some (.lst ys):=w.tr (p', .lst ys) (by rw[h1];exact hin x0)
   refine⟨p,xs,ix,a,e,r1,SqL.of hH,?_,?_⟩
   ·unfold atI
    rw[(P3.len q).1,hj]
    exact ha
   refine⟨p',e',⟨ys,SqL.of hH'⟩,?_⟩
   refine⟨λi mm σ' H2=>mm=row.length-i/\i<=row.length/\∃x gg,σ'=J.ss x/\W (J.oo x) H2/\Xp (hid H OO) (hid H2 (J.oo x))/\(J.sc gg x).p (hid H2 (J.oo x))/\PZ Er (Fd D) (hid H2 (J.oo x)) ((forN (row.drop i) gg body).bind f),⟨row.length,rfl,Nat.zero_le _,x0,g0,h2,?_,?_,?_,?_⟩,?_⟩
   ·rw[←h1];exact w
   ·rw[←h1];exact Xp.refl _
   ·rw[←h1];exact h3 _ s
   ·rw[←h1,List.drop_zero];exact P
   ·rintro i mm σ' H2 ⟨rfl,hi',x,gg,rfl,w2,m2,sc2,P2⟩
    have hq:SqL K H2 p' ys:=SqL.of (w2.tr (p', .lst ys) (hin x))
    by_cases hlt:i<row.length
    ·right
     obtain⟨y0,hy0,ry⟩:=Paired.getR pr (List.getElem?_eq_getElem hlt)
     refine⟨⟨ys,y0,hq,hy0⟩,λσ3 H3=>∃ x gg,σ3=J.ss x/\W (J.oo x) H3/\Xp (hid H OO) (hid H3 (J.oo x))/\(J.sc gg x).p (hid H3 (J.oo x))/\PZ Er (Fd D) (hid H3 (J.oo x)) ((forN (row.drop (i+1)) gg body).bind f),λσ3 H3 q=>⟨row.length-(i+1),Nat.sub_lt_sub_left hlt (Nat.lt_succ_self i),rfl,hlt,q⟩,λy H3 hy=>?_⟩
     obtain⟨rfl,hy2⟩:=hy
     have:=hy2 ys hq
     rw[hy0] at this
     cases this
     refine(T (J.oo x)).ok (z.mono m2 ry) sc2 λv hv=>hb gg x row[i] v H3 _ w2 hv ?_
     rw[List.drop_eq_getElem_cons hlt] at P2
     have P3:PZ Er (Fd D) (hid H3 (J.oo x)) ((body gg row[i]).bind λg'=>(forN (row.drop (i+1)) g' body).bind f):=by rw[←XH];exact P2
     cases eb:body gg row[i] with
     |bad=>rw[eb] at P3;exact P3
     |err x=>rw[eb] at P3;exact P3
     |ok g'=>
      rw[eb] at P3
      exact λx' H4 w4 m4 sc4=>⟨x',g',rfl,w4,m2.trans m4,sc4,PZ.tr (fd.tr D) m4 P3⟩
    ·left
     have e:i=row.length:=Nat.le_antisymm hi' (Nat.not_lt.mp hlt)
     subst e
     refine⟨⟨ys,hq,by rw[Paired.len pr];exact Nat.le_refl _⟩,hr gg x H2 D w2 sc2 ?_⟩
     rw[List.drop_length] at P2
     exact P2⟩
end
section
variable {K:PySem.W.Frag}{Er:Exc->Hp->Prop}{S:SC}{OO OO':List (List Xo)}{σ:St}{α1 α2 α3 β ρ:Type}{u:TS}
end
noncomputable def VP (h:Heap)(T:Addr):Heap:=h.update T (Obj.mapFields (·.setIfInBounds 3 Value.none))
structure FlA (h0 h:Heap)(H:Hp)(a T:Addr)(cls fl:Value):Prop where
 na:h0.get? a=none
 nT:h0.get? T=none
 fa:H a=none
 fT:H T=none
 ne:T≠a
 obj:∃oe vs oT ts a0,h.get? a=some oe/\oe.cls=cls/\vs[0]?=some a0/\oe.data= .fields vs/\vs[1]?=some (.ref T)/\h.get? T=some oT/\oT.data= .fields ts/\ts[3]?=some fl
section
variable {h0 h:Heap}{H:Hp}{a T:Addr}{cls fl:Value}
theorem Zf (b:Addr)(hb:b≠T):(VP h T).get? b=h.get? b:=Heap.get?_update_other _ _ (Ne.symm hb)
theorem FlA.calm (x:FlA h0 h H a T cls fl):Fl h0 (VP h T) H a T cls:=by
 obtain⟨oe,vs,oT,ts,a0,ha,hc,h0',hd,h1,hT,hdT,h3⟩:=x.obj
 have hsz:3<ts.size:=(Array.getElem?_eq_some_iff.mp h3).1
 exact⟨x.na,x.nT,x.fa,x.fT,x.ne,oe,vs,_,_,a0,(Zf a (Ne.symm x.ne)).trans ha,hc,h0',hd,h1,Heap.get?_update_self _ hT (Obj.isFreed_of_fields (Obj.data_mapFields hdT _)),Obj.data_mapFields hdT _,by simp[hsz]⟩
theorem HQ {oT:Obj}{ts:Array Value}(hT:h.get? T=some oT)(hdT:oT.data= .fields ts):h.UpToSlots (VP h T):=λb o e hn=>⟨o.slots,(Zf b λz=>by
 rw[z,hT] at e;cases e;exact hn _ hdT).trans e⟩
theorem FlA.up (x:FlA h0 h H a T cls fl):h.UpToSlots (VP h T):=by
 obtain⟨_,_,_,_,_,_,_,_,_,_,hT,hdT,_⟩:=x.obj
 exact HQ hT hdT
end
theorem Dg {M:Model}{A:Around}{E:Value->Shared->Prop}{s:Shared}{base:Heap}{env:Env}{outer:List Env}{L e T:Addr}{cls a0 fl:Value}{oe oT:Obj}{vs ts:Array Value}{Q:Unit->Shared->Prop}
  (hfr:A.frames=some (env::outer))(hf:env.frame=some L)(ha:s.heap.get? e=some oe)(hd:oe.data= .fields vs)(h1:vs[1]?=some (.ref T))(hT:s.heap.get? T=some oT)(hdT:oT.data= .fields ts)(h3:ts[3]?=some fl)
  (hfl:Heap.FlyingW base (env::outer) e cls a0 (VP s.heap T))
  (hQ:∀h',Heap.FlyingW base outer e cls a0 h'->(VP s.heap T).UpToSlots h'->Q () {s with heap:=h'}):wpAny M A (leaving env (.ref e)) Q E s:=by
 have hsz:3<ts.size:=(Array.getElem?_eq_some_iff.mp h3).1
 unfold leaving
 refine wpAny_bind ?_
 unfold noteFrame
 simp only[hf]
 refine wpAny_bind (wpAny_field ha hd h1 ?_)
 rw[if_pos (show(Value.ref T !=Value.none)=true from by simp)]
 refine wpAny_bind (wpAny_field hT hdT h3 ?_)
 by_cases hb:(fl==rawInt L)=true
 ·rw[if_pos hb]
  refine wpAny_pure ?_
  unfold setFlight
  refine wpAny_bind (wpAny_field ha hd h1 ?_)
  rw[if_pos (show(Value.ref T !=Value.none)=true from by simp)]
  refine wpAny_setField hT hdT hsz ?_
  obtain⟨k1,k2,⟨_,_,k3⟩,k4⟩:=hfl
  exact hQ _ ⟨k1,k2,k3,k4⟩ (Heap.UpToSlots.refl _)
 ·rw[if_neg hb]
  refine wpAny_bind (wpAny_setField hT hdT hsz ?_)
  obtain⟨f1,f2,f3,f4⟩:=hfl
  obtain⟨oe',vs',T',oT',ts',he',⟨hcls',h0'⟩,hd',h1',_⟩:=f4
  subst hcls'
  refine wpAny_entryW (s:={s with heap:=VP s.heap T}) hfr f3 hf he' f1 f2 hd' (Array.getElem?_eq_some_iff.mp h1').1 h0' λh' ⟨x1,x2,x3,x4⟩=>?_
  refine wpAny_landsW (base:=base) (l:=env::outer) (L:=L) ⟨x1,f2,x2,x3⟩ λh'' k up=>?_
  obtain⟨k1,k2,⟨_,_,k3⟩,k4⟩:=k
  exact hQ h'' ⟨k1,k2,k3,k4⟩ (Heap.UpToSlots.trans x4 up)
noncomputable def FY (X:Cx)(E:XK):Prop:=∀ (pins:List (Addr×Obj)) (σ:St) (H:Hp) (s:Shared) (a T C:Addr) (fl:Value),Inv X pins σ H s->FlA X.s₀.heap s.heap H a T (.ref C) fl->
 (∀b∈[a,T],X.s₀.heap.get? b=none/\b≠X.env.locals/\(∀x c,X.env.cells.lookup x=some c->c≠b)/\∀p∈X.pn++pins,p.1≠b)->E (.ref C) none H->X.xe (.ref a) s
section
variable {P:Program}{w:World}{K:PySem.W.Frag}{mg:Str->Option Value}{base:Heap}{N:List Str}{qual:Str}{scope:Scope}{f:Addr}{cd:Value}{A:Around}{outer:List Env}{s0:Shared}{H0:Hp}{E:XK}
theorem Pl:FY (Uj (CXE P w) P w K mg base N qual scope f cd A outer s0 H0 E) E:=by
 intro pins σ H s a T C fl I x ch q
 have I2:=I.past (h':=VP s.heap T) (Un.traced I.stack (λb o _ _ n e=>(Zf b n).trans e) x.up) (I.hok.traced I.stkFree x.fa x.fT λb o _ _ n e=>(Zf b n).trans e) ch
 obtain⟨oe,vs,oT,ts,a0,ha,hc,h0',hd,h1,hT,hdT,h3⟩:=x.obj
 have x0:=x.calm
 obtain⟨a0',fl'⟩:=x0.fly I2.stack
 refine Dg I.ok.frames rfl ha hd h1 hT hdT h3 fl' λh' k up=>?_
 obtain⟨T',y1,y2,y3⟩:=x0.after I2.stack I2.stkFree I2.hok (λb o e=>I2.base.there b o e (λz=>nomatch z)) k.1 k.2.2.2 up
 refine⟨a,T',C,H,rfl,y1,I2.os,I2.bare,I2.base.past y3 (λb hb=>?_) λb hb=>?_,y2,q⟩
 ·rcases List.mem_cons.mp hb with z |z
  ·rw[z];exact x0.na
  ·rw[List.mem_singleton.mp z];exact x0.nT
 ·rcases List.mem_cons.mp (I2.stkSub b hb) with z |z
  ·exact .inr (z▸Heap.get?_none_of_le I.ok.above)
  ·exact .inl z
end
theorem Un.but {fs ch:List Addr}{H:Hp}{h h':Heap}(k:∀b,b∉ch->h'.get? b=h.get? b):Un fs ch H H h h' where
 keep:=λb o e _ _ hx=>(k b hx).trans e
 slot:=λb o e _ _ hx=>⟨o.slots,(k b hx).trans e⟩
 free:=λ_ _ _ n _=>n
 there:=λb o e hx=>⟨o,(k b hx).trans e⟩
 tups:=λ_ _ q=>q
 frzs:=λ_ _ _ q=>q
 tbls:=λ_ ps q=>⟨#[],by simpa using q⟩
section
variable {X:Cx}{pins:List (Addr×Obj)}{σ:St}{H:Hp}{s:Shared}{N:List Str}{scope:Scope}{cl:List (Str×Addr)}{C:Addr}{fp:List Addr}{Q:Value->Shared->Prop}{acc:Value}{E:XK}{use:Option (Value->Sem Unit)}
theorem BW (hp:FY X E)(hst:X.stack=X.env::X.outer)(hex:X.ex=[])(hfr:X.env.frame=some X.env.locals)(I:Inv X pins σ H s)(hf:∀b∈fp,Fj X pins H b)(hC:s.heap.objs.size<C):
  Vg (CXE X.prog X.w) (X.comp N scope cl C s H fp (notedBy (model X.prog X.w) X.A (compEnvC scope cl C X.env) λe s'=>compPost (model X.prog X.w) X.A X.xe use Q acc C (.error e) s')) E:=by
 intro pins1 σ1 H1 s1 e s' I1 ⟨a,T,C0,H',he,x,os,bare,un,hok,q⟩
 subst he
 have I2:=I1.call' os un hok bare (λb z=>nomatch z)
 have X1:Inv X pins σ H1 s1:=I.call' (ch:=fp) I1.os I1.base I1.hok I1.bare λb hb=>have z:=hf b hb;⟨z.2.2.2.1,z.2.1,z.2.2.2.2.1,z.2.2.2.2.2⟩
 have X2:Inv X pins σ H' s':=I.call' (ch:=fp) I2.os I2.base I2.hok I2.bare λb hb=>have z:=hf b hb;⟨z.2.2.2.1,z.2.1,z.2.2.2.2.1,z.2.2.2.2.2⟩
 have q1:∀b,s1.heap.get? b=none->X.s₀.heap.get? b=none/\b≠X.env.locals/\(∀y c,X.env.cells.lookup y=some c->c≠b)/\∀p∈X.pn++pins,p.1≠b:=λb nb=>by
  refine⟨?_,λz=>?_,λy c hy z=>?_,λp hp z=>?_⟩
  ·cases q:X.s₀.heap.get? b with
   |none=>rfl
   |some o=>obtain⟨o',e⟩:=X1.base.there b o q (by rw[hex];simp);rw[nb] at e;cases e
  ·obtain⟨m,⟨o,es,ep,ho,_⟩,_⟩:=X1.loc
   have ho':s1.heap.get? X.env.locals=some o:=ho
   rw[←z,nb] at ho';cases ho'
  ·obtain⟨v,o,ho,_⟩:=X1.cell y c hy
   rw[z,nb] at ho;cases ho
  ·obtain⟨e,_⟩:=X1.pin p hp
   rw[z,nb] at e;cases e
 have hl:s'.heap.FunFrames X.base (X.env::X.outer):=hst▸X2.stack
 have hfn:∀b∈frs (X.env::X.outer),H' b=none:=hst▸X2.stkFree
 have hA:X.A.frames=some (X.env::X.outer):=hst▸I.ok.frames
 obtain⟨a0,fl⟩:=x.fly hl
 show wpAny _ _ (noteFrame (.ref a) X.env) _ _ s'
 refine wpAny_looks_onW hA hfr fl λh2 hd2 up2=>?_
 obtain⟨st2,_,_,oe,vs,T2,oT,ts,ha,⟨hc,h0'⟩,hd,h1,hbT,hTa,hT,hdT,h3⟩:=hd2
 have hsz:3<ts.size:=(Array.getElem?_eq_some_iff.mp h3).1
 have st3:(Lm s'.heap (frs (X.env::X.outer)) a T).StaysIn (VP h2 T2):=λb o e=>(Zf b λz=>by rw[z,hbT] at e;cases e).trans (st2 b o e)
 have ha3:(VP h2 T2).get? a=some oe:=(Zf a (Ne.symm hTa)).trans ha
 obtain⟨T3,x3,hok3,un3⟩:=x.after hl hfn hok (λb o e=>un.there b o e (λz=>nomatch z)) st3
  ⟨oe,vs,T2,_,_,ha3,⟨hc,h0'⟩,hd,h1,hbT,hTa,Heap.get?_update_self _ hT (Obj.isFreed_of_fields (Obj.data_mapFields hdT _)),Obj.data_mapFields hdT _,by simp[hsz]⟩ (Heap.UpToSlots.trans up2 (HQ hT hdT))
 have eT:T3=T2:=by
  obtain⟨oe',vs',oT',ts',a0',ha',hc',h0'',hd',h1',_⟩:=x3.obj
  rw[ha3] at ha';cases ha'
  rw[hd] at hd';cases hd'
  rw[h1] at h1';cases h1';rfl
 subst eT
 have J3:Inv X pins σ H' {s' with heap:=VP h2 T3}:=X2.past (by rw[hst];exact un3) hok3 λb hb=>by
  rcases List.mem_cons.mp hb with z |z
  ·rw[z];exact q1 a x.na
  ·rw[List.mem_singleton.mp z];exact q1 T x.nT
 obtain⟨m,hns,_⟩:=id I2.loc
 have hns2:h2.Ns C m:=up2.ns hns
 refine⟨m,hns2,λh' sb cenv _=>?_⟩
 have fC:H' C=none:=I2.free
 have okC:Fj X pins H' C:=I.fpOk (Nat.le_of_lt hC) fC
 obtain⟨oC,esC,epC,hoC,hdC,_⟩:=id hns2
 have hTC:T3≠C:=λz=>by rw[z,hoC] at hT;cases hT;rw[hdC] at hdT;cases hdT
 have haC:a≠C:=λz=>by
  obtain⟨m1,⟨o1,_,_,ho1,_⟩,_⟩:=id I1.loc
  have ho1':s1.heap.get? C=some o1:=ho1
  rw[←z,x.na] at ho1';cases ho1'
 have oth:∀b,b≠C->h'.get? b=h2.get? b:=sb.2
 have hT':h'.get? T3=some oT:=(oth T3 hTC).trans hT
 have ha':h'.get? a=some oe:=(oth a haC).trans ha
 unfold PySem.passOn
 refine wpAny_bind (wpAny_field (s:={s' with heap:=h'}) ha' hd h1 ?_)
 rw[if_neg (show ¬((Value.ref T3==Value.none)=true) from by simp)]
 refine wpAny_bind ?_
 unfold setFlight
 refine wpAny_bind (wpAny_field (s:={s' with heap:=h'}) ha' hd h1 ?_)
 rw[if_pos (show(Value.ref T3 !=Value.none)=true from by simp)]
 refine wpAny_setField (s:={s' with heap:=h'}) hT' hdT hsz (wpAny_throw ?_)
 have ot4:∀b,b∉ [T3,C]->(h'.update T3 (Obj.mapFields (·.setIfInBounds 3 (cenv.frame.elim Value.none λf=>rawInt f)))).get? b=(VP h2 T3).get? b:=λb hb=>by
  have n1:b≠T3:=λz=>hb (by simp[z])
  have n2:b≠C:=λz=>hb (by simp[z])
  rw[Heap.get?_update_other _ _ (Ne.symm n1),oth b n2,Zf b n1]
 have hok4:HOk X.prog X.w H' (h'.update T3 (Obj.mapFields (·.setIfInBounds 3 (cenv.frame.elim Value.none λf=>rawInt f)))):=λb o e=>by
  refine(hok3 b o e).stay (λc u hc' q'=>?_) (λ_ q=>q) λ_ _ q=>q
  have hn:H' c≠none:=by
   rcases hc' with z |z
   ·rw[z,e];exact λy=>nomatch y
   ·rw[z];exact λy=>nomatch y
  exact(ot4 c λz=>by
   rcases List.mem_cons.mp z with z |z
   ·exact hn (z▸x3.fT)
   ·exact hn (List.mem_singleton.mp z▸fC)).trans q'
 have J4:=J3.past (Un.but ot4) hok4 λb hb=>by
  rcases List.mem_cons.mp hb with z |z
  ·rw[z];exact q1 T3 x3.nT
  ·rw[List.mem_singleton.mp z]
   exact⟨okC.2.2.2.1.elim (λz=>by rw[hex] at z;cases z) Heap.get?_none_of_le,okC.2.1,okC.2.2.2.2.1,okC.2.2.2.2.2⟩
 refine hp pins σ H' _ a T3 C0 _ J4 ⟨(q1 a x.na).1,(q1 T3 x3.nT).1,x3.fa,x3.fT,hTa,oe,vs,_,_,a0,(Heap.get?_update_other _ _ hTa).trans ha',hc,h0',hd,h1,Heap.get?_update_self _ hT' (Obj.isFreed_of_fields (Obj.data_mapFields hdT _)),Obj.data_mapFields hdT _,by simp[hsz];rfl⟩ (λb hb=>?_) q
 rcases List.mem_cons.mp hb with z |z
 ·rw[z];exact q1 a x.na
 ·rw[List.mem_singleton.mp z];exact q1 T3 x3.nT
end
section
variable {X:Cx}{elt tg iter:Expr}{ifs:List Expr}{scope:Scope}{pos:Pos}{wi:TI}{g:TG}{tt:TT}{te:TE}{E':XK}
theorem D0 {sc:Scope}{N0:List Str}{tns:List Str}{caps:List (Nat×Str)}(hp:FY X E')(hc:X.calm=true)(hi:PI X tg iter wi)(hG:Vj tns.length g)
  (hb:∀cl C s H ex E,Vg (CXE X.prog X.w) (X.comp (tns++caps.map (·.2)) scope cl C s H ex E) E'->PG (X.comp (tns++caps.map (·.2)) scope cl C s H ex E) tg g/\PTs (X.comp (tns++caps.map (·.2)) scope cl C s H ex E) ifs tt/\PE (X.comp (tns++caps.map (·.2)) scope cl C s H ex E) elt te)
  (hst:X.stack=X.env::X.outer:=by rfl)(hex:X.ex=[]:=by rfl)(hfr:X.env.frame=some X.env.locals:=by rfl)
  (hsc:X.env.scope=sc:=by rfl)(hN0:X.N=N0:=by rfl)(ok:U9 sc scope N0 tns caps=true:=by decide+kernel)
  (hs:∀x,foldedSetIterable iter X.env x=pure x:=by intro _;rfl):
  PE X (.ListComp elt [⟨tg,iter,ifs,0⟩] scope pos) (K3 tns.length caps wi g tt te):=by
 intro pins s0 σ H0 Q I0 h0
 have okc:=COk.of hsc hN0 ok
 obtain⟨cl,ecl,hsub,hall⟩:=Gm (scope:=scope) (env:=X.env) λx hx hfr=>I0.ok.has x.1 (.inl (okc.free x hx hfr))
 rw[eval_ListComp]
 refine wpAny_comprehension_free (use:=none) rfl hs ecl okc.kind okc.loc (thn (hi pins s0 σ H0 _ I0 h0) λxv s₁ h₁=>thn h₁ λitv s ⟨it,fp,tn,J,H,e,I,T,t0,hf,W,⟨m0,w0⟩,turn⟩=>?_)
 subst e
 refine wpAny_newObj_type (wpAny_newFunctionEnv okc.cell (by intro y hy;simp at hy) (λh₁ hns hsb₁=>?_) okc.kind)
 have hsz:∀o,(s.heap.push o).objs.size=s.heap.objs.size+1:=λo=>Heap.size_push ..
 have hC:s.heap.objs.size<(s.heap.push {cls:=.type "list",dict:=none,data:=.seq ([]:List Value).toArray}).objs.size:=Nat.lt_of_lt_of_eq (Nat.lt_succ_self _) (hsz _).symm
 generalize hCe:(s.heap.push {cls:=.type "list",dict:=none,data:=.seq ([]:List Value).toArray}).objs.size=C at hC hns hsb₁⊢
 have old:∀b o,s.heap.get? b=some o->h₁.get? b=some o:=λb o e=>hsb₁.extBut b o (Nat.ne_of_lt (Nat.lt_trans (Heap.lt_size e) hC)) (Heap.get?_push_of_some _ (Heap.get?_push_of_some _ e))
 have hacc:h₁.get? s.heap.objs.size=some (lob [] 0):=hsb₁.extBut _ _ (Nat.ne_of_lt hC) (Heap.get?_push_of_some _ (Heap.get?_push_size _ rfl))
 have hlt:∀b∈fp,b<s.heap.objs.size:=λb hb=>(T.obj _ _ t0 b hb).elim λo e=>Heap.lt_size e.1
 have okY:∀E,(X.comp (tns++caps.map (·.2)) scope cl C s H fp E).Ok:=λE=>EV okc I hf hlt hsub hall hC
 have t1:tn 0 h₁:=T.keep _ _ _ t0 λb _ o e=>old b o e
 have z:=hb cl C s H fp (notedBy (model X.prog X.w) X.A (compEnvC scope cl C X.env) λe s'=>compPost (model X.prog X.w) X.A X.xe none (EP X pins σ Q) (.ref s.heap.objs.size) C (.error e) s') (BW hp hst hex hfr I hf hC)
 have loop:∀tk,codeAny (model X.prog X.w) X.A (.compLoop (.ListComp elt [⟨tg,iter,ifs,0⟩] scope pos) 0 (.ref it) (.ref s.heap.objs.size) (compEnvC scope cl C X.env)) (compPost (model X.prog X.w) X.A X.xe none (EP X pins σ Q) (.ref s.heap.objs.size) C) {s with heap:=h₁,toks:=tk}:=λtk=>
  Vs (Y:=X.comp (tns++caps.map (·.2)) scope cl C s H fp _) rfl T hG z.1 z.2.1 z.2.2
   ⟨hc,rfl,Nat.ne_of_lt hC,λhz=>(I.stack.mem hz).2.elim λo ho=>absurd (Heap.lt_size ho.1) (Nat.lt_irrefl _),Nat.le_refl _,λx c e=>(I.cell x c (hsub x c e)).elim λv z=>Nat.ne_of_lt z.lt,λb hb=>Nat.ne_of_lt (hlt b hb),
    λb hb H' h'=>⟨h',Nat.ne_of_lt (Nat.lt_trans (hlt b hb) hC),(okY λ_ _=>True).exfs b hb, .inl hb,λx c e=>(hf b hb).2.2.2.2.1 x c (hsub x c e),λp hp=>U5 (α:=Addr×Obj) hp⟩⟩
   (λj v e=>(JZ e).1) turn (λys its k H3 s4 I4 rv hz q=>by
    have ce:=Kp I hf (Nat.le_refl _) hC I4 I4.os I4.base I4.hok rfl rv hz
    exact ce.ns.elim λmm hns=>⟨mm,hns,λh' hs'=>⟨.ref s.heap.objs.size,_,ce.inv.turned (t':=s4.toks) (λb o hb' e=>(hs'.extBut b o hb' e)) ce.fp.1 ce.fp.2.1 ce.fp.2.2.2.1 ce.fp.2.2.2.2.1 ce.fp.2.2.2.2.2,rfl,q⟩⟩)
   (.mk 0 H [] [] 0 ⟨DW okc rfl (okY _) I hsub hall hC hns old,t1,λb hb=>(hf b hb).1,hacc,I.hok.fresh (Nat.le_refl _)⟩ .nil w0)
 exact codeAny_compStart_list (loop _) (T.self _ 0 _ _ _ t1 (loop _))
end
section
variable {K:PySem.W.Frag}{mg:Str->Option Value}{Er:Exc->Hp->Prop}{S:SC}{OO OO':List (List Xo)}{σ:St}{α β γ ρ:Type}{u:TS}
instance:FlatE RE:=⟨λ_ _=>trivial⟩
theorem N8 {te:TE}{r:Enc α}{m:Rs α}(h:EvS K Er S OO σ te r m):EvS K Er S OO σ te RE (m.bind λ_=>.ok ()):=λH Q w s P=>h H Q w s (by
 cases m with
 |bad=>exact P
 |err x=>exact P
 |ok a=>exact λv H' s' _=>P v H' s' trivial)
noncomputable def SqE (mg:Str->Option Value)(S:SC)(OO:List (List Xo))(σ:St)(t:XK->TS)(m:Rs Unit):Prop:=∀ (E:XK) (H:Hp) (D:Ends),W OO H->S.p (hid H OO)->PZ (ErE mg E) (FJ λH'=>D.nx σ H') H m->t E D σ H
theorem Rg:SqE mg S OO σ (λ_=>K9) (.ok ()):=λ_ H _ _ _ P=>P H (Xp.refl _)
theorem NZ {c:XK->TT}{te:XK->TE}{t:XK->TS}{r:Enc α}{mc:Rs Bool}{m1:Rs α}{m2:Rs Unit}(hc:∀E,EvT (ErE mg E) S OO σ (c E) mc)(h1:∀E,EvB K (ErE mg E) S OO σ (te E) r m1)(h2:SqE mg S OO σ t m2):
  SqE mg S OO σ (λE=>Zv (OT (c E) (Zv (Kw (te E)) K9) K9) (t E)) (mc.bind λb=>(if b=true then m1.bind (λ_=>.ok ()) else .ok ()).bind λ_=>m2):=λE H D w s P=>by
 refine hc E H _ w s ?_
 cases mc with
 |bad=>exact P
 |err x=>exact P
 |ok b=>
  intro H' s'
  have P:PZ (ErE mg E) (FJ λH'=>D.nx σ H') H ((if b=true then m1.bind (λ_=>.ok ()) else .ok ()).bind λ_=>m2):=P
  have P:=PZ.tr FJ.tr s' P
  have w':=w.keep s'
  have q':=S.mono _ _ (Xh s') s
  cases b with
  |false=>exact h2 E H' D w' q' P
  |true=>
   refine h1 E H' _ w' q' ?_
   cases m1 with
   |bad=>exact P
   |err x=>exact P
   |ok a=>exact λv H2 s2 _=>h2 E H2 D (w'.keep s2) (S.mono _ _ (Xh s2) q') (PZ.tr FJ.tr s2 P)
theorem MN {tb:XK->TS}{m:Rs Unit}{ts:Addr->Addr->TS}{N i:Nat}{Ch:Addr}{o:OE ρ}{g:Exc->Rs ρ}{ns:List Str}{d:Str}{f:Rs ρ}(Y:Ecs ns K mg)(hd:d∈ns)(hm:mg d=some (.ref Ch))(he:SqE mg S OO σ tb m)(hr:Sv Er S OO σ u (FTd K o) f)
  (hs:∀x,x.cls∈ns->∀C a,mg x.cls=some (.ref C)->Sv Er S OO ((blank N).set i (some (.ref a))) (ts a C) (FTd K o) (g x)):
  Sv Er S OO σ (Zv (SR K N (.ref Ch) i tb ts) u) (FTd K o) (m.tryC (λ_=>f) (λx=>chk (cau ns x.cls d=true) (g x))):=λH D w s P=>
 he _ H _ w s (by
  cases m with
  |bad=>exact P
  |err x=>exact NY rfl Y hd hm hs w s P
  |ok a=>exact λH' s'=>hr H' D (w.keep s') (S.mono _ _ (Xh s') s) (PZ.tr (FdOk.tr (Fd:=FTd K o) D) (Xh s') P))
variable {Fd:Ends->β->Hp->Prop}[fd:FdOk Fd]
theorem Iw {ta:TE}{o:OE α}[MonoO o]{q:OE γ}[zq:MonoO q]{m:Rs α}{f:List α×γ->Rs β}{v:V}{a:List α×γ}{C:List Xo}(i k:Nat)(hσ:σ[i]?=some (some v))(hk:OO[k]?=some C)(h:∀x,S.p x->oT2 (oL o) q K x v a C)(he:Ev K Er S OO OO σ ta o m)
  (hr:∀b C',Sv Er (S.addO K (oT2 (oL o) q) v b C') (OO.set k C') σ u Fd (f b)):Sv Er S OO σ (Zv (Kw (tBM K "list" UL (tOp (FR K) (JQ i) (tC (.int 0))) (Xn ta YF))) u) Fd (m.bind λb=>chk (a.1.length<sizeLine) (f (a.1++[b],a.2))):=λH D w s P=>by
 obtain⟨pt,x,y,C1,C2,e,ht,⟨p,xs,Cs,ex,qx,c1⟩,hy,c⟩:=h _ s
 subst c1 c e ex
 have hH:H p=some (.lst xs):=w.tr (p, .lst xs) (List.mem_flatten.mpr ⟨_,List.mem_of_getElem? hk,by simp⟩)
 refine⟨_,hσ,pt,_,0,_,rfl,rfl,SqT.of (Xu _ _ ht),rfl, .inl ⟨rfl,_,SqL.of hH⟩,he H _ w s ?_⟩
 cases m with
 |bad=>exact P
 |err x=>exact λH' s'=>P H' (Xu.trans s')
 |ok b=>
  intro z D' H' s1 w' m' ho
  have P:PZ Er (Fd D) (hid H OO) (chk (a.1.length<sizeLine) (f (a.1++[b],a.2))):=P
  obtain⟨hz,P⟩:=PZ.chk P
  have q2:=qx.imp λ_ _ _ z=>MonoO.mono m' z
  have hy2:=zq.mono m' hy
  have hp1:=XL hk
  have w3:W [D'++(((p,HO.lst xs)::Cs.flatten++C2)++(OO.set k []).flatten)] H':=w'.of (by
   simp only[List.flatten_cons,List.flatten_nil,List.append_nil]
   exact(by simpa using hp1:(((p,HO.lst xs)::Cs.flatten++C2)++(OO.set k []).flatten).Perm OO.flatten).append_left D')
  have hin:∀c∈(Cs++[D']).flatten++C2,c∈D'++(((p,HO.lst xs)::Cs.flatten++C2)++(OO.set k []).flatten):=λc hc=>by
   rw[YW,List.mem_append,List.mem_append] at hc
   rcases hc with(hc |hc) |hc<;> simp[hc]
  have nd3:=w3.nd
  simp only[fl,List.flatten_cons,List.flatten_nil,List.append_nil] at nd3
  have hpe:(D'++(((p,HO.lst xs)::Cs.flatten++C2)++(OO.set k []).flatten)).Perm (((p,HO.lst (xs++[z]))::((Cs++[D']).flatten++C2)).tail++((p,HO.lst xs)::(OO.set k []).flatten)):=by
   rw[List.tail_cons,YW]
   have e1:(D'++(((p,HO.lst xs)::Cs.flatten++C2)++(OO.set k []).flatten)).Perm ((D'++(Cs.flatten++C2))++((p,HO.lst xs)::(OO.set k []).flatten)):=by
    rw[List.append_assoc D' (Cs.flatten++C2)]
    refine List.Perm.append_left D' ?_
    rw[List.cons_append,List.cons_append]
    exact List.perm_middle.symm
   refine e1.trans (List.Perm.append_right _ ?_)
   rw[←List.append_assoc]
   exact List.Perm.append_right _ List.perm_append_comm
  have nd4:=(hpe.map (·.1)).nodup_iff.mp nd3
  rw[List.tail_cons,List.map_append,List.nodup_append] at nd4
  have hne:∀c∈(Cs++[D']).flatten++C2,c.1≠p:=λc hc ee=>nd4.2.2 c.1 (List.mem_map.mpr ⟨c,hc,rfl⟩) p (by simp) ee
  have hH':H' p=some (.lst xs):=w3.tr (p, .lst xs) (by simp)
  obtain⟨w5,m5⟩:=Hu (C':=(p, .lst (xs++[z]))::((Cs++[D']).flatten++C2)) (p:=p) (o:=.lst (xs++[z])) w' hk (by simp) (by simp) (by
   rw[List.map_cons,List.nodup_cons]
   refine⟨λhm=>?_,nd4.1⟩
   obtain⟨c,hc,ee⟩:=List.mem_map.mp hm
   exact hne c hc ee) (λc hc=>by
   rw[List.map_cons,List.mem_cons] at hc
   rcases hc with rfl |hc
   ·simp
   ·obtain⟨d,hd,rfl⟩:=List.mem_map.mp hc
    rw[YW,List.mem_append,List.mem_append] at hd
    refine List.mem_map.mpr ⟨d,?_,rfl⟩
    rcases hd with(hd |hd) |hd<;> simp[hd]) (λc hc=>by
   rcases List.mem_cons.mp hc with rfl |hc
   ·exact Yk
   ·rw[XF (hne c hc)]
    exact w3.tr c (by simpa using hin c hc)) (λc hc=>by
   rcases List.mem_cons.mp hc with rfl |hc
   ·rfl
   ·exact w3.mu c (by simpa using hin c hc))
  refine⟨p,xs,z,rfl,rfl,hH',by rw[(P3.len qx).1];exact hz,?_⟩
  refine hr _ _ _ D w5 ⟨S.mono _ _ (m'.trans m5) s,?_⟩ (PZ.tr (fd.tr D) (m'.trans m5) P)
  exact⟨pt,_,y,(p, .lst (xs++[z]))::(Cs++[D']).flatten,C2,rfl,m5 _ _ (m' _ _ ht),⟨p,xs++[z],Cs++[D'],rfl,(q2.snoc ho).imp λ_ _ _ z=>MonoO.mono m5 z,rfl⟩,zq.mono m5 hy2,by rw[List.cons_append]⟩
end
theorem NJ {X:Cx}{α:Type}[DecidableEq α]{r:Enc α}{d:Nat}(K:PySem.W.Frag)(h:X.K=K)(E:EqOk r d)(hu:X.A.units+d<cLine):OpR X (compareOp .Eq) (RK K r):=by subst h;exact PL E hu
theorem HB {X:Cx}{α:Type}[DecidableEq α]{r:Enc α}{d:Nat}(K:PySem.W.Frag)(h:X.K=K)(E:EqOk r d)(hu:X.A.units+d<cLine):OpR X (compareOp .NotEq) (RI K r):=by subst h;exact PY E hu
section
variable {α β γ δ ρ:Type}{K:PySem.W.Frag}{Er:Exc->Hp->Prop}{S T:SC}{OO:List (List Xo)}{σ l:St}{i j k n:Nat}{v w:V}{x:Option V}{r:Enc α}{q:Enc β}{t:Enc γ}{o:OE α}{a:α}{C D:List Xo}{te ta tb tc:TE}
class Nn (i j:Nat):Prop where h:i≠j
instance:Nn 0 (j+1):=⟨by omega⟩
instance:Nn (i+1) 0:=⟨by omega⟩
instance [x:Nn i j]:Nn (i+1) (j+1):=⟨by have:=x.h;omega⟩
class Lk {β:Type}(l:List β)(k:Nat):Prop where h:k<l.length
instance {b:β}{l:List β}:Lk (b::l) 0:=⟨by simp⟩
instance {b:β}{l:List β}[x:Lk l k]:Lk (b::l) (k+1):=⟨by simpa using x.h⟩
instance {b:β}{l:List β}[x:Lk l k]:Lk (l.set j b) k:=⟨by simpa using x.h⟩
instance {b:β}:Lk (List.replicate (n+1) b) 0:=⟨by simp⟩
instance {b:β}[x:Lk (List.replicate n b) k]:Lk (List.replicate (n+1) b) (k+1):=⟨by simpa using x.h⟩
class Sl (σ:St)(i:Nat)(v:outParam V):Prop where h:σ[i]?=some (some v)
instance:Sl (some v::l) 0 v:=⟨rfl⟩
instance [y:Sl l i v]:Sl (x::l) (i+1) v:=⟨y.h⟩
instance [y:Lk σ i]:Sl (σ.set i (some v)) i v:=⟨by simp[y.h]⟩
instance [y:Sl σ i v][z:Nn j i]:Sl (σ.set j x) i v:=⟨by rw[List.getElem?_set_ne z.h];exact y.h⟩
class Cp (caps:List (Nat×Str))(j:Nat)(i:outParam Nat):Prop where h:∃s,caps[j]?=some (i,s)
instance {s:Str}{c:List (Nat×Str)}:Cp ((i,s)::c) 0 i:=⟨s,rfl⟩
instance {p:Nat×Str}{c:List (Nat×Str)}[y:Cp c j i]:Cp (p::c) (j+1) i:=⟨y.h⟩
instance {s:Str}{z:List Str}{c:List (Nat×Str)}:Lk (Yb (List.length (s::z)) c σ) 0:=⟨by unfold Yb;simp;omega⟩
instance {s s':Str}{z:List Str}{c:List (Nat×Str)}:Lk (Yb (List.length (s::s'::z)) c σ) 1:=⟨by unfold Yb;simp;omega⟩
instance {s:Str}{c:List (Nat×Str)}[y:Cp c j i][z:Sl σ i v]:Sl (Yb (List.length [s]) c σ) (j+1) v:=⟨by
 obtain⟨s,h⟩:=y.h
 unfold Yb
 rw[List.getElem?_append_right (by simp),List.getElem?_map]
 simp[h,z.h]⟩
instance {s s':Str}{c:List (Nat×Str)}[y:Cp c j i][z:Sl σ i v]:Sl (Yb (List.length [s,s']) c σ) (j+2) v:=⟨by
 obtain⟨s,h⟩:=y.h
 unfold Yb
 rw[List.getElem?_append_right (by simp),List.getElem?_map]
 simp[h,z.h]⟩
class Ow (OO:List (List Xo))(k:outParam Nat)(C:List Xo):Prop where h:OO[k]?=some C
instance:Ow (C::OO) 0 C:=⟨rfl⟩
instance [y:Ow OO k C]:Ow (D::OO) (k+1) C:=⟨y.h⟩
instance [y:Lk OO k]:Ow (OO.set k C) k C:=⟨by simp[y.h]⟩
instance [y:Ow OO k C][z:Nn j k]:Ow (OO.set j D) k C:=⟨by rw[List.getElem?_set_ne z.h];exact y.h⟩
class Fc (S:SC)(K:PySem.W.Frag)(v:V){α:outParam Type}(r:outParam (Enc α))(a:outParam α):Prop where h:∀x,S.p x->r K x v a
instance [MonoE r]:Fc (S.and (SC.one K r v a)) K v r a:=⟨λ_ s=>s.2⟩
instance (priority:=900)[y:Fc S K v r a]:Fc (S.and T) K v r a:=⟨λx s=>y.h x s.1⟩
class Fo (S:SC)(K:PySem.W.Frag)(v:V){α:outParam Type}(o:outParam (OE α))(a:outParam α)(C:outParam (List Xo)):Prop where h:∀x,S.p x->o K x v a C
instance [MonoO o]:Fo (S.and (SC.oneO K o v a C)) K v o a C:=⟨λ_ s=>s.2⟩
instance (priority:=900)[y:Fo S K v o a C]:Fo (S.and T) K v o a C:=⟨λx s=>y.h x s.1⟩
class Su (S T:SC):Prop where h:∀x,S.p x->T.p x
instance:Su S S:=⟨λ_ s=>s⟩
instance (priority:=900):Su S SC.nil:=⟨λ_ _=>SC.t⟩
instance (priority:=800)[MonoE r][y:Su S T][z:Fc S K v r a]:Su S (T.and (SC.one K r v a)):=⟨λx s=>⟨y.h x s,z.h x s⟩⟩
instance (priority:=800)[MonoO o][y:Su S T][z:Fo S K v o a C]:Su S (T.and (SC.oneO K o v a C)):=⟨λx s=>⟨y.h x s,z.h x s⟩⟩
instance (priority:=700){T':SC}[y:Su S T']:Su (S.and T) T':=⟨λx s=>y.h x s.1⟩
variable (K Er S OO σ te) in
class CB {α:outParam Type}(r:outParam (Enc α))(m:outParam (Rs α)):Prop where h:EvB K Er S OO σ te r m
variable (K Er S OO σ te) in
class CW {α:Type}(r:Enc α)(m:outParam (Rs α)):Prop where h:EvB K Er S OO σ te r m
variable (K Er S OO σ te) in
class CS {α:outParam Type}(r:outParam (Enc α))(m:outParam (Rs α)):Prop where h:EvS K Er S OO σ te r m
variable (K Er S OO σ te) in
class CV {α:Type}(r:Enc α)(m:outParam (Rs α)):Prop where h:EvS K Er S OO σ te r m
variable (K Er S OO σ te) in
class CN {α:outParam Type}(o:outParam (OE α))(m:outParam (Rs α)):Prop where h:Ev K Er S OO OO σ te o m
variable (K Er S OO σ te) in
class CM {α:outParam Type}(o:outParam (OE α))(m:outParam (Rs α)):Prop where h:Ev K Er S OO OO σ te o m
variable (K Er S OO σ te) in
class CO {α:Type}(o:OE α)(m:outParam (Rs α)):Prop where h:Ev K Er S OO OO σ te o m
variable (K Er S OO σ te) in
class CL {α:outParam Type}(r:outParam (Enc α))(m:outParam (Rs (List α))):Prop where h:EvL K Er S OO σ te r m
class CT (K:PySem.W.Frag)(Er:Exc->Hp->Prop)(S:SC)(OO:List (List Xo))(σ:St)(tt:TT)(m:outParam (Rs Bool)):Prop where h:EvT Er S OO σ tt m
class CP (K:PySem.W.Frag)(Er:Exc->Hp->Prop)(S:SC)(OO:List (List Xo))(σ:St)(tt:TO)(m:outParam (Rs (Option Int))):Prop where h:EvP Er S OO σ tt m
variable (K Er S OO σ) in
class CA {α:Type}(t:TA)(r:Enc α)(m:outParam (Rs (List α))):Prop where h:EvA K Er S OO σ t r m
variable (K Er S OO σ) in
class Cw (wi:TI){α:outParam Type}(r:outParam (Enc α))(m:outParam (Rs (List α))):Prop where h:Walk K Er S OO σ wi r m
variable {m m':Rs α}{ml:Rs (List α)}{mi mj:Rs Int}{mb mc:Rs Bool}{ms:Rs Str}{tt tu:TT}
theorem qB [c:CB K Er S OO σ te r m]:EvB K Er S OO σ te r m:=c.h
theorem qs [c:CV K Er S OO σ te r m]:EvS K Er S OO σ te r m:=c.h
theorem qS [c:CS K Er S OO σ te r m]:EvS K Er S OO σ te r m:=c.h
theorem qn [c:CO K Er S OO σ te o m]:Ev K Er S OO OO σ te o m:=c.h
theorem qN [c:CN K Er S OO σ te o m]:Ev K Er S OO OO σ te o m:=c.h
theorem qM [c:CM K Er S OO σ te o m]:Ev K Er S OO OO σ te o m:=c.h
theorem ql [c:CL K Er S OO σ te r ml]:EvL K Er S OO σ te r ml:=c.h
variable (K) in
theorem qt [c:CT K Er S OO σ tt mb]:EvT Er S OO σ tt mb:=c.h
variable (K) in
theorem qp {tt:TO}{m:Rs (Option Int)}[c:CP K Er S OO σ tt m]:EvP Er S OO σ tt m:=c.h
theorem qa {t:TA}[c:CA K Er S OO σ t r ml]:EvA K Er S OO σ t r ml:=c.h
theorem qw {wi:TI}[c:Cw K Er S OO σ wi r ml]:Walk K Er S OO σ wi r ml:=c.h
-- as wanted
instance [c:CB K Er S OO σ te r m]:CW K Er S OO σ te r m:=⟨c.h⟩
instance (priority:=900){m:Rs (Option α)}[c:CB K Er S OO σ te (Qp r) m]:CW K Er S OO σ te r (m.bind OR):=⟨GX c.h⟩
instance [FlatE r][c:CW K Er S OO σ te r m]:CV K Er S OO σ te r m:=⟨EvB.sh c.h⟩
instance (priority:=900)[c:CS K Er S OO σ te r m]:CV K Er S OO σ te r m:=⟨c.h⟩
instance [c:CN K Er S OO σ te o m]:CO K Er S OO σ te o m:=⟨c.h⟩
instance (priority:=900)[c:CV K Er S OO σ te r m]:CO K Er S OO σ te (oF r) m:=⟨EvS.ev c.h⟩
instance [c:CN K Er S OO σ te o m]:CM K Er S OO σ te o m:=⟨c.h⟩
instance (priority:=900)[c:CS K Er S OO σ te r m]:CM K Er S OO σ te (oF r) m:=⟨EvS.ev c.h⟩
instance {o:OE α}:CO K Er S OO σ (BG YF) (oL o) (.ok []):=⟨Zi⟩
-- one of the other
instance (priority:=500)[FrzC o r][c:CN K Er S OO σ te o m]:CB K Er S OO σ te r m:=⟨Ev.toB c.h⟩
instance (priority:=600)[FlatE r][c:CB K Er S OO σ te r m]:CS K Er S OO σ te r m:=⟨EvB.sh c.h⟩
instance (priority:=500)[FrzC o r][c:CN K Er S OO σ te o m]:CS K Er S OO σ te r m:=⟨Ev.sh c.h⟩
instance (priority:=700)[c:CS K Er S OO σ te (rV r) ml]:CL K Er S OO σ te r ml:=⟨EvS.ls c.h⟩
instance (priority:=600)[FlatE r][c:CB K Er S OO σ te (rV r) ml]:CL K Er S OO σ te r ml:=⟨EvB.ls c.h⟩
instance (priority:=800)[MonoE r][c:CN K Er S OO σ te (oL (oF r)) ml]:CL K Er S OO σ te r ml:=⟨Ev.ls c.h⟩
-- names
instance [y:Sl σ i v][z:Fc S K v r a][MonoE r]:CB K Er S OO σ (JQ i) r (.ok a):=⟨XD i y.h z.h⟩
instance (priority:=900)[y:Sl σ i v][z:Fo S K v o a C][u:Ow OO k C][FrzC o r]:CB K Er S OO σ (JQ i) r (.ok a):=⟨F0 i k y.h u.h z.h⟩
instance [y:Sl σ i v][z:Fc S K v r a]:CS K Er S OO σ (JQ i) r (.ok a):=⟨Zl i y.h z.h⟩
-- constants
instance {n:Int}:CB K Er S OO σ (tC (.int n)) Xd (.ok n):=⟨FC n⟩
instance {b:Bool}:CB K Er S OO σ (tC (.bl b)) XN (.ok b):=⟨PN b⟩
-- numbers
section
variable [x':CW K Er S OO σ ta Xd mi][y':CW K Er S OO σ tb Xd mj]
instance:CB K Er S OO σ (tOp (rI0 λi j=>V.int (i+j)) ta tb) Xd (mi.bind λa=>mj.bind λb=>.ok (a+b)):=⟨B9 x'.h y'.h⟩
instance:CB K Er S OO σ (tOp (rI0 λi j=>V.int (i-j)) ta tb) Xd (mi.bind λa=>mj.bind λb=>.ok (a-b)):=⟨Nk x'.h y'.h⟩
instance:CB K Er S OO σ (tOp (rI OM λi j=>V.int (i*j)) ta tb) Xd (mi.bind λa=>mj.bind λb=>Mp a b):=⟨Ni x'.h y'.h⟩
instance:CB K Er S OO σ (tOp (rI (λx j=>(0:Int)<j) λi j=>V.int (i % j)) ta tb) Xd (mi.bind λa=>mj.bind λb=>Pf a b):=⟨Of x'.h y'.h⟩
instance:CB K Er S OO σ (tOp (rI (λx j=>(0:Int)<j/\j.natAbs.log2<9000) λi j=>V.int (i/j)) ta tb) Xd (mi.bind λa=>mj.bind λb=>R0 a b):=⟨Oa x'.h y'.h⟩
instance:CB K Er S OO σ (tOp (rI R5 λi j=>V.int (i^j.toNat)) ta tb) Xd (mi.bind λa=>mj.bind λb=>RO a b):=⟨Ol x'.h y'.h⟩
instance:CB K Er S OO σ (tOp (rI0 λi j=>V.bl (decide (i<j))) ta tb) XN (mi.bind λa=>mj.bind λb=>.ok (decide (a<b))):=⟨MA x'.h y'.h⟩
instance:CB K Er S OO σ (tOp (rI0 λi j=>V.bl (decide (i<=j))) ta tb) XN (mi.bind λa=>mj.bind λb=>.ok (decide (a<=b))):=⟨Px x'.h y'.h⟩
instance:CB K Er S OO σ (tOp (rI0 λi j=>V.bl (decide (j<i))) ta tb) XN (mi.bind λa=>mj.bind λb=>.ok (decide (b<a))):=⟨Mt x'.h y'.h⟩
instance:CB K Er S OO σ (tCB (λxs H Q=>∃ (i:Int),∃(j:Int),xs=[V.int i,V.int j]/\Q (V.int (if j > i then j else i)) H) (Xn ta (Xn tb YF))) Xd (mi.bind λa=>mj.bind λb=>.ok (max a b)):=⟨N3 x'.h y'.h⟩
instance:CB K Er S OO σ (tCB (λxs H Q=>∃ (i:Int),∃(j:Int),xs=[V.int i,V.int j]/\Q (V.int (if j<i then j else i)) H) (Xn ta (Xn tb YF))) Xd (mi.bind λa=>mj.bind λb=>.ok (min a b)):=⟨N5 x'.h y'.h⟩
instance:Cw K Er S OO σ (Nh (Xn ta (Xn tb YF))) Xd (mi.bind λlo=>mj.bind λn=>Bd lo n):=⟨F8 x'.h y'.h⟩
instance:Cw K Er S OO σ (N1 (Xn ta YF)) Xd (mi.bind λn=>Bd (0:Int) n):=⟨JL x'.h⟩
instance:CB K Er S OO σ (tUn (rU λi=>V.int (-i)) ta) Xd (mi.bind λa=>.ok (-a)):=⟨NX x'.h⟩
instance:CP K Er S OO σ (N6 ta) (mi.bind λi=>.ok (some i)):=⟨Ly x'.h⟩
instance:CP K Er S OO σ FQ (.ok none):=⟨LC⟩
end
section
variable [DecidableEq α][Scal r][MonoE r][y':CB K Er S OO σ tb r m'][x':CW K Er S OO σ ta r m]
instance:CB K Er S OO σ (tOp rEq ta tb) XN (m.bind λa=>m'.bind λb=>.ok (decide (a=b))):=⟨Um x'.h y'.h⟩
instance:CB K Er S OO σ (tOp rNe ta tb) XN (m.bind λa=>m'.bind λb=>.ok !decide (a=b)):=⟨HY x'.h y'.h⟩
end
section
variable [DecidableEq α][Scal r][MonoE r][x':CB K Er S OO σ ta r m][y':CW K Er S OO σ tb r m']
instance (priority:=900):CB K Er S OO σ (tOp rEq ta tb) XN (m.bind λa=>m'.bind λb=>.ok (decide (a=b))):=⟨Um x'.h y'.h⟩
instance (priority:=900):CB K Er S OO σ (tOp rNe ta tb) XN (m.bind λa=>m'.bind λb=>.ok !decide (a=b)):=⟨HY x'.h y'.h⟩
end
section
variable {m m':Rs Mx}[x':CB K Er S OO σ ta rMx m][y':CB K Er S OO σ tb rMx m']
end
section
variable [DecidableEq α][MonoE r][x':CB K Er S OO σ ta r m][y':CW K Er S OO σ tb r m']
instance:CB K Er S OO σ (tOp (RK K r) ta tb) XN (m.bind λa=>m'.bind λb=>.ok (decide (a=b))):=⟨B8 x'.h y'.h⟩
instance:CB K Er S OO σ (tOp (RI K r) ta tb) XN (m.bind λa=>m'.bind λb=>.ok !decide (a=b)):=⟨Ik x'.h y'.h⟩
end
-- truths
section
variable [x':CW K Er S OO σ ta XN mb][y':CW K Er S OO σ tb XN mc][u':CT K Er S OO σ tt mb][w':CT K Er S OO σ tu mc]
instance:CT K Er S OO σ (tB ta) mb:=⟨Iv x'.h⟩
instance:CT K Er S OO σ (Oy ta) mb:=⟨XY x'.h⟩
instance:CT K Er S OO σ (RS tt) (mb.bind λb=>.ok !b):=⟨NP u'.h⟩
instance:CT K Er S OO σ (RP tt tu) (OQ mb mc):=⟨NI u'.h w'.h⟩
instance:CT K Er S OO σ (tOr tt tu) (orR mb mc):=⟨L6 u'.h w'.h⟩
instance:CB K Er S OO σ (NF ta tb) XN (OQ mb mc):=⟨LI x'.h y'.h⟩
end
section
variable [u':CT K Er S OO σ tt mb][x':CB K Er S OO σ ta r m][y':CW K Er S OO σ tb r m']
end
-- items
section
variable [MonoE r][j':CW K Er S OO σ tb Xd mi]
section
variable [x':CB K Er S OO σ ta (rV r) ml]
instance:CB K Er S OO σ (tOp (BN K) ta tb) r (ml.bind λas=>mi.bind λi=>atR as i):=⟨Vz x'.h j'.h⟩
end
section
variable [x':CB K Er S OO σ ta (rPL r) ml]
instance:CB K Er S OO σ (tOp (FR K) ta tb) r (ml.bind λas=>mi.bind λi=>atR as i):=⟨OI x'.h j'.h⟩
end
section
variable [x':CL K Er S OO σ ta r ml]
instance:CS K Er S OO σ (tOp (BN K) ta tb) r (ml.bind λas=>mi.bind λi=>atR as i):=⟨Pu x'.h j'.h⟩
instance:CN K Er S OO σ (tOp R9 ta tb) (oL (oF r)) (ml.bind λas=>mi.bind λn=>Eu as n):=⟨LR x'.h j'.h⟩
end
end
section
variable [x':CB K Er S OO σ ta (rV r) ml]
instance:CB K Er S OO σ (tCB (UU K) (Xn ta YF)) Xd (ml.bind λas=>.ok (as.length:Int)):=⟨Jq x'.h⟩
end
section
variable [x':CB K Er S OO σ ta (rPL r) ml]
instance:CB K Er S OO σ (tCB (UU K) (Xn ta YF)) Xd (ml.bind λas=>.ok (as.length:Int)):=⟨DA x'.h⟩
end
section
variable {m:Rs (Int×Int)}[x':CB K Er S OO σ ta (rP2 Xd Xd) m]
end
section
variable {m:Rs (α×β)}[x':CB K Er S OO σ ta (rP2 r q) m]
instance:CB K Er S OO σ (tOp (FR K) ta (tC (V.int (0:Int)))) r (m.bind λp=>.ok p.fst):=⟨FZ x'.h⟩
instance:CB K Er S OO σ (tOp (FR K) ta (tC (V.int (1:Int)))) q (m.bind λp=>.ok p.snd):=⟨F3 x'.h⟩
end
section
variable {m:Rs (α×β)}[y':CS K Er S OO σ ta (rP2 r q) m]
instance:CS K Er S OO σ (tOp (FR K) ta (tC (V.int (0:Int)))) r (m.bind λp=>.ok p.fst):=⟨M0 y'.h⟩
instance:CS K Er S OO σ (tOp (FR K) ta (tC (V.int (1:Int)))) q (m.bind λp=>.ok p.snd):=⟨MR y'.h⟩
end
-- lists, tuples
section
variable [MonoE r]{t:TA}{ml':Rs (List α)}[x':CL K Er S OO σ ta r ml][y':CL K Er S OO σ tb r ml']{tl th:TO}{pl ph:Rs (Option Int)}[u':CP K Er S OO σ tl pl][w':CP K Er S OO σ th ph]
instance:CN K Er S OO σ (tOp RG ta tb) (oL (oF r)) (ml.bind λas=>ml'.bind λbs=>Ld as bs):=⟨BL x'.h y'.h⟩
instance:CN K Er S OO σ (tSl (Pm K) ta tl th) (oL (oF r)) (ml.bind λas=>pl.bind λlo=>ph.bind λhi=>.ok (BF as lo hi)):=⟨IE x'.h u'.h w'.h⟩
instance:CN K Er S OO σ (tCB (KQ K) (Xn ta YF)) (oL (oF r)) (ml.bind λas=>.ok as):=⟨NC x'.h⟩
end
section
variable [MonoE r]{tl th:TO}{pl ph:Rs (Option Int)}[z':CB K Er S OO σ ta (rPL r) ml][u':CP K Er S OO σ tl pl][w':CP K Er S OO σ th ph]
end
instance [MonoE r]:CA K Er S OO σ YF r (.ok []):=⟨Uc⟩
instance [MonoE r]{t:TA}[x':CV K Er S OO σ ta r m][y':CA K Er S OO σ t r ml]:CA K Er S OO σ (Xn ta t) r (m.bind λa=>ml.bind λas=>.ok (a::as)):=⟨QB x'.h y'.h⟩
instance (priority:=1100)[MonoE r]{t:TA}[x':CA K Er S OO σ t r ml]:CO K Er S OO σ (BG t) (oL (oF r)) (ml.bind λas=>chk (as.length<=sizeLine) (.ok as)):=⟨U6 x'.h⟩
instance (priority:=1100)[MonoE r]{t:TA}[x':CA K Er S OO σ t r ml]:CW K Er S OO σ (BG t) (rV r) (ml.bind λas=>chk (as.length<=sizeLine) (.ok as)):=⟨Ev.toB (U6 x'.h)⟩
section
variable {t:TA}[MonoE r][x':CS K Er S OO σ ta r m][y':CA K Er S OO σ t r ml]
instance:CN K Er S OO σ (BG (Xn ta t)) (oL (oF r)) ((m.bind λa=>ml.bind λas=>.ok (a::as)).bind λas=>chk (as.length<=sizeLine) (.ok as)):=⟨U6 (QB x'.h y'.h)⟩
end
section
variable {m1:Rs β}[MonoE r][MonoE q][x':CS K Er S OO σ ta r m][y':CS K Er S OO σ tb q m1]
instance:CS K Er S OO σ (Mm (Xn ta (Xn tb YF))) (rP2 r q) (m.bind λa=>m1.bind λb=>.ok (a,b)):=⟨V7 x'.h y'.h⟩
end
instance [MonoE r][x':CS K Er S OO σ ta (rV r) ml]:Cw K Er S OO σ (Ff K ta) r ml:=⟨Yn x'.h⟩
-- calls
section
variable {α1 α2 α3 α4:Type}{r1:Enc α1}{r2:Enc α2}{r3:Enc α3}{r4:Enc α4}{m1:Rs α1}{m2:Rs α2}{m3:Rs α3}{m4:Rs α4}{td:TE}{o:OE ρ}[FlatO o][MonoE r1][MonoE r2][MonoE r3]{f1:α1->Rs ρ}{f2:α1->α2->Rs ρ}{f3:α1->α2->α3->Rs ρ}{f4:α1->α2->α3->α4->Rs ρ}[x1:CW K Er S OO σ ta r1 m1][x2:CW K Er S OO σ tb r2 m2][x3:CW K Er S OO σ tc r3 m3][x4:CW K Er S OO σ td r4 m4]
instance:CN K Er S OO σ (Qj (sp1 r1 o f1 K) [] E0 (Xn ta YF)) o (m1.bind λa=>noE (f1 a)):=⟨Kl (o:=o) (f:=f1) x1.h⟩
instance:CN K Er S OO σ (Qj (sp2 r1 r2 o f2 K) [] E0 (Xn ta (Xn tb YF))) o (m1.bind λa=>m2.bind λb=>noE (f2 a b)):=⟨Dy (o:=o) (f:=f2) x1.h x2.h⟩
instance:CN K Er S OO σ (Qj (sp3 r1 r2 r3 o f3 K) [] E0 (Xn ta (Xn tb (Xn tc YF)))) o (m1.bind λa=>m2.bind λb=>m3.bind λc=>noE (f3 a b c)):=⟨KG (o:=o) (f:=f3) x1.h x2.h x3.h⟩
instance:CN K Er S OO σ (Qj (sp4 r1 r2 r3 r4 o f4 K) [] E0 (Xn ta (Xn tb (Xn tc (Xn td YF))))) o (m1.bind λa=>m2.bind λb=>m3.bind λc=>m4.bind λd=>noE (f4 a b c d)):=⟨Lb (o:=o) (f:=f4) x1.h x2.h x3.h x4.h⟩
end
end
section
variable {α β γ δ ρ ι κ κ2:Type}{K:PySem.W.Frag}{Er:Exc->Hp->Prop}{S:SC}{OO:List (List Xo)}{σ:St}{u t tb:TS}{Fd:Ends->β->Hp->Prop}[fd:FdOk Fd]{o:OE ρ}{wi:TI}{g:TG}{r:Enc α}
noncomputable abbrev jn (OO:List (List Xo))(σ:St)(S:SC)(oo:List (List Xo)->ι->List (List Xo))(ss:St->ι->St)(nf:SC->γ->ι->SC):Jn γ ι:=⟨oo OO,ss σ,nf S⟩
variable (oo:List (List Xo)->ι->List (List Xo))(ss:St->ι->St)(nf:SC->γ->ι->SC)
theorem Qh {m:Rs γ}{f:γ->Rs β}(hb:Sv Er S OO σ t (FNd (jn OO σ S oo ss nf)) m)(hr:∀g x,Sv Er (nf S g x) (oo OO x) (ss σ x) u Fd (f g)):Sv Er S OO σ (Zv t u) Fd (m.bind f):=EY hb hr
theorem Rw {J2:Jn δ κ}{m:Rs (Ctl ρ γ)}{f:γ->Rs (Ctl ρ δ)}(hb:Sv Er S OO σ t (FCd K o (jn OO σ S oo ss nf)) m)(hr:∀g x,Sv Er (nf S g x) (oo OO x) (ss σ x) u (FCd K o J2) (f g)):Sv Er S OO σ (Zv t u) (FCd K o J2) (m.bind (Jm f)):=Ko hb hr
theorem Mr {c:TT}{mc:γ->Rs Bool}{body:γ->Rs γ}{f:γ->Rs β}(n:Nat)(x0:ι)(g0:γ)(h1:OO=oo OO x0)(h2:σ=ss σ x0)(h3:∀h,S.p h->(nf S g0 x0).p h)(hc:∀g x,EvT Er (nf S g x) (oo OO x) (ss σ x) c (mc g))(hb:∀g x,Sv Er (nf S g x) (oo OO x) (ss σ x) tb (FNd (jn OO σ S oo ss nf)) (body g))(hr:∀g x,Sv Er (nf S g x) (oo OO x) (ss σ x) u Fd (f g)):Sv Er S OO σ (Zv (CG c tb) u) Fd ((Ui n g0 mc body).bind f):=IX (jn OO σ S oo ss nf) n x0 g0 h1 h2 h3 hc hb hr
variable (K)
theorem VC {m:Rs (List α)}{body:γ->α->Rs γ}{f:γ->Rs β}(T:∀OO,Tgt K OO g r κ)(x0:ι)(g0:γ)(he:Walk K Er S OO σ wi r m)(h1:OO=oo OO x0)(h2:σ=ss σ x0)(h3:∀h,S.p h->(nf S g0 x0).p h)(hb:∀g x a v,Sv Er ((T (oo OO x)).sc a v (nf S g x)) (oo OO x) ((T (oo OO x)).set v (ss σ x)) tb (FNd (jn OO σ S oo ss nf)) (body g a))(hr:∀g x,Sv Er (nf S g x) (oo OO x) (ss σ x) u Fd (f g)):Sv Er S OO σ (Zv (Iq wi g tb) u) Fd (m.bind λas=>(forN as g0 body).bind f):=EG (jn OO σ S oo ss nf) T x0 g0 he h1 h2 h3 hb hr
theorem Da {m:Rs (List α)}{body:γ->α->Rs (Ctl ρ γ)}{f:γ->Rs ρ}(T:∀OO,Tgt K OO g r κ)(x0:ι)(g0:γ)(he:Walk K Er S OO σ wi r m)(h1:OO=oo OO x0)(h2:σ=ss σ x0)(h3:∀h,S.p h->(nf S g0 x0).p h)(hb:∀g x a v,Sv Er ((T (oo OO x)).sc a v (nf S g x)) (oo OO x) ((T (oo OO x)).set v (ss σ x)) tb (FCd K o (jn OO σ S oo ss nf)) (body g a))(hr:∀g x,Sv Er (nf S g x) (oo OO x) (ss σ x) u (FTd K o) (f g)):Sv Er S OO σ (Zv (Iq wi g tb) u) (FTd K o) (m.bind λas=>(Kk as g0 body).bind (Ve f)):=Ee (jn OO σ S oo ss nf) T x0 g0 he h1 h2 h3 hb hr
theorem Cg {J2:Jn δ κ2}{m:Rs (List α)}{body:γ->α->Rs (Ctl ρ γ)}{f:γ->Rs (Ctl ρ δ)}(T:∀OO,Tgt K OO g r κ)(x0:ι)(g0:γ)(he:Walk K Er S OO σ wi r m)(h1:OO=oo OO x0)(h2:σ=ss σ x0)(h3:∀h,S.p h->(nf S g0 x0).p h)(hb:∀g x a v,Sv Er ((T (oo OO x)).sc a v (nf S g x)) (oo OO x) ((T (oo OO x)).set v (ss σ x)) tb (FCd K o (jn OO σ S oo ss nf)) (body g a))(hr:∀g x,Sv Er (nf S g x) (oo OO x) (ss σ x) u (FCd K o J2) (f g)):Sv Er S OO σ (Zv (Iq wi g tb) u) (FCd K o J2) (m.bind λas=>(Kk as g0 body).bind (Jm f)):=IR (jn OO σ S oo ss nf) T x0 g0 he h1 h2 h3 hb hr
theorem Rq {ti:TE}[MonoE r]{mi:Rs Int}{body:γ->α->Rs γ}{f:γ->Rs β}{v:V}{as:List (List α)}{C:List Xo}{n k:Nat}[y:Sl σ n v][z:Fo S K v (oL (oL (oF r))) as C][q:Ow OO k C](hi:EvB K Er S OO σ ti Xd mi)(T:∀OO,Tgt K OO g r κ)(x0:ι)(g0:γ)(hC:∀x,(oo OO x)[k]?=some C)(h1:OO=oo OO x0)(h2:σ=ss σ x0)(h3:∀h,S.p h->(nf S g0 x0).p h)
  (hb:∀g x a v,Sv Er ((T (oo OO x)).sc a v (nf S g x)) (oo OO x) ((T (oo OO x)).set v (ss σ x)) tb (FNd (jn OO σ S oo ss nf)) (body g a))(hr:∀g x,Sv Er (nf S g x) (oo OO x) (ss σ x) u Fd (f g)):Sv Er S OO σ (Zv (Iq (Ff K (tOp (BN K) (JQ n) ti)) g tb) u) Fd (mi.bind λi=>(atR as i).bind λrow=>(forN row g0 body).bind f):=Iy n k y.h q.h z.h hi (jn OO σ S oo ss nf) T x0 g0 hC h1 h2 h3 hb hr
end
section
variable {α β γ δ ρ:Type}(K:PySem.W.Frag){Er:Exc->Hp->Prop}{S:SC}{OO OO':List (List Xo)}{σ:St}{u:TS}{Fd:Ends->β->Hp->Prop}[fd:FdOk Fd]{o:OE α}{r:Enc α}{te ta:TE}{i k:Nat}{m:Rs α}{f:α->Rs β}{v:V}{as:List α}{C:List Xo}
theorem YQ [MonoE r](he:EvS K Er S OO σ te r m)(hr:∀a v,Sv Er (S.add K r v a) OO (σ.set i (some v)) u Fd (f a)):Sv Er S OO σ (Zv (Bf te (YE i)) u) Fd (m.bind f):=DC i he hr
theorem Y9 [MonoO o](k:Nat)[y:Lk OO k](he:Ev K Er S OO OO σ te o m)(hr:∀a v C,Sv Er (S.addO K o v a C) (OO.set k C) (σ.set i (some v)) u Fd (f a)):Sv Er S OO σ (Zv (Bf te (YE i)) u) Fd (m.bind f):=JI i k he y.h hr
variable {K} in
theorem Jg {a:α}[y:Sl σ i v][z:Fo S K v o a C][q:Ow OO k C]:Ev K Er S OO (OO.set k []) σ (JQ i) o (.ok a):=JT i k y.h q.h z.h
theorem Fi {f:List α->Rs β}[MonoO o][y:Sl σ i v][z:Fo S K v (oL o) as C](he:Ev K Er S OO OO' σ ta o m)[q:Ow OO k C][q':Ow OO' k C](hr:∀zs C',Sv Er (S.addO K (oL o) v zs C') (OO'.set k C') σ u Fd (f zs)):Sv Er S OO σ (Zv (Kw (tBM K "list" UL (JQ i) (Xn ta YF))) u) Fd (m.bind λa=>chk (as.length<sizeLine) (f (as++[a]))):=BT i k y.h q.h q'.h z.h he λa C'=>hr _ C'
theorem Sg {m:Rs (List α)}{f:List α->Rs β}[MonoO o][y:Sl σ i v][z:Fo S K v (oL o) as C](he:Ev K Er S OO OO' σ ta (oL o) m)[q:Ow OO k C][q':Ow OO' k C](hr:∀zs C',Sv Er (S.addO K (oL o) v zs C') (OO'.set k C') σ u Fd (f zs)):Sv Er S OO σ (Zv (Kw (tBM K "list" Fs (JQ i) (Xn ta YF))) u) Fd (m.bind λbs=>chk (as.length+bs.length<=sizeLine) (f (as++bs))):=Hg i k y.h q.h q'.h z.h he λa C'=>hr _ C'
theorem S1 {ti:TE}{mi:Rs Int}{x:Nat}[MonoE r]{f:α->List α->Rs β}[y:Sl σ i v][z:Fo S K v (oL (oF r)) as C][q:Ow OO k C](hi:EvB K Er S OO σ ti Xd mi)(hr:∀a bs y C',Sv Er ((S.add K r y a).addO K (oL (oF r)) v bs C') (OO.set k C') (σ.set x (some y)) u Fd (f a bs)):Sv Er S OO σ (Zv (Bf (tBM K "list" Dx (JQ i) (Xn ti YF)) (YE x)) u) Fd (mi.bind λj=>(LJ as j).bind λp=>f p.1 p.2):=Pt x i k y.h q.h z.h hi λa bs y C'=>hr a bs y C'
theorem Im {ti:TE}{mi:Rs Int}{f:List α->Rs β}[MonoO o][y:Sl σ i v][z:Fo S K v (oL o) as C][q:Ow OO k C](he:Ev K Er S OO OO σ ta o m)(hi:∀D,EvB K Er S (D::OO) σ ti Xd mi)(hr:∀bs C',Sv Er (S.addO K (oL o) v bs C') (OO.set k C') σ u Fd (f bs)):Sv Er S OO σ (Zv (Bf ta (Sd (JQ i) ti Oo)) u) Fd (m.bind λa=>mi.bind λj=>(Bi as j a).bind f):=IV i k y.h q.h z.h he hi hr
theorem SQ {g:Int->Int->Int}{m:Rs Int}{f:Int->Rs β}{a:Int}[y:Sl σ i v][z:Fc S K v Xd a](he:EvB K Er S OO σ te Xd m)(hr:∀b v,Sv Er (S.add K Xd v b) OO (σ.set i (some v)) u Fd (f b)):Sv Er S OO σ (Zv (RD i te (ipI g)) u) Fd (m.bind λb=>f (g a b)):=OW i y.h z.h he hr
theorem Sa {tv ty:TE}[MonoE r]{mk:Rs Int}{f:List (Int×α)->Rs β}{d:List (Int×α)}[y:Sl σ i v][z:Fo S K v (oD r) d C][q:Ow OO k C](hv:EvS K Er S OO σ tv r m)(hy:EvB K Er S OO σ ty Xd mk)(hr:∀d' C',Sv Er (S.addO K (oD r) v d' C') (OO.set k C') σ u Fd (f d')):Sv Er S OO σ (Zv (Nv (JQ i) ty tv) u) Fd (m.bind λa=>mk.bind λn=>chk (d.length<sizeLine) (f (Bg d n a))):=NG i k y.h q.h z.h hv hy hr
variable {γ' ι:Type}{J:Jn γ ι}
theorem Yc {J:Jn γ ι}(x:ι)(g:γ)(h1:OO=J.oo x)(h2:σ=J.ss x)[h3:Su S (J.sc g x)]:Sv Er S OO σ K9 (FNd J) (.ok g):=Jl x g h1 h2 h3.h
end
theorem Zy {N:List Str}{vs:List V}{j:Nat}(h:N.length=j+vs.length):VU N vs=vs.map some++List.replicate j none:=by
 unfold VU
 rw[show N.length-vs.length=j by omega]
section
variable {ρ:Type}{P:Program}{w:World}{K:PySem.W.Frag}{mg:Str->Option Value}{base:Heap}{x:Str}{st:Stmt}{N ps:List Str}{k:Nat}{o:OE ρ}[MonoO o]
noncomputable abbrev Rm (k:Nat)(x:Str)(st:Stmt)(s:Shared)(f:Addr)(cdv:Value)(A:Around):Prop:=Room k (A.deeper (envOfC x (Xf st) s.heap.objs.size f cdv))
noncomputable abbrev Au (x:Str)(st:Stmt)(s:Shared)(f:Addr)(cdv:Value)(A:Around):Nat:=(A.deeper (envOfC x (Xf st) s.heap.objs.size f cdv)).units
theorem go1 {α0:Type}{r0:Enc α0}[MonoE r0]{m:α0->Rs ρ}(D:Def K mg x st ps)(S:FnScope N ps (Xf st))(j n:Nat)(hN:N.length=j+1)(hp:ps.length=1)
  (hb:∀{f:Addr}{cdv:Value}{A:Around}{outer:List Env}{s:Shared}{H:Hp}{E:XK},Rm k x st s f cdv A->Au x st s f cdv A+8<cLine->Au x st s f cdv A+1<cLine->∃t,PSs (Uj CX0 P w K mg base N x (Xf st) f cdv A outer s H E).nox (XR st) t/\∀v0 a0,Sv (λ_ _=>False) (SC.add SC.nil K r0 v0 a0) (List.replicate n []) (some v0::List.replicate j none) t (FTd K o) (m a0)):Fn P w K mg base (k+1) x ps (sp1 r0 o m K):=by
 refine UH D S (λvs H Q E h=>?_) (λf cdv A outer s H vs Q E hr h=>?_)
 ·obtain⟨v0,a0,b,rfl,_⟩:=h;exact hp.symm
 obtain⟨v0,a0,b,rfl,h0,hm,q⟩:=h
 obtain⟨t,hx,hy⟩:=hb hr (hu8 hr) (Qk hr)
 refine⟨t,hx,?_⟩
 rw[Zy hN]
 exact K1 (S:=(SC.add SC.nil K r0 v0 a0)) (σ:=some v0::List.replicate j none) n (hy v0 a0) (SC.i SC.t h0) hm q rfl
theorem R3 {α0:Type}{r0:Enc α0}[MonoE r0]{m:α0->Rs ρ}(D:Def K mg x st ps)(S:FnScope N ps (Xf st))(j n:Nat)(hN:N.length=j+1)(hp:ps.length=1)
  (hb:∀{f:Addr}{cdv:Value}{A:Around}{outer:List Env}{s:Shared}{H:Hp}{E:XK},Rm k x st s f cdv A->Au x st s f cdv A+8<cLine->Au x st s f cdv A+1<cLine->∃t,PSs (Uj (CXE P w) P w K mg base N x (Xf st) f cdv A outer s H E) (XR st) t/\∀v0 a0,Sv (ErE mg E) (SC.add SC.nil K r0 v0 a0) (List.replicate n []) (some v0::List.replicate j none) t (FTd K o) (m a0)):FnX P w K mg base (k+1) x ps (MD mg r0 o m K):=by
 refine VJ D S (λvs H Q E h=>?_) (λf cdv A outer s H vs Q E hr h=>?_)
 ·obtain⟨v0,a0,rfl,_⟩:=h;exact hp.symm
 obtain⟨v0,a0,rfl,h0,hz⟩:=h
 obtain⟨t,hx,hy⟩:=hb hr (hu8 hr) (Qk hr)
 refine⟨t,hx,?_⟩
 rw[Zy hN]
 exact Cr (S:=(SC.add SC.nil K r0 v0 a0)) (σ:=some v0::List.replicate j none) n (hy v0 a0) (SC.i SC.t h0) hz rfl
theorem go2 {α0 α1:Type}{r0:Enc α0}[MonoE r0]{r1:Enc α1}[MonoE r1]{m:α0->α1->Rs ρ}(D:Def K mg x st ps)(S:FnScope N ps (Xf st))(j n:Nat)(hN:N.length=j+2)(hp:ps.length=2)
  (hb:∀{f:Addr}{cdv:Value}{A:Around}{outer:List Env}{s:Shared}{H:Hp}{E:XK},Rm k x st s f cdv A->Au x st s f cdv A+8<cLine->Au x st s f cdv A+1<cLine->∃t,PSs (Uj CX0 P w K mg base N x (Xf st) f cdv A outer s H E).nox (XR st) t/\∀v0 v1 a0 a1,Sv (λ_ _=>False) (SC.add (SC.add SC.nil K r0 v0 a0) K r1 v1 a1) (List.replicate n []) (some v0::some v1::List.replicate j none) t (FTd K o) (m a0 a1)):Fn P w K mg base (k+1) x ps (sp2 r0 r1 o m K):=by
 refine UH D S (λvs H Q E h=>?_) (λf cdv A outer s H vs Q E hr h=>?_)
 ·obtain⟨v0,v1,a0,a1,b,rfl,_⟩:=h;exact hp.symm
 obtain⟨v0,v1,a0,a1,b,rfl,h0,h1,hm,q⟩:=h
 obtain⟨t,hx,hy⟩:=hb hr (hu8 hr) (Qk hr)
 refine⟨t,hx,?_⟩
 rw[Zy hN]
 exact K1 (S:=(SC.add (SC.add SC.nil K r0 v0 a0) K r1 v1 a1)) (σ:=some v0::some v1::List.replicate j none) n (hy v0 v1 a0 a1) (SC.i (SC.i SC.t h0) h1) hm q rfl
theorem O2 {α0 α1:Type}{r0:Enc α0}[MonoE r0]{r1:Enc α1}[MonoE r1]{m:α0->α1->Rs ρ}(D:Def K mg x st ps)(S:FnScope N ps (Xf st))(j n:Nat)(hN:N.length=j+2)(hp:ps.length=2)
  (hb:∀{f:Addr}{cdv:Value}{A:Around}{outer:List Env}{s:Shared}{H:Hp}{E:XK},Rm k x st s f cdv A->Au x st s f cdv A+8<cLine->Au x st s f cdv A+1<cLine->∃t,PSs (Uj (CXE P w) P w K mg base N x (Xf st) f cdv A outer s H E) (XR st) t/\∀v0 v1 a0 a1,Sv (ErE mg E) (SC.add (SC.add SC.nil K r0 v0 a0) K r1 v1 a1) (List.replicate n []) (some v0::some v1::List.replicate j none) t (FTd K o) (m a0 a1)):FnX P w K mg base (k+1) x ps (Bn mg r0 r1 o m K):=by
 refine VJ D S (λvs H Q E h=>?_) (λf cdv A outer s H vs Q E hr h=>?_)
 ·obtain⟨v0,v1,a0,a1,rfl,_⟩:=h;exact hp.symm
 obtain⟨v0,v1,a0,a1,rfl,h0,h1,hz⟩:=h
 obtain⟨t,hx,hy⟩:=hb hr (hu8 hr) (Qk hr)
 refine⟨t,hx,?_⟩
 rw[Zy hN]
 exact Cr (S:=(SC.add (SC.add SC.nil K r0 v0 a0) K r1 v1 a1)) (σ:=some v0::some v1::List.replicate j none) n (hy v0 v1 a0 a1) (SC.i (SC.i SC.t h0) h1) hz rfl
theorem go3 {α0 α1 α2:Type}{r0:Enc α0}[MonoE r0]{r1:Enc α1}[MonoE r1]{r2:Enc α2}[MonoE r2]{m:α0->α1->α2->Rs ρ}(D:Def K mg x st ps)(S:FnScope N ps (Xf st))(j n:Nat)(hN:N.length=j+3)(hp:ps.length=3)
  (hb:∀{f:Addr}{cdv:Value}{A:Around}{outer:List Env}{s:Shared}{H:Hp}{E:XK},Rm k x st s f cdv A->Au x st s f cdv A+8<cLine->Au x st s f cdv A+1<cLine->∃t,PSs (Uj CX0 P w K mg base N x (Xf st) f cdv A outer s H E).nox (XR st) t/\∀v0 v1 v2 a0 a1 a2,Sv (λ_ _=>False) (SC.add (SC.add (SC.add SC.nil K r0 v0 a0) K r1 v1 a1) K r2 v2 a2) (List.replicate n []) (some v0::some v1::some v2::List.replicate j none) t (FTd K o) (m a0 a1 a2)):Fn P w K mg base (k+1) x ps (sp3 r0 r1 r2 o m K):=by
 refine UH D S (λvs H Q E h=>?_) (λf cdv A outer s H vs Q E hr h=>?_)
 ·obtain⟨v0,v1,v2,a0,a1,a2,b,rfl,_⟩:=h;exact hp.symm
 obtain⟨v0,v1,v2,a0,a1,a2,b,rfl,h0,h1,h2,hm,q⟩:=h
 obtain⟨t,hx,hy⟩:=hb hr (hu8 hr) (Qk hr)
 refine⟨t,hx,?_⟩
 rw[Zy hN]
 exact K1 (S:=(SC.add (SC.add (SC.add SC.nil K r0 v0 a0) K r1 v1 a1) K r2 v2 a2)) (σ:=some v0::some v1::some v2::List.replicate j none) n (hy v0 v1 v2 a0 a1 a2) (SC.i (SC.i (SC.i SC.t h0) h1) h2) hm q rfl
theorem Ta {α0 α1 α2:Type}{r0:Enc α0}[MonoE r0]{r1:Enc α1}[MonoE r1]{r2:Enc α2}[MonoE r2]{m:α0->α1->α2->Rs ρ}(D:Def K mg x st ps)(S:FnScope N ps (Xf st))(j n:Nat)(hN:N.length=j+3)(hp:ps.length=3)
  (hb:∀{f:Addr}{cdv:Value}{A:Around}{outer:List Env}{s:Shared}{H:Hp}{E:XK},Rm k x st s f cdv A->Au x st s f cdv A+8<cLine->Au x st s f cdv A+1<cLine->∃t,PSs (Uj (CXE P w) P w K mg base N x (Xf st) f cdv A outer s H E) (XR st) t/\∀v0 v1 v2 a0 a1 a2,Sv (ErE mg E) (SC.add (SC.add (SC.add SC.nil K r0 v0 a0) K r1 v1 a1) K r2 v2 a2) (List.replicate n []) (some v0::some v1::some v2::List.replicate j none) t (FTd K o) (m a0 a1 a2)):FnX P w K mg base (k+1) x ps (RF mg r0 r1 r2 o m K):=by
 refine VJ D S (λvs H Q E h=>?_) (λf cdv A outer s H vs Q E hr h=>?_)
 ·obtain⟨v0,v1,v2,a0,a1,a2,rfl,_⟩:=h;exact hp.symm
 obtain⟨v0,v1,v2,a0,a1,a2,rfl,h0,h1,h2,hz⟩:=h
 obtain⟨t,hx,hy⟩:=hb hr (hu8 hr) (Qk hr)
 refine⟨t,hx,?_⟩
 rw[Zy hN]
 exact Cr (S:=(SC.add (SC.add (SC.add SC.nil K r0 v0 a0) K r1 v1 a1) K r2 v2 a2)) (σ:=some v0::some v1::some v2::List.replicate j none) n (hy v0 v1 v2 a0 a1 a2) (SC.i (SC.i (SC.i SC.t h0) h1) h2) hz rfl
theorem go4 {α0 α1 α2 α3:Type}{r0:Enc α0}[MonoE r0]{r1:Enc α1}[MonoE r1]{r2:Enc α2}[MonoE r2]{r3:Enc α3}[MonoE r3]{m:α0->α1->α2->α3->Rs ρ}(D:Def K mg x st ps)(S:FnScope N ps (Xf st))(j n:Nat)(hN:N.length=j+4)(hp:ps.length=4)
  (hb:∀{f:Addr}{cdv:Value}{A:Around}{outer:List Env}{s:Shared}{H:Hp}{E:XK},Rm k x st s f cdv A->Au x st s f cdv A+8<cLine->Au x st s f cdv A+1<cLine->∃t,PSs (Uj CX0 P w K mg base N x (Xf st) f cdv A outer s H E).nox (XR st) t/\∀v0 v1 v2 v3 a0 a1 a2 a3,Sv (λ_ _=>False) (SC.add (SC.add (SC.add (SC.add SC.nil K r0 v0 a0) K r1 v1 a1) K r2 v2 a2) K r3 v3 a3) (List.replicate n []) (some v0::some v1::some v2::some v3::List.replicate j none) t (FTd K o) (m a0 a1 a2 a3)):Fn P w K mg base (k+1) x ps (sp4 r0 r1 r2 r3 o m K):=by
 refine UH D S (λvs H Q E h=>?_) (λf cdv A outer s H vs Q E hr h=>?_)
 ·obtain⟨v0,v1,v2,v3,a0,a1,a2,a3,b,rfl,_⟩:=h;exact hp.symm
 obtain⟨v0,v1,v2,v3,a0,a1,a2,a3,b,rfl,h0,h1,h2,h3,hm,q⟩:=h
 obtain⟨t,hx,hy⟩:=hb hr (hu8 hr) (Qk hr)
 refine⟨t,hx,?_⟩
 rw[Zy hN]
 exact K1 (S:=(SC.add (SC.add (SC.add (SC.add SC.nil K r0 v0 a0) K r1 v1 a1) K r2 v2 a2) K r3 v3 a3)) (σ:=some v0::some v1::some v2::some v3::List.replicate j none) n (hy v0 v1 v2 v3 a0 a1 a2 a3) (SC.i (SC.i (SC.i (SC.i SC.t h0) h1) h2) h3) hm q rfl
theorem go5 {α0 α1 α2 α3 α4:Type}{r0:Enc α0}[MonoE r0]{r1:Enc α1}[MonoE r1]{r2:Enc α2}[MonoE r2]{r3:Enc α3}[MonoE r3]{r4:Enc α4}[MonoE r4]{m:α0->α1->α2->α3->α4->Rs ρ}(D:Def K mg x st ps)(S:FnScope N ps (Xf st))(j n:Nat)(hN:N.length=j+5)(hp:ps.length=5)
  (hb:∀{f:Addr}{cdv:Value}{A:Around}{outer:List Env}{s:Shared}{H:Hp}{E:XK},Rm k x st s f cdv A->Au x st s f cdv A+8<cLine->Au x st s f cdv A+1<cLine->∃t,PSs (Uj CX0 P w K mg base N x (Xf st) f cdv A outer s H E).nox (XR st) t/\∀v0 v1 v2 v3 v4 a0 a1 a2 a3 a4,Sv (λ_ _=>False) (SC.add (SC.add (SC.add (SC.add (SC.add SC.nil K r0 v0 a0) K r1 v1 a1) K r2 v2 a2) K r3 v3 a3) K r4 v4 a4) (List.replicate n []) (some v0::some v1::some v2::some v3::some v4::List.replicate j none) t (FTd K o) (m a0 a1 a2 a3 a4)):Fn P w K mg base (k+1) x ps (sp5 r0 r1 r2 r3 r4 o m K):=by
 refine UH D S (λvs H Q E h=>?_) (λf cdv A outer s H vs Q E hr h=>?_)
 ·obtain⟨v0,v1,v2,v3,v4,a0,a1,a2,a3,a4,b,rfl,_⟩:=h;exact hp.symm
 obtain⟨v0,v1,v2,v3,v4,a0,a1,a2,a3,a4,b,rfl,h0,h1,h2,h3,h4,hm,q⟩:=h
 obtain⟨t,hx,hy⟩:=hb hr (hu8 hr) (Qk hr)
 refine⟨t,hx,?_⟩
 rw[Zy hN]
 exact K1 (S:=(SC.add (SC.add (SC.add (SC.add (SC.add SC.nil K r0 v0 a0) K r1 v1 a1) K r2 v2 a2) K r3 v3 a3) K r4 v4 a4)) (σ:=some v0::some v1::some v2::some v3::some v4::List.replicate j none) n (hy v0 v1 v2 v3 v4 a0 a1 a2 a3 a4) (SC.i (SC.i (SC.i (SC.i (SC.i SC.t h0) h1) h2) h3) h4) hm q rfl
theorem goL {f:Addr}{fd:FuncData}{α0:Type}{r0:Enc α0}[MonoE r0]{m:α0->Rs ρ}(F:Fun K x x st f fd)(S:FnScope N ps (Xf st))(j n:Nat)(hN:N.length=j+1)(hp:ps.length=1)
  (hb:∀{cdv:Value}{A:Around}{outer:List Env}{s:Shared}{H:Hp}{E:XK},Rm k x st s f cdv A->Au x st s f cdv A+8<cLine->Au x st s f cdv A+1<cLine->∃t,PSs (Uj CX0 P w K mg base N x (Xf st) f cdv A outer s H E).nox (XR st) t/\∀v0 a0,Sv (λ_ _=>False) (SC.add SC.nil K r0 v0 a0) (List.replicate n []) (some v0::List.replicate j none) t (FTd K o) (m a0)):FnOk P w K mg base CX0 (k+1) f fd ps (sp1 r0 o m K):=by
 refine F.ok S (λvs H Q E h=>?_) (λcdv A outer s H vs Q E hr h=>?_)
 ·obtain⟨v0,a0,b,rfl,_⟩:=h;exact hp.symm
 obtain⟨v0,a0,b,rfl,h0,hm,q⟩:=h
 obtain⟨t,hx,hy⟩:=hb hr (hu8 hr) (Qk hr)
 refine⟨t,hx,?_⟩
 rw[Zy hN]
 exact K1 (S:=SC.add SC.nil K r0 v0 a0) (σ:=some v0::List.replicate j none) n (hy v0 a0) (SC.i SC.t h0) hm q rfl
end
noncomputable abbrev Pk (p:Program->World->PySem.W.Frag->(Str->Option Value)->Heap->Prop):Prop:=∀ {P w K mg base},p P w K mg base
section
variable {X:Cx}{a b:Expr}{pos:Pos}{ta tb:TE}(K:PySem.W.Frag)(ha:PE X a ta)(hb:PE X b tb)(h:X.K=K:=by rfl)(hs:Es b:=by exact λ_ _=>rfl)
include ha hb h hs
theorem QT:PE X (.Subscript a b pos) (tOp (FR K) ta tb):=QO (Ul K h) ha hb hs
theorem XS:PE X (.Subscript a b pos) (tOp (BN K) ta tb):=QO (Yv K h) ha hb hs
end
end L2
set_option synthInstance.maxSize 2000
set_option synthInstance.maxHeartbeats 400000
namespace My
open PySem L2
noncomputable abbrev Xq:List Str:=["PlaitError","NoCrossing","TooBig","TooMuch"]
noncomputable def top (i:Nat):Stmt:=PySem.Challenge.pw_plait_k78_sizes_refused.main.body.getD i (.Pass ⟨0,0,0,0⟩)
noncomputable abbrev Z4:Stmt:=top 6
noncomputable abbrev JK:Stmt:=top 7
noncomputable abbrev ZC:Stmt:=top 8
noncomputable abbrev Gb:Stmt:=top 10
noncomputable abbrev ZM:Stmt:=top 11
noncomputable abbrev YX:Stmt:=top 12
noncomputable abbrev Q3:Stmt:=top 13
noncomputable abbrev Zd:Stmt:=top 14
noncomputable abbrev J1:Stmt:=top 17
noncomputable abbrev ZB:Stmt:=top 18
noncomputable abbrev Yi:Stmt:=top 19
noncomputable abbrev X8:Stmt:=top 20
noncomputable abbrev Hb:Stmt:=top 23
noncomputable abbrev QV:Stmt:=top 24
noncomputable abbrev Vy:Stmt:=top 25
noncomputable abbrev Y4:Stmt:=top 26
noncomputable abbrev Z8:Stmt:=top 27
noncomputable abbrev Zb:Stmt:=top 28
noncomputable abbrev Ku:Stmt:=top 29
noncomputable abbrev Hf:Stmt:=top 31
noncomputable abbrev Hs:Stmt:=top 33
noncomputable abbrev Qx:Stmt:=top 34
noncomputable abbrev Zo:Stmt:=top 35
noncomputable abbrev Z6:Stmt:=top 36
noncomputable abbrev FH:Stmt:=top 37
noncomputable abbrev El:Stmt:=top 40
noncomputable abbrev Ju:Stmt:=top 41
noncomputable abbrev Z0:Stmt:=top 42
noncomputable abbrev Zg:Stmt:=top 43
noncomputable abbrev ZQ:Stmt:=top 44
noncomputable abbrev ED:Stmt:=top 45
noncomputable abbrev Dz:Stmt:=top 47
noncomputable abbrev Qr:Stmt:=top 48
noncomputable abbrev K8:Stmt:=top 49
noncomputable abbrev HL:Stmt:=top 51
noncomputable abbrev NU:Stmt:=top 52
noncomputable abbrev NV:Stmt:=top 53
noncomputable abbrev Ga:Stmt:=top 54
noncomputable abbrev Ze:Stmt:=top 55
noncomputable abbrev Kz:Stmt:=top 56
noncomputable abbrev DL:Stmt:=top 57
noncomputable abbrev Kq:Stmt:=top 58
noncomputable abbrev KE:Stmt:=top 59
noncomputable abbrev UI:Stmt:=top 60
noncomputable abbrev De:Stmt:=top 61
noncomputable abbrev Uw:Stmt:=top 62
noncomputable abbrev Gk:Stmt:=top 63
noncomputable def LG:Scope:={kind:=PySem.ScopeKind.function,names:=[(PySem.Str.ofString ".0",PySem.NameKind.local),(PySem.Str.ofString "a",PySem.NameKind.cell),(PySem.Str.ofString "columns",PySem.NameKind.free)],isGenerator:=false,isCoroutine:=false,more:=[]:PySem.Scope}
noncomputable def BZ:Scope:={kind:=PySem.ScopeKind.function,names:=[(PySem.Str.ofString ".0",PySem.NameKind.local),(PySem.Str.ofString "_law_walk",PySem.NameKind.local),(PySem.Str.ofString "_law_far",PySem.NameKind.free)],isGenerator:=false,isCoroutine:=false,more:=[]:PySem.Scope}
structure Blt (mg:Str->Option Value):Prop where
 b_all:mg "all" =none
 b_enumerate:mg "enumerate" =none
 b_isinstance:mg "isinstance" =none
 b_len:mg "len" =none
 b_list:mg "list" =none
 b_max:mg "max" =none
 b_min:mg "min" =none
 b_range:mg "range" =none
 b_sorted:mg "sorted" =none
 b_sum:mg "sum" =none
 c_MOST_LISTS:∃u,mg "MOST_LISTS" =some u/\X9 (.int 65536) u
 c_MOST_OF_ALL:∃u,mg "MOST_OF_ALL" =some u/\X9 (.int 4) u
 c_MOST_TO_COMPARE:∃u,mg "MOST_TO_COMPARE" =some u/\X9 (.int 6) u
theorem Uv:FnScope ["most","size"] ["most","size"] (Xf Z4):=⟨rfl,rfl,rfl,by decide+kernel,rfl,by decide+kernel,by decide+kernel⟩
noncomputable abbrev YL (m:Int->Int->Rs Unit)(P:Program)(w:World)(K:PySem.W.Frag)(mg:Str->Option Value)(base:Heap):Prop:=FnX P w K mg base 1 "refuse_above" ["most","size"] (Bn mg Xd Xd oU m K)
noncomputable def Zp:{m // Pk λP w K mg base=>Def K mg "refuse_above" Z4 ["most","size"]->Ecs Xq K mg->Blt mg->YL m P w K mg base}:=⟨_, @λP w K mg base D Y Z=>by
 refine VJ D Uv (λvs H Q E h=>?_) (λf cdv A outer s H vs Q E hr h=>?_)
 ·obtain⟨v_0,v_1,a_0,a_1,rfl,_⟩:=h;rfl
 obtain⟨v_0,v_1,a_0,a_1,rfl,h_0,h_1,hz⟩:=h
 obtain⟨C_TooBig,h_TooBig,q_TooBig⟩:=Y.adr "TooBig" (.tail _ (.tail _ (.head _)))
 replace q_TooBig:=q_TooBig (by decide)
 have hu:=hu8 hr
 have hu1:=Qk hr
 refine⟨_,(Xb (Yh (Xs VR (pv 1) (pv 0) (Xw _))
   (Xb (Gq Ie rfl q_TooBig rfl h_TooBig (Xa (RQ (Cv (pv 1) (Ct CC (Cv (pv 0) ER)))) Xc))
   Xe)
   Xe)
  Xe),?_⟩
 refine DO (J:=({oo:=λx3=>[],ss:=λx3=>[some v_0,some v_1],sc:=λg4 x3=>(SC.add (SC.add SC.nil K Xd v_0 a_0) K Xd v_1 a_1)}:Jn (Unit) (Unit))) (K:=K) (S:=(SC.add (SC.add SC.nil K Xd v_0 a_0) K Xd v_1 a_1)) (σ:=[some v_0,some v_1]) 0 ?_ (SC.i (SC.i SC.t h_0) h_1) hz (λ_ _=>rfl)
 exact(LS (K:=K) (o:=oU) (qt K) (Kr h_TooBig (N7 (K0 (K:=K) qB (K2 (K0 (K:=K) qB Dk))))) (Yc () () rfl rfl))⟩
noncomputable def X4:=Zp.1
theorem YM:FnScope ["lists","count","longer","ahead","number"] ["lists","count"] (Xf ZC):=⟨rfl,rfl,rfl,by decide+kernel,rfl,by decide+kernel,by decide+kernel⟩
noncomputable abbrev ZO (m:(List (List Int))->Int->Rs (List (List Int)))(P:Program)(w:World)(K:PySem.W.Frag)(mg:Str->Option Value)(base:Heap):Prop:=Fn P w K mg base 1 "longer_by_one" ["lists","count"] (sp2 (rV (rV Xd)) Xd (oL (oL (oF Xd))) m K)
noncomputable def Ji:{m // Pk λP w K mg base=>Def K mg "longer_by_one" ZC ["lists","count"]->Ecs Xq K mg->Blt mg->ZO m P w K mg base}:=⟨_, @λP w K mg base D Y Z=>go2 D YM 3 1 rfl rfl λhr hu hu1=>⟨_,(Xb (Xk (i:=2) YM.nd rfl (Or.inl rfl) (Xt Xc))
  (Xb (XG PassesOwn.never rfl (XA (K:=K) rfl (pv 0)) (Xi (i:=3) YM.nd rfl (Or.inl rfl))
   (Xb (XG PassesOwn.never rfl (Xy rfl Z.b_range (Xa (pv 1) Xc)) (Xi (i:=4) YM.nd rfl (Or.inl rfl))
    (Xb (Yh (Xs VA (pv 4) (pv 3) rfl)
     (Xb (XC (Y8 PySem.F.plainAttrs_list PySem.F.slot_list_append PySem.F.type_list_append XI (pv 2) (Xa (Xr VM (pv 3) (Xt (Xa (pv 4) Xc))) Xc)))
     Xe)
     Xe)
    Xe))
   Xe))
  (Xb (Xx (pv 2))
  Xe))),λv_0 v_1 a_0 a_1=>(Y9 K (o:=(oL (oL (oF Xd)))) 0 (Zi (o:=(oL (oF Xd)))) λa1 v2 C3=>(VC K (λO (x4:Option V×Option V×V×List Xo)=>[x4.2.2.2]) (λs x4=>[some v_0,some v_1,some x4.2.2.1,x4.1,x4.2.1]) (λS (g5:(List (List Int))) x4=>(SC.addO S K (oL (oL (oF Xd))) x4.2.2.1 g5 x4.2.2.2)) (λ_=>tg1 3) ((none),(none),v2,C3) (a1) qw rfl rfl (λ_ s=>(SC.i s s.r)) (λg6 x7 a8 v9=>(VC K (λO (x11:Option V×V×List Xo)=>[x11.2.2]) (λs x11=>[some v_0,some v_1,some x11.2.1,some v9,x11.1]) (λS (g12:(List (List Int))) x11=>(SC.addO S K (oL (oL (oF Xd))) x11.2.1 g12 x11.2.2)) (λ_=>tg1 4) ((x7.2.1),x7.2.2.1,x7.2.2.2) (g6) qw rfl rfl (λ_ s=>(SC.i s s.l.r)) (λg13 x14 a15 v16=>(Qh (λO (x20:V×List Xo)=>[x20.2]) (λs x20=>[some v_0,some v_1,some x20.1,some v9,some v16]) (λS (g21:(List (List Int))) x20=>(SC.addO S K (oL (oL (oF Xd))) x20.1 g21 x20.2)) (Yu (XY (K:=K) (MH qB qB)) (Fi K qN λa29 C28=>(Yc (x14.2.1,C28) (a29) rfl rfl)) (Yc (x14.2.1,x14.2.2) (g13) rfl rfl)) λg31 x30=>(Yc ((some v16),x30.1,x30.2) (g31) rfl rfl))) λg32 x33=>(Yc ((some v9),(x33.1),x33.2.1,x33.2.2) (g32) rfl rfl))) λg35 x36=>(Xz Jg)))⟩⟩
noncomputable def Jr:=Ji.1
theorem ZY:FnScope ["count","told","place"] ["count"] (Xf JK):=⟨rfl,rfl,rfl,by decide+kernel,rfl,by decide+kernel,by decide+kernel⟩
noncomputable abbrev UM (m:Int->Rs (List (List Int)))(P:Program)(w:World)(K:PySem.W.Frag)(mg:Str->Option Value)(base:Heap):Prop:=Fn P w K mg base 2 "each_once" ["count"] (sp1 Xd (oL (oL (oF Xd))) m K)
noncomputable def Ud:{m // Pk λP w K mg base=>Def K mg "each_once" JK ["count"]->ZO Jr P w K mg base->Ecs Xq K mg->Blt mg->UM m P w K mg base}:=⟨_, @λP w K mg base D g_longer_by_one Y Z=>go1 D ZY 2 1 rfl rfl λhr hu hu1=>⟨_,(Xb (Xk (i:=1) ZY.nd rfl (Or.inl rfl) (Xt (Xa (Xt Xc) Xc XJ)))
  (Xb (XG PassesOwn.never rfl (Xy rfl Z.b_range (Xa (pv 0) Xc)) (Xi (i:=2) ZY.nd rfl (Or.inl rfl))
   (Xb (Xk (i:=1) ZY.nd rfl (Or.inl rfl) (Yg g_longer_by_one hr (by decide) (Xa (pv 1) (Xa (pv 0) Xc))))
   Xe))
  (Xb (Xx (pv 1))
  Xe))),λv_0 a_0=>(Y9 K (o:=(oL (oL (oF Xd)))) 0 (QL (X6 (Zi (o:=(oF Xd))) λ_=>Zn)) λa1 v2 C3=>(VC K (λO (x8:Option V×V×List Xo)=>[x8.2.2]) (λs x8=>[some v_0,some x8.2.1,x8.1]) (λS (g9:(List (List Int))) x8=>(SC.addO S K (oL (oL (oF Xd))) x8.2.1 g9 x8.2.2)) (λ_=>tg1 2) ((none),v2,C3) (a1) qw rfl rfl (λ_ s=>(SC.i s s.r)) (λg10 x11 a12 v13=>(Y9 K 0 qN λa14 v15 C16=>(Yc ((some v13),v15,C16) (a14) rfl rfl))) λg20 x21=>(Xz Jg)))⟩⟩
noncomputable def JJ:=Ud.1
theorem Zs:FnScope ["table","a","row"] ["table"] (Xf ZM):=⟨rfl,rfl,rfl,by decide+kernel,rfl,by decide+kernel,by decide+kernel⟩
noncomputable abbrev ZE (m:(List (List Int))->Rs (Option (Int×Int)))(P:Program)(w:World)(K:PySem.W.Frag)(mg:Str->Option Value)(base:Heap):Prop:=Fn P w K mg base 1 "breach_of_one" ["table"] (sp1 (rV (rV Xd)) (oF (Qp (rP2 Xd Xd))) m K)
noncomputable def Q4:{m // Pk λP w K mg base=>Def K mg "breach_of_one" ZM ["table"]->Ecs Xq K mg->Blt mg->ZE m P w K mg base}:=⟨_, @λP w K mg base D Y Z=>go1 D Zs 2 0 rfl rfl λhr hu hu1=>⟨_,(Xb (XG PassesOwn.never rfl (UP rfl Z.b_enumerate (pv 0)) (VG rfl (XT (Xi (i:=1) Zs.nd rfl (Or.inl rfl)) (XT (Xi (i:=2) Zs.nd rfl (Or.inl rfl)) QK)))
   (Xb (Yh (Xs BJ (XS K (pv 2) (pv 1)) (pv 1) (Xw _))
    (Xb (Xx (Yz (Xa Xg (Xa (pv 1) Xc))))
    Xe)
    Xe)
   Xe))
  (Xb (Xx Z1)
  Xe)),λv_0 a_0=>(Da K (λO (x2:Option V×Option V)=>[]) (λs x2=>[some v_0,x2.1,x2.2]) (λS (g3:Unit) x2=>S) (λ_=>tg2 1 2) ((none),(none)) () (Jj qS) rfl rfl (λ_ s=>s) (λg4 x5 a6 v7=>(Q0 (qt K) (Xz (Jx Od qM)) (Za (Yc ((some v7.1),(some v7.2)) () rfl rfl)))) λg18 x19=>(Xz Vm))⟩⟩
noncomputable def Jo:=Q4.1
theorem QM:FnScope ["column","x","colour"] ["column"] (Xf Q3):=⟨rfl,rfl,rfl,by decide+kernel,rfl,by decide+kernel,by decide+kernel⟩
noncomputable abbrev VI (m:(List Int)->Rs (Option (Int×Int)))(P:Program)(w:World)(K:PySem.W.Frag)(mg:Str->Option Value)(base:Heap):Prop:=Fn P w K mg base 1 "first_same" ["column"] (sp1 (rV Xd) (oF (Qp (rP2 Xd Xd))) m K)
noncomputable def VN:{m // Pk λP w K mg base=>Def K mg "first_same" Q3 ["column"]->Ecs Xq K mg->Blt mg->VI m P w K mg base}:=⟨_, @λP w K mg base D Y Z=>go1 D QM 2 0 rfl rfl λhr hu hu1=>⟨_,(Xb (XG PassesOwn.never rfl (UP rfl Z.b_enumerate (pv 0)) (VG rfl (XT (Xi (i:=1) QM.nd rfl (Or.inl rfl)) (XT (Xi (i:=2) QM.nd rfl (Or.inl rfl)) QK)))
   (Xb (Yh (Xs GV (pv 2) (VY (V8 K rfl) (pv 0) (UA (Xr XO (pv 1) Xg)) Ur) rfl)
    (Xb (Xx (Yz (Xa (pv 1) (Xa (Y8 PySem.F.plainAttrs_list PySem.F.slot_list_index PySem.F.type_list_index E7 (pv 0) (Xa (pv 2) (Xa (Xr XO (pv 1) Xg) Xc))) Xc))))
    Xe)
    Xe)
   Xe))
  (Xb (Xx Z1)
  Xe)),λv_0 a_0=>(Da K (λO (x2:Option V×Option V)=>[]) (λs x2=>[some v_0,x2.1,x2.2]) (λS (g3:Unit) x2=>S) (λ_=>tg2 1 2) ((none),(none)) () (Jj qS) rfl rfl (λ_ s=>s) (λg4 x5 a6 v7=>(Q0 (XY (K:=K) (Mn qB qB)) (Xz (Jx Od (EvS.ev (V7 qS (EvB.sh (Bs qB qB qB)))))) (Za (Yc ((some v7.1),(some v7.2)) () rfl rfl)))) λg27 x28=>(Xz Vm))⟩⟩
noncomputable def QW:=VN.1
noncomputable def ZN (a_0:(List (List Int))):Rs (Option (Int×Int×Int×Int)):=(Rs.bind (Rs.bind (Rs.bind (Rs.ok a_0) λx1=>(Rs.ok (x1.length:Int))) λx2=>(Bd 0 x2)) λx32=>(Rs.bind (Kk x32 () (λg5 a7=>(Rs.bind (Rs.bind (Rs.bind (Rs.ok a_0) λx15=>(Ed x15 (λa13=>(Rs.bind (Rs.ok a13) λx16=>(Rs.bind (Rs.ok a7) λx17=>(atR x16 x17)))))) λx18=>(noE (QW x18))) λa9=>(Rs.bind (Rs.bind (Rs.ok a9) λx19=>(Rs.ok x19.isSome)) λx20=>(if x20=true then(Rs.bind (Rs.bind (Rs.bind (Rs.ok (2:Int)) λx23=>(Rs.bind (Rs.ok a7) λx24=>(Rs.bind (Rs.bind (Rs.bind (Rs.ok a9) OR) λx21=>(Rs.ok x21.1)) λx25=>(Rs.bind (Rs.bind (Rs.bind (Rs.ok a9) OR) λx22=>(Rs.ok x22.2)) λx26=>(Rs.ok (x23,x24,x25,x26)))))) λx27=>(Rs.ok (some x27))) λx29=>(Rs.ok (Ctl.ret x29))) else(Rs.bind (Rs.ok ()) λx28=>(Rs.ok (Ctl.nx x28)))))))) (Ve λg30=>(Rs.ok none))))
noncomputable abbrev Uz (m:(List (List Int))->Rs (Option (Int×Int×Int×Int)))(P:Program)(w:World)(K:PySem.W.Frag)(mg:Str->Option Value)(base:Heap):Prop:=Fn P w K mg base 2 "breach_of_two" ["table"] (sp1 (rV (rV Xd)) (oF (Qp (rP4 Xd Xd Xd Xd))) m K)
section
variable {P:Program}{w:World}{K:PySem.W.Frag}{mg:Str->Option Value}{base:Heap}
theorem Zr:FnScope ["table","b","pair"] ["table"] (Xf YX):=⟨rfl,rfl,rfl,by decide+kernel,rfl,by decide+kernel,by decide+kernel⟩
theorem VS (D:Def K mg "breach_of_two" YX ["table"])(g_first_same:Fn P w K mg base 1 "first_same" ["column"] (sp1 (rV Xd) (oF (Qp (rP2 Xd Xd))) QW K))(Y:Ecs Xq K mg)(Z:Blt mg):Fn P w K mg base 2 "breach_of_two" ["table"] (sp1 (rV (rV Xd)) (oF (Qp (rP4 Xd Xd Xd Xd))) ZN K):=by
 refine UH D Zr (λvs H Q E h=>?_) (λf cdv A outer s H vs Q E hr h=>?_)
 ·obtain⟨v_0,a_0,b,rfl,_⟩:=h;rfl
 obtain⟨v_0,a_0,b,rfl,h_0,hm,q⟩:=h
 have hu:=hu8 hr
 have hu1:=Qk hr
 refine⟨_,(Xb (XG PassesOwn.never rfl (Xy rfl Z.b_range (Xa (Xm (Xj K rfl) rfl Z.b_len PySem.boot_len (Xa (pv 0) Xc)) Xc)) (Xi (i:=1) Zr.nd rfl (Or.inr rfl))
   (Xb (Xk (i:=2) Zr.nd rfl (Or.inl rfl) (Yg g_first_same hr (by decide) (Xa (YA (sc:=(Xf YX)) (N0:=["table","b","pair"]) (tns:=["row"]) (caps:=[(1,"b")]) rfl (XA (K:=K) rfl (pv 0)) (Yf (by decide)) (λcl C s H ex E=>⟨Xi (i:=0) (show List.Nodup (["row","b"]:List Str) by decide+kernel) rfl (Or.inl rfl),Yy,(QO (Yv K rfl) (pv 0) (pv 1) (λ_ _=>rfl))⟩)) Xc)))
   (Xb (Yh (Xs FD (pv 2) Z1 (Xw _))
    (Xb (Xx (Yz (Xa Xg (Xa (pv 1) (Xa (QO (Ul K rfl) (pv 2) Xg (λ_ _=>rfl)) (Xa (QO (Ul K rfl) (pv 2) Xg (λ_ _=>rfl)) Xc))))))
    Xe)
    Xe)
   Xe)))
  (Xb (Xx Z1)
  Xe)),?_⟩
 refine K1 (S:=(SC.add SC.nil K (rV (rV Xd)) v_0 a_0)) (σ:=[some v_0,none,none]) 0 ?_ (SC.i SC.t h_0) hm q rfl
 unfold ZN
 exact(Ee (K:=K) (J:=({oo:=λx3=>[],ss:=λx3=>[some v_0,x3.1,x3.2],sc:=λg4 x3=>(SC.add SC.nil K (rV (rV Xd)) v_0 a_0)}:Jn (Unit) (Option V×Option V))) (λ_=>tg1 1) ((none),(none)) () (JL (Jq (XD (r:=(rV (rV Xd))) 0 rfl (λ_ s=>s.r)))) rfl rfl (λ_ s=>(SC.i SC.t s.r)) (λg5 x6 a7 v8=>(DC (K:=K) (r:=(Qp (rP2 Xd Xd))) 2 (EvB.sh (Ev.toB (Kl (Ev.toB (Yx (λ_=>tg1 0) (Yn (Zl (r:=(rV (rV Xd))) 0 rfl (λ_ s=>s.l.r))) (λC12 a13 v14=>(EvS.ev (EvB.sh (Vz (XD (r:=(rV Xd)) 0 rfl (λ_ s=>s.r)) (XD (r:=Xd) 1 rfl (λ_ s=>s.l.r))))))))))) λa9 v10=>(Q0 (XY (K:=K) (Kv (tb:=tC .non) (XD (r:=(Qp (rP2 Xd Xd))) 2 rfl (λ_ s=>s.r)))) (Xz (Jx P7 (EvS.ev (Cz (EvB.sh (FC 2)) (Zl (r:=Xd) 1 rfl (λ_ s=>s.l.r)) (EvB.sh (FZ (GX (XD (r:=(Qp (rP2 Xd Xd))) 2 rfl (λ_ s=>s.r))))) (EvB.sh (F3 (GX (XD (r:=(Qp (rP2 Xd Xd))) 2 rfl (λ_ s=>s.r))))))))) (Za (Jl (J:=_) ((some v8),(some v10)) () rfl rfl (λ_ s=>(SC.i SC.t s.l.l.r))))))) λg30 x31=>(Xz Vm))
end
theorem XV:FnScope ["table","a","row","b","colour","c"] ["table"] (Xf Zd):=⟨rfl,rfl,rfl,by decide+kernel,rfl,by decide+kernel,by decide+kernel⟩
noncomputable abbrev Zj (m:(List (List Int))->Rs (Option (Int×Int×Int×Int)))(P:Program)(w:World)(K:PySem.W.Frag)(mg:Str->Option Value)(base:Heap):Prop:=Fn P w K mg base 1 "breach_of_three" ["table"] (sp1 (rV (rV Xd)) (oF (Qp (rP4 Xd Xd Xd Xd))) m K)
noncomputable def Qf:{m // Pk λP w K mg base=>Def K mg "breach_of_three" Zd ["table"]->Ecs Xq K mg->Blt mg->Zj m P w K mg base}:=⟨_, @λP w K mg base D Y Z=>go1 D XV 5 0 rfl rfl λhr hu hu1=>⟨_,(Xb (XG PassesOwn.never rfl (UP rfl Z.b_enumerate (pv 0)) (VG rfl (XT (Xi (i:=1) XV.nd rfl (Or.inl rfl)) (XT (Xi (i:=2) XV.nd rfl (Or.inl rfl)) QK)))
   (Xb (XG PassesOwn.never rfl (UP rfl Z.b_enumerate (pv 2)) (VG rfl (XT (Xi (i:=3) XV.nd rfl (Or.inl rfl)) (XT (Xi (i:=4) XV.nd rfl (Or.inl rfl)) QK)))
    (Xb (XG PassesOwn.never rfl (Xy rfl Z.b_range (Xa (Xm (Xj K rfl) rfl Z.b_len PySem.boot_len (Xa (pv 0) Xc)) Xc)) (Xi (i:=5) XV.nd rfl (Or.inl rfl))
     (Xb (Yh (Xs BJ (XS K (XS K (pv 0) (pv 4)) (pv 5)) (XS K (XS K (pv 0) (XS K (pv 2) (pv 5))) (XS K (XS K (pv 0) (pv 3)) (pv 5))) (Xw _))
      (Xb (Xx (Yz (Xa Xg (Xa (pv 1) (Xa (pv 3) (Xa (pv 5) Xc))))))
      Xe)
      Xe)
     Xe))
    Xe))
   Xe))
  (Xb (Xx Z1)
  Xe)),λv_0 a_0=>(Da K (λO (x2:Option V×Option V×Option V×Option V×Option V)=>[]) (λs x2=>[some v_0,x2.1,x2.2.1,x2.2.2.1,x2.2.2.2.1,x2.2.2.2.2]) (λS (g3:Unit) x2=>S) (λ_=>tg2 1 2) ((none),(none),(none),(none),(none)) () (Jj qS) rfl rfl (λ_ s=>s) (λg4 x5 a6 v7=>(Cg K (λO (x9:Option V×Option V×Option V)=>[]) (λs x9=>[some v_0,some v7.1,some v7.2,x9.1,x9.2.1,x9.2.2]) (λS (g10:Unit) x9=>S) (λ_=>tg2 3 4) ((x5.2.2.1),(x5.2.2.2.1),(x5.2.2.2.2)) () (Jj qS) rfl rfl (λ_ s=>s) (λg11 x12 a13 v14=>(Cg K (λO (x17:Option V)=>[]) (λs x17=>[some v_0,some v7.1,some v7.2,some v14.1,some v14.2,x17]) (λS (g18:Unit) x17=>S) (λ_=>tg1 5) ((x12.2.2)) () qw rfl rfl (λ_ s=>s) (λg19 x20 a21 v22=>(Q0 (qt K) (Xz (Jx P7 (EvS.ev (Cz qS qS qS qS)))) (Za (Yc ((some v22)) () rfl rfl)))) λg47 x48=>(Za (Yc ((some v14.1),(some v14.2),(x48)) () rfl rfl)))) λg51 x52=>(Za (Yc ((some v7.1),(some v7.2),(x52.1),(x52.2.1),(x52.2.2)) () rfl rfl)))) λg55 x56=>(Xz Vm))⟩⟩
noncomputable def Qi:=Qf.1
theorem Vc:FnScope ["table","wrong"] ["table"] (Xf Gb):=⟨rfl,rfl,rfl,by decide+kernel,rfl,by decide+kernel,by decide+kernel⟩
noncomputable abbrev Kx (m:(List (List Int))->Rs (Option (List Int)))(P:Program)(w:World)(K:PySem.W.Frag)(mg:Str->Option Value)(base:Heap):Prop:=Fn P w K mg base 3 "broken" ["table"] (sp1 (rV (rV Xd)) (oF (Qp (rPL Xd))) m K)
noncomputable def DH:{m // Pk λP w K mg base=>Def K mg "broken" Gb ["table"]->ZE Jo P w K mg base->Uz ZN P w K mg base->Zj Qi P w K mg base->Ecs Xq K mg->Blt mg->Kx m P w K mg base}:=⟨_, @λP w K mg base D g_breach_of_one g_breach_of_two g_breach_of_three Y Z=>go1 D Vc 1 0 rfl rfl λhr hu hu1=>⟨_,(Xb (Xk (i:=1) Vc.nd rfl (Or.inl rfl) (Yg g_breach_of_one hr (by decide) (Xa (pv 0) Xc)))
  (Xb (Yh (Xs CU (pv 1) Z1 (Xw _))
   (Xb (Xk (i:=1) Vc.nd rfl (Or.inl rfl) (Yg g_breach_of_two hr (by decide) (Xa (pv 0) Xc)))
   Xe)
   Xe)
  (Xb (Yh (Xs CU (pv 1) Z1 (Xw _))
   (Xb (Xk (i:=1) Vc.nd rfl (Or.inl rfl) (Yg g_breach_of_three hr (by decide) (Xa (pv 0) Xc)))
   Xe)
   Xe)
  (Xb (Xx (pv 1))
  Xe)))),λv_0 a_0=>(YQ K (r:=(Qp (rPL Xd))) (Ev.sh (IL qN)) λa1 v2=>(Qh (λO (x8:V)=>[]) (λs x8=>[some v_0,some x8]) (λS (g9:(Option (List Int))) x8=>(SC.add S K (Qp (rPL Xd)) x8 g9)) (Yu (XY (K:=K) (Ky (tb:=tC .non) qB)) (YQ K (r:=(Qp (rPL Xd))) (Ev.sh (Ce qN)) λa10 v11=>(Yc (v11) (a10) rfl rfl)) (Yc (v2) (a1) rfl rfl)) λg16 x15=>(Qh (λO (x19:V)=>[]) (λs x19=>[some v_0,some x19]) (λS (g20:(Option (List Int))) x19=>(SC.add S K (Qp (rPL Xd)) x19 g20)) (Yu (XY (K:=K) (Ky (tb:=tC .non) qB)) (YQ K (r:=(Qp (rPL Xd))) (Ev.sh (Ce qN)) λa21 v22=>(Yc (v22) (a21) rfl rfl)) (Yc (x15) (g16) rfl rfl)) λg27 x26=>(Xz qM))))⟩⟩
noncomputable def Co:=DH.1
theorem JN:FnScope ["columns"] ["columns"] (Xf X8):=⟨rfl,rfl,rfl,by decide+kernel,rfl,by decide+kernel,by decide+kernel⟩
noncomputable abbrev Y1 (m:(List (List Int))->Rs (List (List Int)))(P:Program)(w:World)(K:PySem.W.Frag)(mg:Str->Option Value)(base:Heap):Prop:=Fn P w K mg base 1 "table_of_columns" ["columns"] (sp1 (rV (rV Xd)) (oL (oL (oF Xd))) m K)
noncomputable def ZW:{m // Pk λP w K mg base=>Def K mg "table_of_columns" X8 ["columns"]->Ecs Xq K mg->Blt mg->Y1 m P w K mg base}:=⟨_, @λP w K mg base D Y Z=>go1 D JN 0 0 rfl rfl λhr hu hu1=>⟨_,(Xb (Xx (Gf (sc:=(Xf X8)) (N0:=["columns"]) (tns:=["a"]) (caps:=[(0,"columns")]) rfl (Xy rfl Z.b_range (Xa (Xm (Xj K rfl) rfl Z.b_len PySem.boot_len (Xa (pv 0) Xc)) Xc)) (Yf (by decide)) (λcl C s H ex E=>⟨Xi (i:=0) (show List.Nodup (["a","columns"]:List Str) by decide+kernel) rfl (Or.inr rfl) (hf:=Or.inl rfl),Yy,(Gf (sc:=(OZ LG (Xf X8))) (N0:=["a","columns"]) (tns:=["column"]) (caps:=[(0,"a")]) rfl (XA (K:=K) rfl (pv 1)) (Yf (by decide)) (λcl C s H ex E=>⟨Xi (i:=0) (show List.Nodup (["column","a"]:List Str) by decide+kernel) rfl (Or.inl rfl),Yy,(XS K (pv 0) (pv 1))⟩))⟩)))
  Xe),λv_0 a_0=>(Xz (Yx (λ_=>tg1 0) qw (λC3 a4 v5=>(Yx (λ_=>tg1 0) qw (λC7 a8 v9=>qM)))))⟩⟩
noncomputable def ZV:=ZW.1
noncomputable def Ym (a_0:(List (List (List Int))))(a_1:(List (List Int))):Rs (List (List (List Int))):=(Rs.bind (Rs.ok []) λa1=>(Rs.bind (Rs.ok a_0) λx24=>(Rs.bind (forN x24 (a1) (λg6 a8=>(Rs.bind (Rs.bind (Rs.ok a_1) λx13=>(Ed x13 (λa11=>(Rs.bind (Rs.ok a8) λx14=>(Rs.bind (Rs.bind (Rs.bind (Rs.ok a11) λx17=>(Rs.bind (Rs.ok []) λx18=>(Rs.ok (x17::x18)))) λx16=>(chk (x16.length<=sizeLine) (Rs.ok x16))) λx15=>(Ld x14 x15)))))) λa19=>(chk (g6.length+a19.length<=sizeLine) ((λa21=>(Rs.ok (a21))) (g6++a19)))))) λg22=>(Rs.ok g22))))
section
variable {P:Program}{w:World}{K:PySem.W.Frag}{mg:Str->Option Value}{base:Heap}
theorem YH:FnScope ["choices","columns","longer","ahead"] ["choices","columns"] (Xf Yi):=⟨rfl,rfl,rfl,by decide+kernel,rfl,by decide+kernel,by decide+kernel⟩
theorem JC (D:Def K mg "longer_by_columns" Yi ["choices","columns"])(Y:Ecs Xq K mg)(Z:Blt mg):Fn P w K mg base 1 "longer_by_columns" ["choices","columns"] (R7 (rV (rV (rV Xd))) (rV (rV Xd)) (oL (oL (oF (rV Xd)))) Ym K):=by
 refine UH D YH (λvs H Q E h=>?_) (λf cdv A outer s H vs Q E hr h=>?_)
 ·obtain⟨v_0,v_1,a_0,a_1,b,rfl,_⟩:=h;rfl
 obtain⟨v_0,v_1,a_0,a_1,b,rfl,Cf,hw,h_0,h_1,hm,q⟩:=h
 have hu:=hu8 hr
 have hu1:=Qk hr
 refine⟨_,(Xb (Xk (i:=2) YH.nd rfl (Or.inl rfl) (Xt Xc))
  (Xb (XG PassesOwn.never rfl (XA (K:=K) rfl (pv 0)) (Xi (i:=3) YH.nd rfl (Or.inr rfl))
   (Xb (XC (Y8 PySem.F.plainAttrs_list PySem.F.slot_list_extend PySem.F.type_list_extend Jk (pv 2) (Xa (YA (sc:=(Xf Yi)) (N0:=["choices","columns","longer","ahead"]) (tns:=["column"]) (caps:=[(3,"ahead")]) rfl (XA (K:=K) rfl (pv 1)) (Yf (by decide)) (λcl C s H ex E=>⟨Xi (i:=0) (show List.Nodup (["column","ahead"]:List Str) by decide+kernel) rfl (Or.inl rfl),Yy,(Xr VM (pv 1) (Xt (Xa (pv 0) Xc)))⟩)) Xc)))
   Xe))
  (Xb (Xx (pv 2))
  Xe))),?_⟩
 refine Mk (S:=(SC.add (SC.add SC.nil K (rV (rV (rV Xd))) v_0 a_0) K (rV (rV Xd)) v_1 a_1)) (σ:=[some v_0,some v_1,none,none]) 1 ?_ hw (SC.i (SC.i SC.t h_0) h_1) hm q rfl
 unfold Ym
 exact(JI (K:=K) (o:=(oL (oL (oF (rV Xd))))) 2 0 (Zi (o:=(oL (oF (rV Xd))))) (Nat.le_of_ble_eq_true rfl) λa1 v2 C3=>(EG (K:=K) (J:=({oo:=λx4=>[x4.2.2,Cf],ss:=λx4=>[some v_0,some v_1,some x4.2.1,x4.1],sc:=λg5 x4=>(SC.addO (SC.add (SC.add SC.nil K (rV (rV (rV Xd))) v_0 a_0) K (rV (rV Xd)) v_1 a_1) K (oL (oL (oF (rV Xd)))) x4.2.1 g5 x4.2.2)}:Jn ((List (List (List Int)))) (Option V×V×List Xo))) (λ_=>tg1 3) ((none),v2,C3) (a1) (Yn (Zl (r:=(rV (rV (rV Xd)))) 0 rfl (λ_ s=>s.l.l.r))) rfl rfl (λ_ s=>(SC.i (SC.i (SC.i SC.t s.l.l.r) s.l.r) s.r)) (λg6 x7 a8 v9=>(Hg (K:=K) (o:=(oL (oF (rV Xd)))) (f:=λa21=>(Rs.ok (a21))) 2 0 rfl rfl rfl (λ_ s=>s.l.r) (Yx (λ_=>tg1 0) (Yn (Zl (r:=(rV (rV Xd))) 1 rfl (λ_ s=>s.l.l.r))) (λC10 a11 v12=>(BL (EvS.ls (Zl (r:=(rV (rV Xd))) 1 rfl (λ_ s=>s.l.r))) (Ev.ls (U6 (QB (Zl (r:=(rV Xd)) 0 rfl (λ_ s=>s.r)) Uc)))))) λa19 C20=>(Jl (J:=_) ((some v9),x7.2.1,C20) ((g6++a19)) rfl rfl (λ_ s=>(SC.i (SC.i (SC.i SC.t s.l.l.l.l.r) s.l.l.l.r) s.r))))) λg22 x23=>(Ci (K:=K) 1 rfl (JT (o:=(oL (oL (oF (rV Xd))))) 2 0 rfl rfl (λ_ s=>s.r)))))
end
noncomputable def QJ (a_0:Int):Rs (List (List (List Int))):=(Rs.bind (Rs.bind (Rs.ok a_0) λx4=>(noE (JJ x4))) λa1=>(Rs.bind (Rs.bind (Rs.bind (Rs.ok []) λx9=>(Rs.bind (Rs.ok []) λx10=>(Rs.ok (x9::x10)))) λx8=>(chk (x8.length<=sizeLine) (Rs.ok x8))) λa5=>(Rs.bind (Rs.bind (Rs.ok a_0) λx11=>(Bd 0 x11)) λx34=>(Rs.bind (forN x34 (a5) (λg14 a16=>(Rs.bind (Rs.bind (Rs.ok g14) λx30=>(Rs.bind (Rs.bind (Rs.ok a1) λx25=>(O8 x25 (λa23=>(Rs.bind (Rs.bind (Rs.ok a23) λx26=>(Rs.bind (Rs.ok a16) λx27=>(atR x26 x27))) λx28=>(Rs.bind (Rs.ok a16) λx29=>(Rs.ok (decide (x28=x29)))))) (λa23=>(Rs.ok a23)))) λx31=>(noE (Ym x30 x31)))) λa18=>(Rs.ok (a18))))) λg32=>(Rs.ok g32)))))
noncomputable abbrev Go (m:Int->Rs (List (List (List Int))))(P:Program)(w:World)(K:PySem.W.Frag)(mg:Str->Option Value)(base:Heap):Prop:=Fn P w K mg base 3 "all_columns" ["size"] (Sn Xd (oL (oL (oF (rV Xd)))) m K)
section
variable {P:Program}{w:World}{K:PySem.W.Frag}{mg:Str->Option Value}{base:Heap}
theorem YI:FnScope ["size","lists","told","b"] ["size"] (Xf ZB):=⟨rfl,rfl,rfl,by decide+kernel,rfl,by decide+kernel,by decide+kernel⟩
theorem US (D:Def K mg "all_columns" ZB ["size"])(g_each_once:Fn P w K mg base 2 "each_once" ["count"] (sp1 Xd (oL (oL (oF Xd))) JJ K))(g_longer_by_columns:Fn P w K mg base 1 "longer_by_columns" ["choices","columns"] (R7 (rV (rV (rV Xd))) (rV (rV Xd)) (oL (oL (oF (rV Xd)))) Ym K))(Y:Ecs Xq K mg)(Z:Blt mg):Fn P w K mg base 3 "all_columns" ["size"] (Sn Xd (oL (oL (oF (rV Xd)))) QJ K):=by
 refine UH D YI (λvs H Q E h=>?_) (λf cdv A outer s H vs Q E hr h=>?_)
 ·obtain⟨v_0,a_0,b,rfl,_⟩:=h;rfl
 obtain⟨v_0,a_0,b,rfl,Cf,hw,h_0,hm,q⟩:=h
 have hu:=hu8 hr
 have hu1:=Qk hr
 refine⟨_,(Xb (Xk (i:=1) YI.nd rfl (Or.inl rfl) (Yg g_each_once hr (by decide) (Xa (pv 0) Xc)))
  (Xb (Xk (i:=2) YI.nd rfl (Or.inl rfl) (Xt (Xa (Xt Xc) Xc XJ)))
  (Xb (XG PassesOwn.never rfl (Xy rfl Z.b_range (Xa (pv 0) Xc)) (Xi (i:=3) YI.nd rfl (Or.inr rfl))
   (Xb (Xk (i:=2) YI.nd rfl (Or.inl rfl) (Yg g_longer_by_columns hr (by decide) (Xa (pv 2) (Xa (YA (sc:=(Xf ZB)) (N0:=["size","lists","told","b"]) (tns:=["order"]) (caps:=[(3,"b")]) rfl (XA (K:=K) rfl (pv 1)) (Yf (by decide)) (λcl C s H ex E=>⟨Xi (i:=0) (show List.Nodup (["order","b"]:List Str) by decide+kernel) rfl (Or.inl rfl),(UN (Xs QR (QO (Yv K rfl) (pv 0) (pv 1) (λ_ _=>rfl)) (pv 1) (Xw _))),(pv 0)⟩)) Xc))))
   Xe))
  (Xb (Xx (pv 2))
  Xe)))),?_⟩
 refine Mk (S:=(SC.add SC.nil K Xd v_0 a_0)) (σ:=[some v_0,none,none,none]) 1 ?_ hw (SC.i SC.t h_0) hm q rfl
 unfold QJ
 exact(DC (K:=K) (r:=(rV (rV Xd))) 1 (Ev.sh (Kl (XD (r:=Xd) 0 rfl (λ_ s=>s.r)))) λa1 v2=>(JI (K:=K) (o:=(oL (oL (oF (rV Xd))))) 2 0 (QL (X6 (Zi (o:=(oF (rV Xd)))) λ_=>Zn)) (Nat.le_of_ble_eq_true rfl) λa5 v6 C7=>(EG (K:=K) (J:=({oo:=λx12=>[x12.2.2,Cf],ss:=λx12=>[some v_0,some v2,some x12.2.1,x12.1],sc:=λg13 x12=>(SC.addO (SC.add (SC.add SC.nil K Xd v_0 a_0) K (rV (rV Xd)) v2 a1) K (oL (oL (oF (rV Xd)))) x12.2.1 g13 x12.2.2)}:Jn ((List (List (List Int)))) (Option V×V×List Xo))) (λ_=>tg1 3) ((none),v6,C7) (a5) (JL (XD (r:=Xd) 0 rfl (λ_ s=>s.l.l.r))) rfl rfl (λ_ s=>(SC.i (SC.i (SC.i SC.t s.l.l.r) s.l.r) s.r)) (λg14 x15 a16 v17=>(H9 (K:=K) (o:=(oL (oL (oF (rV Xd))))) 0 rfl (λ_ s=>s.l.r) (JI (K:=K) (o:=(oL (oL (oF (rV Xd))))) 2 0 (Hn (Zl (r:=(rV (rV (rV Xd)))) 2 rfl (λ_ s=>s.r)) (Ev.sh (VV (λ_=>tg1 0) (Yn (Zl (r:=(rV (rV Xd))) 1 rfl (λ_ s=>s.l.l.l.r))) (λC22 a23 v24=>(XY (K:=K) (Um (Vz (XD (r:=(rV Xd)) 0 rfl (λ_ s=>s.r)) (XD (r:=Xd) 1 rfl (λ_ s=>s.l.l.r))) (XD (r:=Xd) 1 rfl (λ_ s=>s.l.l.r))))) (λC22 a23 v24=>(EvS.ev (Zl (r:=(rV Xd)) 0 rfl (λ_ s=>s.r))))))) (Nat.le_of_ble_eq_true rfl) λa18 v19 C20=>(Jl (J:=_) ((some v17),v19,C20) (a18) rfl rfl (λ_ s=>(SC.i (SC.i (SC.i SC.t s.l.l.l.l.l.r) s.l.l.l.l.r) s.r)))))) λg32 x33=>(Ci (K:=K) 1 rfl (JT (o:=(oL (oL (oF (rV Xd))))) 2 0 rfl rfl (λ_ s=>s.r))))))
end
theorem GA:FnScope ["size","tried"] ["size"] (Xf J1):=⟨rfl,rfl,rfl,by decide+kernel,rfl,by decide+kernel,by decide+kernel⟩
noncomputable abbrev Gn (m:Int->Rs (List (List (List Int))))(P:Program)(w:World)(K:PySem.W.Frag)(mg:Str->Option Value)(base:Heap):Prop:=FnX P w K mg base 4 "tables" ["size"] (MD mg Xd (oL (oL (oL (oF Xd)))) m K)
noncomputable def Cq:{m // Pk λP w K mg base=>Def K mg "tables" J1 ["size"]->YL X4 P w K mg base->Y1 ZV P w K mg base->Go QJ P w K mg base->Kx Co P w K mg base->Ecs Xq K mg->Blt mg->Gn m P w K mg base}:=⟨_, @λP w K mg base D g_refuse_above g_table_of_columns g_all_columns g_broken Y Z=>R3 D GA 1 1 rfl rfl λhr hu hu1=>⟨_,(Xb (XC (Yp g_refuse_above hr (by decide) QS (Xa (GQ Z.c_MOST_OF_ALL rfl) (Xa (pv 0) Xc))))
  (Xb (PS.nox (KP 1 (Xf J1) ["size","tried"] ["columns"] [] rfl GA.nd rfl rfl (XA (K:=K) rfl (Yg g_all_columns hr (by decide) (Xa (pv 0) Xc))) (Yf (by decide)) (λcl C s H ex E=>⟨Xi (i:=0) (show List.Nodup (["columns"]:List Str) by decide+kernel) rfl (Or.inl rfl),Yy,(Yg g_table_of_columns hr (by decide) (Xa (pv 0) Xc))⟩)))
  (Xb (PS.nox (Xx (Xm (Ux (NM eq_int) OX (Fh Lf) K rfl (LH (by decide) hu)) rfl Z.b_sorted PyProof.Rows.boot_sorted (Xa (YA (sc:=(Xf J1)) (N0:=["size","tried"]) (tns:=["table"]) (caps:=[]) rfl (XA (K:=K) rfl (pv 1)) (Yf (by decide)) (λcl C s H ex E=>⟨Xi (i:=0) (show List.Nodup (["table"]:List Str) by decide+kernel) rfl (Or.inl rfl),(UN (Xs CU (Yg g_broken hr (by decide) (Xa (pv 0) Xc)) Z1 (Xw _))),(pv 0)⟩)) Xc))))
  Xe))),λv_0 a_0=>(Q6 (K:=K) (Ev.toB (XX qB qB)) (Y9 K (o:=(oL (oL (oL (oF Xd))))) 0 (Yx (λ_=>tg1 0) (Yn (Ev.sh (EH qS))) (λC9 a10 v11=>qN)) λa4 v5 C6=>(Xz (Ls (r:=rV Xd) (lt:=ltG ltI) (NK (K:=K) (o:=(oL (oL (oF Xd)))) (r:=(rV (rV Xd))) 1 0 (by decide) rfl rfl (λ_ s=>s.r) (λC17 a18 v19=>(XY (K:=K) (Ky (tb:=tC .non) qB))))))))⟩⟩
noncomputable def YT:=Cq.1
theorem KS:FnScope ["one","other"] ["one","other"] (Xf QV):=⟨rfl,rfl,rfl,by decide+kernel,rfl,by decide+kernel,by decide+kernel⟩
noncomputable abbrev Jc (m:(List (List Int))->(List (List Int))->Rs Unit)(P:Program)(w:World)(K:PySem.W.Frag)(mg:Str->Option Value)(base:Heap):Prop:=FnX P w K mg base 2 "refuse_big" ["one","other"] (Bn mg (rV (rV Xd)) (rV (rV Xd)) oU m K)
noncomputable def VE:{m // Pk λP w K mg base=>Def K mg "refuse_big" QV ["one","other"]->YL X4 P w K mg base->Ecs Xq K mg->Blt mg->Jc m P w K mg base}:=⟨_, @λP w K mg base D g_refuse_above Y Z=>by
 refine VJ D KS (λvs H Q E h=>?_) (λf cdv A outer s H vs Q E hr h=>?_)
 ·obtain⟨v_0,v_1,a_0,a_1,rfl,_⟩:=h;rfl
 obtain⟨v_0,v_1,a_0,a_1,rfl,h_0,h_1,hz⟩:=h
 have hu:=hu8 hr
 have hu1:=Qk hr
 refine⟨_,(Xb (XC (Yp g_refuse_above hr (by decide) QS (Xa (GQ Z.c_MOST_TO_COMPARE rfl) (Xa (Xm (Qn rfl) rfl Z.b_max PyProof.Rows.boot_max (Xa (Xm (Xj K rfl) rfl Z.b_len PySem.boot_len (Xa (pv 0) Xc)) (Xa (Xm (Xj K rfl) rfl Z.b_len PySem.boot_len (Xa (pv 1) Xc)) Xc))) Xc))))
  Xe),?_⟩
 refine DO (J:=({oo:=λx3=>[],ss:=λx3=>[some v_0,some v_1],sc:=λg4 x3=>(SC.add (SC.add SC.nil K (rV (rV Xd)) v_0 a_0) K (rV (rV Xd)) v_1 a_1)}:Jn (Unit) (Unit))) (K:=K) (S:=(SC.add (SC.add SC.nil K (rV (rV Xd)) v_0 a_0) K (rV (rV Xd)) v_1 a_1)) (σ:=[some v_0,some v_1]) 0 ?_ (SC.i (SC.i SC.t h_0) h_1) hz (λ_ _=>rfl)
 exact(Q6 (K:=K) (Ev.toB (XX qB qB)) (Yc () () rfl rfl))⟩
noncomputable def VD:=VE.1
theorem ZX:FnScope ["one","other","images","a","b","result"] ["one","other","images","a","b"] (Xf Zb):=⟨rfl,rfl,rfl,by decide+kernel,rfl,by decide+kernel,by decide+kernel⟩
noncomputable abbrev Zk (m:(List (List Int))->(List (List Int))->(List Int)->Int->Int->Rs Bool)(P:Program)(w:World)(K:PySem.W.Frag)(mg:Str->Option Value)(base:Heap):Prop:=Fn P w K mg base 1 "equation_broken" ["one","other","images","a","b"] (sp5 (rV (rV Xd)) (rV (rV Xd)) (rPL Xd) Xd Xd (oF XN) m K)
noncomputable def Qe:{m // Pk λP w K mg base=>Def K mg "equation_broken" Zb ["one","other","images","a","b"]->Ecs Xq K mg->Blt mg->Zk m P w K mg base}:=⟨_, @λP w K mg base D Y Z=>go5 D ZX 1 0 rfl rfl λhr hu hu1=>⟨_,(Xb (Xk (i:=5) ZX.nd rfl (Or.inl rfl) (XS K (XS K (pv 0) (pv 3)) (pv 4)))
  (Xb (Xx (Mf (Qb Gj (pv 5) (Xm (Xj K rfl) rfl Z.b_len PySem.boot_len (Xa (pv 2) Xc)) (Xw _)) (Ma (Qb BJ (XS K (XS K (pv 1) (QT K (pv 2) (pv 3))) (QT K (pv 2) (pv 4))) (QT K (pv 2) (pv 5)) (Xw _)))))
  Xe)),λv_0 v_1 v_2 v_3 v_4 a_0 a_1 a_2 a_3 a_4=>(YQ K qS λa1 v2=>(Xz qM))⟩⟩
noncomputable def Qo:=Qe.1
theorem ZH:FnScope ["one","other","images","a","b"] ["one","other","images"] (Xf Z8):=⟨rfl,rfl,rfl,by decide+kernel,rfl,by decide+kernel,by decide+kernel⟩
noncomputable abbrev JE (m:(List (List Int))->(List (List Int))->(List Int)->Rs (Option (Int×Int)))(P:Program)(w:World)(K:PySem.W.Frag)(mg:Str->Option Value)(base:Heap):Prop:=Fn P w K mg base 2 "first_breach" ["one","other","images"] (sp3 (rV (rV Xd)) (rV (rV Xd)) (rPL Xd) (oF (Qp (rP2 Xd Xd))) m K)
noncomputable def JH:{m // Pk λP w K mg base=>Def K mg "first_breach" Z8 ["one","other","images"]->Zk Qo P w K mg base->Ecs Xq K mg->Blt mg->JE m P w K mg base}:=⟨_, @λP w K mg base D g_equation_broken Y Z=>go3 D ZH 2 0 rfl rfl λhr hu hu1=>⟨_,(Xb (XG PassesOwn.never rfl (Xy rfl Z.b_range (Xa (Xm (Xj K rfl) rfl Z.b_len PySem.boot_len (Xa (pv 2) Xc)) Xc)) (Xi (i:=3) ZH.nd rfl (Or.inl rfl))
   (Xb (XG PassesOwn.never rfl (Xy rfl Z.b_range (Xa (Xm (Xj K rfl) rfl Z.b_len PySem.boot_len (Xa (pv 2) Xc)) Xc)) (Xi (i:=4) ZH.nd rfl (Or.inl rfl))
    (Xb (Yh (Kj (Yg g_equation_broken hr (by decide) (Xa (pv 0) (Xa (pv 1) (Xa (pv 2) (Xa (pv 3) (Xa (pv 4) Xc)))))))
     (Xb (Xx (Yz (Xa (pv 3) (Xa (pv 4) Xc))))
     Xe)
     Xe)
    Xe))
   Xe))
  (Xb (Xx Z1)
  Xe)),λv_0 v_1 v_2 a_0 a_1 a_2=>(Da K (λO (x3:Option V×Option V)=>[]) (λs x3=>[some v_0,some v_1,some v_2,x3.1,x3.2]) (λS (g4:Unit) x3=>S) (λ_=>tg1 3) ((none),(none)) () qw rfl rfl (λ_ s=>s) (λg5 x6 a7 v8=>(Cg K (λO (x11:Option V)=>[]) (λs x11=>[some v_0,some v_1,some v_2,some v8,x11]) (λS (g12:Unit) x11=>S) (λ_=>tg1 4) ((x6.2)) () qw rfl rfl (λ_ s=>s) (λg13 x14 a15 v16=>(Q0 (Iv (K:=K) (Ev.toB (IF qB qB qB qB qB))) (Xz (Jx Od qM)) (Za (Yc ((some v16)) () rfl rfl)))) λg29 x30=>(Za (Yc ((some v8),(x30)) () rfl rfl)))) λg33 x34=>(Xz Vm))⟩⟩
noncomputable def Z7:=JH.1
theorem VQ:FnScope ["images","size"] ["images","size"] (Xf Y4):=⟨rfl,rfl,rfl,by decide+kernel,rfl,by decide+kernel,by decide+kernel⟩
noncomputable abbrev QZ (m:(List Int)->Int->Rs (List (List Int)))(P:Program)(w:World)(K:PySem.W.Frag)(mg:Str->Option Value)(base:Heap):Prop:=Fn P w K mg base 1 "longer_images" ["images","size"] (sp2 (rPL Xd) Xd (oL (oF (rPL Xd))) m K)
noncomputable def Q7:{m // Pk λP w K mg base=>Def K mg "longer_images" Y4 ["images","size"]->Ecs Xq K mg->Blt mg->QZ m P w K mg base}:=⟨_, @λP w K mg base D Y Z=>go2 D VQ 0 0 rfl rfl λhr hu hu1=>⟨_,(Xb (Xx (YA (sc:=(Xf Y4)) (N0:=["images","size"]) (tns:=["colour"]) (caps:=[(0,"images")]) rfl (Eo rfl Z.b_range (Xa (Xr UJ (pv 1) Xg) (Xa (Vo Ql Xg) (Xa (Vo Ql Xg) Xc)))) (Yf (by decide)) (λcl C s H ex E=>⟨Xi (i:=0) (show List.Nodup (["colour","images"]:List Str) by decide+kernel) rfl (Or.inl rfl),(UN (Xs (KH K rfl) (pv 0) (pv 1) rfl)),(Xr (LM K rfl) (pv 1) (Yz (Xa (pv 0) Xc)))⟩)))
  Xe),λv_0 v_1 a_0 a_1=>(Xz (VV (λ_=>tg1 0) (FG qB qB qB) (λC8 a9 v10=>(XY (K:=K) (Li qB qB))) (λC8 a9 v10=>(EvS.ev (EvB.sh (I9 qB (Ev.toB (EvS.ev (DE (QB qS Uc))))))))))⟩⟩
noncomputable def ZG:=Q7.1
noncomputable def Vx (a_0:(List (List Int)))(a_1:(List (List Int))):Rs ((Option (List Int))×(List ((List Int)×Int×Int))):=(Rs.bind (Rs.ok []) λa1=>(Rs.bind (Rs.bind (Rs.bind (Rs.bind (Rs.ok a_0) λx7=>(Rs.ok (x7.length:Int))) λx9=>(Rs.bind (Rs.bind (Rs.ok a_1) λx8=>(Rs.ok (x8.length:Int))) λx10=>(Rs.ok (decide (x9=x10))))) λx15=>(if x15=true then(Rs.bind (Rs.bind (Rs.bind (Rs.ok []) λx12=>(chk (x12.length<=sizeLine) (Rs.ok x12))) λx13=>(Rs.bind (Rs.ok []) λx14=>(Rs.ok (x13::x14)))) λx11=>(chk (x11.length<=sizeLine) (Rs.ok x11))) else(Rs.ok []))) λa4=>(Rs.bind (U8 (a_0.length+100000) (a4,a1) (λg18=>(Rs.bind (Rs.bind (Rs.ok g18.1) λx20=>(Rs.ok (x20.length:Int))) λx21=>(Rs.bind (Rs.ok (0:Int)) λx22=>(Rs.ok (decide (x22<x21)))))) (λg18=>(Rs.bind (ND g18.1) (λp27=>(λa23 a24=>(Rs.bind (Rs.bind (Rs.ok a_0) λx31=>(Rs.bind (Rs.ok a_1) λx32=>(Rs.bind (Rs.ok a23) λx33=>(noE (Z7 x31 x32 x33))))) λa28=>(Rs.bind (Rs.bind (Rs.bind (Rs.ok a28) λx34=>(Rs.ok x34.isSome)) λx35=>(if x35=true then(Rs.bind (Rs.bind (Rs.ok a23) λx40=>(Rs.bind (Rs.bind (Rs.bind (Rs.ok a28) OR) λx38=>(Rs.ok x38.1)) λx41=>(Rs.bind (Rs.bind (Rs.bind (Rs.ok a28) OR) λx39=>(Rs.ok x39.2)) λx42=>(Rs.ok (x40,x41,x42))))) λa43=>(chk (g18.2.length<sizeLine) ((λa45=>(Rs.bind (Rs.ok (a45,a24)) λx46=>(Rs.ok (Ctl.nx x46)))) (g18.2++[a43])))) else(Rs.bind (Rs.bind (Rs.bind (Rs.bind (Rs.ok a23) λx47=>(Rs.ok (x47.length:Int))) λx49=>(Rs.bind (Rs.bind (Rs.ok a_0) λx48=>(Rs.ok (x48.length:Int))) λx50=>(Rs.ok (decide (x49=x50))))) λx51=>(if x51=true then(Rs.bind (Rs.bind (Rs.bind (Rs.bind (Rs.ok a23) λx54=>(Rs.ok x54)) λx55=>(Rs.ok (some x55))) λx56=>(Rs.bind (Rs.ok g18.2) λx57=>(Rs.ok (x56,x57)))) λx58=>(Rs.ok (Ctl.ret x58))) else(Rs.bind (Rs.bind (Rs.ok a23) λx61=>(Rs.bind (Rs.bind (Rs.ok a_1) λx60=>(Rs.ok (x60.length:Int))) λx62=>(noE (ZG x61 x62)))) λa63=>(chk (a24.length+a63.length<=sizeLine) ((λa65=>(Rs.bind (Rs.ok (a65)) λx66=>(Rs.ok (Ctl.nx x66)))) (a24++a63)))))) (Jm λg68=>(Rs.bind (Rs.ok (g18.2,g68)) λx69=>(Rs.ok (Ctl.nx x69))))))) (Jm λg71=>(Rs.bind (Rs.ok (g71.2,g71.1)) λx72=>(Rs.ok (Ctl.nx x72))))))) p27.1 p27.2)))) (Ve λg73=>(Rs.bind (Rs.ok none) λx75=>(Rs.bind (Rs.ok g73.2) λx76=>(Rs.ok (x75,x76))))))))
noncomputable abbrev Bc (m:(List (List Int))->(List (List Int))->Rs ((Option (List Int))×(List ((List Int)×Int×Int))))(P:Program)(w:World)(K:PySem.W.Frag)(mg:Str->Option Value)(base:Heap):Prop:=Fn P w K mg base 3 "searched" ["one","other"] (sp2 (rV (rV Xd)) (rV (rV Xd)) (oT2 (Ex (oL (oF Xd))) (oL (oF (rP3 (rPL Xd) Xd Xd)))) m K)
section
variable {P:Program}{w:World}{K:PySem.W.Frag}{mg:Str->Option Value}{base:Heap}
theorem ZL:FnScope ["one","other","paper","waiting","images","breach"] ["one","other"] (Xf Vy):=⟨rfl,rfl,rfl,by decide+kernel,rfl,by decide+kernel,by decide+kernel⟩
theorem Dd (D:Def K mg "searched" Vy ["one","other"])(g_first_breach:Fn P w K mg base 2 "first_breach" ["one","other","images"] (sp3 (rV (rV Xd)) (rV (rV Xd)) (rPL Xd) (oF (Qp (rP2 Xd Xd))) Z7 K))(g_longer_images:Fn P w K mg base 1 "longer_images" ["images","size"] (sp2 (rPL Xd) Xd (oL (oF (rPL Xd))) ZG K))(Y:Ecs Xq K mg)(Z:Blt mg):Fn P w K mg base 3 "searched" ["one","other"] (sp2 (rV (rV Xd)) (rV (rV Xd)) (oT2 (Ex (oL (oF Xd))) (oL (oF (rP3 (rPL Xd) Xd Xd)))) Vx K):=by
 refine UH D ZL (λvs H Q E h=>?_) (λf cdv A outer s H vs Q E hr h=>?_)
 ·obtain⟨v_0,v_1,a_0,a_1,b,rfl,_⟩:=h;rfl
 obtain⟨v_0,v_1,a_0,a_1,b,rfl,h_0,h_1,hm,q⟩:=h
 have hu:=hu8 hr
 have hu1:=Qk hr
 refine⟨_,(Xb (Xk (i:=2) ZL.nd rfl (Or.inl rfl) (Xt Xc))
  (Xb (Xk (i:=3) ZL.nd rfl (Or.inl rfl) (Du (Xs QR (Xm (Xj K rfl) rfl Z.b_len PySem.boot_len (Xa (pv 0) Xc)) (Xm (Xj K rfl) rfl Z.b_len PySem.boot_len (Xa (pv 1) Xc)) (Xw _)) (Xt (Xa (Yz Xc) Xc)) (Xt Xc)))
  (Xb (KY PassesOwn.never (Xs VR (Xm (Xj K rfl) rfl Z.b_len PySem.boot_len (Xa (pv 3) Xc)) Xg (Xw _))
   (Xb (Xk (i:=4) ZL.nd rfl (Or.inl rfl) (O0 PySem.F.plainAttrs_list PySem.F.slot_list_pop PySem.F.type_list_pop Py (pv 3)))
   (Xb (Xk (i:=5) ZL.nd rfl (Or.inl rfl) (Yg g_first_breach hr (by decide) (Xa (pv 0) (Xa (pv 1) (Xa (pv 4) Xc)))))
   (Xb (Yh (Xs FD (pv 5) Z1 (Xw _))
    (Xb (XC (Y8 PySem.F.plainAttrs_list PySem.F.slot_list_append PySem.F.type_list_append XI (pv 2) (Xa (Yz (Xa (pv 4) (Xa (QO (Ul K rfl) (pv 5) Xg (λ_ _=>rfl)) (Xa (QO (Ul K rfl) (pv 5) Xg (λ_ _=>rfl)) Xc)))) Xc)))
    Xe)
    (Xb (Yh (Xs QR (Xm (Xj K rfl) rfl Z.b_len PySem.boot_len (Xa (pv 4) Xc)) (Xm (Xj K rfl) rfl Z.b_len PySem.boot_len (Xa (pv 0) Xc)) (Xw _))
     (Xb (Xx (Yz (Xa (Ub (Qq K rfl) rfl Z.b_list PyProof.Rows.boot_list (Xa (pv 4) Xc)) (Xa (pv 2) Xc))))
     Xe)
     (Xb (XC (Y8 PySem.F.plainAttrs_list PySem.F.slot_list_extend PySem.F.type_list_extend Jk (pv 3) (Xa (Yg g_longer_images hr (by decide) (Xa (pv 4) (Xa (Xm (Xj K rfl) rfl Z.b_len PySem.boot_len (Xa (pv 1) Xc)) Xc))) Xc)))
     Xe))
    Xe))
   Xe))))
  (Xb (Xx (Yz (Xa Z1 (Xa (pv 2) Xc))))
  Xe)))),?_⟩
 refine K1 (S:=(SC.add (SC.add SC.nil K (rV (rV Xd)) v_0 a_0) K (rV (rV Xd)) v_1 a_1)) (σ:=[some v_0,some v_1,none,none,none,none]) 2 ?_ (SC.i (SC.i SC.t h_0) h_1) hm q rfl
 unfold Vx
 exact(JI (K:=K) (o:=(oL (oF (rP3 (rPL Xd) Xd Xd)))) 2 0 (Zi (o:=(oF (rP3 (rPL Xd) Xd Xd)))) (Nat.le_of_ble_eq_true rfl) λa1 v2 C3=>(JI (K:=K) (o:=(oL (oF (rPL Xd)))) 3 1 (PF (XY (K:=K) (Um (Jq (XD (r:=(rV (rV Xd))) 0 rfl (λ_ s=>s.l.l.r))) (Jq (XD (r:=(rV (rV Xd))) 1 rfl (λ_ s=>s.l.r))))) (U6 (QB (DE Uc) Uc)) (Zi (o:=(oF (rPL Xd))))) (Nat.le_of_ble_eq_true rfl) λa4 v5 C6=>(EI (K:=K) (J:=({oo:=λx16=>[x16.2.2.2.2.2,x16.2.2.2.2.1],ss:=λx16=>[some v_0,some v_1,some x16.2.2.2.1,some x16.2.2.1,x16.1,x16.2.1],sc:=λg17 x16=>(SC.addO (SC.addO (SC.add (SC.add SC.nil K (rV (rV Xd)) v_0 a_0) K (rV (rV Xd)) v_1 a_1) K (oL (oF (rPL Xd))) x16.2.2.1 g17.1 x16.2.2.2.2.1) K (oL (oF (rP3 (rPL Xd) Xd Xd))) x16.2.2.2.1 g17.2 x16.2.2.2.2.2)}:Jn ((List (List Int))×(List ((List Int)×Int×Int))) (Option V×Option V×V×V×List Xo×List Xo))) (a_0.length+100000) ((none),(none),v5,v2,C6,C3) (a4,a1) rfl rfl (λ_ s=>(SC.i (SC.i (SC.i (SC.i SC.t s.l.l.l.r) s.l.l.r) s.r) s.l.r)) (λg18 x19=>(XY (K:=K) (Mt (Jq (F0 (o:=(oL (oF (rPL Xd)))) 3 1 rfl rfl (λ_ s=>s.l.r))) (FC 0)))) (λg18 x19=>(Nt (K:=K) (r:=(rPL Xd)) 4 3 1 rfl rfl (λ_ s=>s.l.r) λa23 a24 v25 C26=>(DC (K:=K) (r:=(Qp (rP2 Xd Xd))) 5 (EvB.sh (Ev.toB (KG (XD (r:=(rV (rV Xd))) 0 rfl (λ_ s=>s.l.l.l.l.l.r)) (XD (r:=(rV (rV Xd))) 1 rfl (λ_ s=>s.l.l.l.l.r)) (XD (r:=(rPL Xd)) 4 rfl (λ_ s=>s.l.r))))) λa28 v29=>(Ko (J:=({oo:=λx36=>[x36.2.2.1,x36.2.2.2],ss:=λx36=>[some v_0,some v_1,some x36.1,some x36.2.1,some v25,some v29],sc:=λg37 x36=>(SC.addO (SC.addO (SC.add (SC.add (SC.add (SC.add SC.nil K (rV (rV Xd)) v_0 a_0) K (rV (rV Xd)) v_1 a_1) K (rPL Xd) v25 a23) K (Qp (rP2 Xd Xd)) v29 a28) K (oL (oF (rP3 (rPL Xd) Xd Xd))) x36.1 g37.1 x36.2.2.1) K (oL (oF (rPL Xd))) x36.2.1 g37.2 x36.2.2.2)}:Jn ((List ((List Int)×Int×Int))×(List (List Int))) (V×V×List Xo×List Xo))) (Yu (Fd:=FCd K (oT2 (Ex (oL (oF Xd))) (oL (oF (rP3 (rPL Xd) Xd Xd)))) ({oo:=λx36=>[x36.2.2.1,x36.2.2.2],ss:=λx36=>[some v_0,some v_1,some x36.1,some x36.2.1,some v25,some v29],sc:=λg37 x36=>(SC.addO (SC.addO (SC.add (SC.add (SC.add (SC.add SC.nil K (rV (rV Xd)) v_0 a_0) K (rV (rV Xd)) v_1 a_1) K (rPL Xd) v25 a23) K (Qp (rP2 Xd Xd)) v29 a28) K (oL (oF (rP3 (rPL Xd) Xd Xd))) x36.1 g37.1 x36.2.2.1) K (oL (oF (rPL Xd))) x36.2.1 g37.2 x36.2.2.2)}:Jn ((List ((List Int)×Int×Int))×(List (List Int))) (V×V×List Xo×List Xo))) (XY (K:=K) (Kv (tb:=tC .non) (XD (r:=(Qp (rP2 Xd Xd))) 5 rfl (λ_ s=>s.r)))) (BT (K:=K) (o:=(oF (rP3 (rPL Xd) Xd Xd))) (f:=λa45=>(Rs.bind (Rs.ok (a45,a24)) λx46=>(Rs.ok (Ctl.nx x46)))) 2 0 rfl rfl rfl (λ_ s=>s.l.l.l.r) (EvS.ev (Ua (Zl (r:=(rPL Xd)) 4 rfl (λ_ s=>s.l.l.r)) (EvB.sh (FZ (GX (XD (r:=(Qp (rP2 Xd Xd))) 5 rfl (λ_ s=>s.r))))) (EvB.sh (F3 (GX (XD (r:=(Qp (rP2 Xd Xd))) 5 rfl (λ_ s=>s.r))))))) λa43 C44=>(Za (Jl (J:=_) (x19.2.2.2.1,x19.2.2.1,C44,C26) ((g18.2++[a43]),a24) rfl rfl (λ_ s=>(SC.i (SC.i (SC.i (SC.i (SC.i (SC.i SC.t s.l.l.l.l.l.l.l.r) s.l.l.l.l.l.l.r) s.l.l.l.r) s.l.r) s.r) s.l.l.r))))) (Ko (J:=({oo:=λx52=>[x19.2.2.2.2.2,x52.2],ss:=λx52=>[some v_0,some v_1,some x19.2.2.2.1,some x52.1,some v25,some v29],sc:=λg53 x52=>(SC.addO (SC.add (SC.add (SC.addO (SC.add (SC.add SC.nil K (rV (rV Xd)) v_0 a_0) K (rV (rV Xd)) v_1 a_1) K (oL (oF (rP3 (rPL Xd) Xd Xd))) x19.2.2.2.1 g18.2 x19.2.2.2.2.2) K (rPL Xd) v25 a23) K (Qp (rP2 Xd Xd)) v29 a28) K (oL (oF (rPL Xd))) x52.1 g53 x52.2)}:Jn ((List (List Int))) (V×List Xo))) (Yu (Fd:=FCd K (oT2 (Ex (oL (oF Xd))) (oL (oF (rP3 (rPL Xd) Xd Xd)))) ({oo:=λx52=>[x19.2.2.2.2.2,x52.2],ss:=λx52=>[some v_0,some v_1,some x19.2.2.2.1,some x52.1,some v25,some v29],sc:=λg53 x52=>(SC.addO (SC.add (SC.add (SC.addO (SC.add (SC.add SC.nil K (rV (rV Xd)) v_0 a_0) K (rV (rV Xd)) v_1 a_1) K (oL (oF (rP3 (rPL Xd) Xd Xd))) x19.2.2.2.1 g18.2 x19.2.2.2.2.2) K (rPL Xd) v25 a23) K (Qp (rP2 Xd Xd)) v29 a28) K (oL (oF (rPL Xd))) x52.1 g53 x52.2)}:Jn ((List (List Int))) (V×List Xo))) (XY (K:=K) (Um (DA (XD (r:=(rPL Xd)) 4 rfl (λ_ s=>s.l.l.r))) (Jq (XD (r:=(rV (rV Xd))) 0 rfl (λ_ s=>s.l.l.l.l.l.l.r))))) (Ox (Xz (Js (MS Tf (Ln (XD (r:=(rPL Xd)) 4 rfl (λ_ s=>s.l.l.r)))) λ_=>(JT (o:=(oL (oF (rP3 (rPL Xd) Xd Xd)))) 2 1 rfl rfl (λ_ s=>s.l.l.l.r))))) (Hg (K:=K) (o:=(oF (rPL Xd))) (f:=λa65=>(Rs.bind (Rs.ok (a65)) λx66=>(Rs.ok (Ctl.nx x66)))) 3 1 rfl rfl rfl (λ_ s=>s.l.r) (Dy (XD (r:=(rPL Xd)) 4 rfl (λ_ s=>s.l.l.r)) (Jq (XD (r:=(rV (rV Xd))) 1 rfl (λ_ s=>s.l.l.l.l.l.r)))) λa63 C64=>(Za (Jl (J:=_) (x19.2.2.1,C64) ((a24++a63)) rfl rfl (λ_ s=>(SC.i (SC.i (SC.i (SC.i (SC.i (SC.i SC.t s.l.l.l.l.l.l.l.r) s.l.l.l.l.l.l.r) s.l.l.l.l.r) s.l.l.l.r) s.l.r) s.r)))))) λg68 x67=>(Za (Jl (J:=_) (x19.2.2.2.1,x67.1,x19.2.2.2.2.2,x67.2) (g18.2,g68) rfl rfl (λ_ s=>(SC.i (SC.i (SC.i (SC.i (SC.i (SC.i SC.t s.l.l.l.l.l.r) s.l.l.l.l.r) s.l.l.r) s.l.r) s.l.l.l.r) s.r)))))) λg71 x70=>(Za (Jl (J:=_) ((some v25),(some v29),x70.2.1,x70.1,x70.2.2.2,x70.2.2.1) (g71.2,g71.1) rfl rfl (λ_ s=>(SC.i (SC.i (SC.i (SC.i SC.t s.l.l.l.l.l.r) s.l.l.l.l.r) s.r) s.l.r)))))))) λg73 x74=>(Xz (Js Pj λ_=>(JT (o:=(oL (oF (rP3 (rPL Xd) Xd Xd)))) 2 1 rfl rfl (λ_ s=>s.r)))))))
end
theorem NE:FnScope ["one","other"] ["one","other"] (Xf Hb):=⟨rfl,rfl,rfl,by decide+kernel,rfl,by decide+kernel,by decide+kernel⟩
noncomputable abbrev Mg (m:(List (List Int))->(List (List Int))->Rs (Option (List Int)))(P:Program)(w:World)(K:PySem.W.Frag)(mg:Str->Option Value)(base:Heap):Prop:=FnX P w K mg base 4 "like" ["one","other"] (Bn mg (rV (rV Xd)) (rV (rV Xd)) (Ex (oL (oF Xd))) m K)
noncomputable def Mc:{m // Pk λP w K mg base=>Def K mg "like" Hb ["one","other"]->Jc VD P w K mg base->Bc Vx P w K mg base->Ecs Xq K mg->Blt mg->Mg m P w K mg base}:=⟨_, @λP w K mg base D g_refuse_big g_searched Y Z=>O2 D NE 0 0 rfl rfl λhr hu hu1=>⟨_,(Xb (XC (Yp g_refuse_big hr (by decide) QS (Xa (pv 0) (Xa (pv 1) Xc))))
  (Xb (PS.nox (Xx (QT K (Yg g_searched hr (by decide) (Xa (pv 0) (Xa (pv 1) Xc))) Xg)))
  Xe)),λv_0 v_1 a_0 a_1=>(Q6 (K:=K) (Ev.toB (XX qB qB)) (Xz (Na qN)))⟩⟩
noncomputable def DS:=Mc.1
noncomputable def ZK (a_0:Int):Rs (List (List (List Int))):=(Rs.bind (Rs.ok []) λa1=>(Rs.bind (Rs.bind (Rs.ok a_0) λx4=>(YT x4)) λx31=>(Rs.bind (forN x31 (a1) (λg7 a9=>(Rs.bind (Rs.bind (Rs.bind (Rs.bind (Rs.ok g7) λx16=>(Ed x16 (λa14=>(Rs.bind (Rs.bind (Rs.ok a14) λx17=>(Rs.bind (Rs.ok a9) λx18=>(DS x17 x18))) λx19=>(Rs.ok x19.isNone))))) λx20=>(Rs.ok (x20.all id))) λx21=>(if x21=true then(Rs.bind (Rs.ok a9) λa24=>(chk (g7.length<sizeLine) ((λa26=>(Rs.ok (a26))) (g7++[a24])))) else(Rs.ok (g7)))) λg28=>(Rs.ok (g28))))) λg29=>(Rs.ok g29))))
noncomputable abbrev Ny (m:Int->Rs (List (List (List Int))))(P:Program)(w:World)(K:PySem.W.Frag)(mg:Str->Option Value)(base:Heap):Prop:=FnX P w K mg base 5 "kinds" ["size"] (MD mg Xd (oL (oL (oL (oF Xd)))) m K)
section
variable {P:Program}{w:World}{K:PySem.W.Frag}{mg:Str->Option Value}{base:Heap}
theorem K5:FnScope ["size","told","table"] ["size"] (Xf Ku):=⟨rfl,rfl,rfl,by decide+kernel,rfl,by decide+kernel,by decide+kernel⟩
theorem Iu (D:Def K mg "kinds" Ku ["size"])(g_tables:FnX P w K mg base 4 "tables" ["size"] (MD mg Xd (oL (oL (oL (oF Xd)))) YT K))(g_like:FnX P w K mg base 4 "like" ["one","other"] (Bn mg (rV (rV Xd)) (rV (rV Xd)) (Ex (oL (oF Xd))) DS K))(Y:Ecs Xq K mg)(Z:Blt mg):FnX P w K mg base 5 "kinds" ["size"] (MD mg Xd (oL (oL (oL (oF Xd)))) ZK K):=by
 refine VJ D K5 (λvs H Q E h=>?_) (λf cdv A outer s H vs Q E hr h=>?_)
 ·obtain⟨v_0,a_0,rfl,_⟩:=h;rfl
 obtain⟨v_0,a_0,rfl,h_0,hz⟩:=h
 have hu:=hu8 hr
 have hu1:=Qk hr
 refine⟨_,(Xb (PS.nox (Xk (i:=1) K5.nd rfl (Or.inl rfl) (Xt Xc)))
  (Xb (XG PassesOwn.leaving rfl (XA (K:=K) rfl (Yp g_tables hr (by decide) QS (Xa (pv 0) Xc))) (Xi (i:=2) K5.nd rfl (Or.inr rfl))
   (Xb (Yh (Kj (Xm (GO rfl) rfl Z.b_all PyProof.Rows.boot_all (Xa (D0 (sc:=(Xf Ku)) (N0:=["size","told","table"]) (tns:=["kind"]) (caps:=[(2,"table")]) Pl rfl (XA (K:=K) rfl (pv 1)) (Yf (by decide)) (λcl C s H ex E hp=>⟨Xi (i:=0) (show List.Nodup (["kind","table"]:List Str) by decide+kernel) rfl (Or.inl rfl),Yy,(Qb CU (Yp g_like hr (by decide) hp (Xa (pv 0) (Xa (pv 1) Xc))) Z1 (Xw _))⟩)) Xc)))
    (Xb (PS.nox (XC (Y8 PySem.F.plainAttrs_list PySem.F.slot_list_append PySem.F.type_list_append XI (pv 1) (Xa (pv 2) Xc))))
    Xe)
    Xe)
   Xe))
  (Xb (PS.nox (Xx (pv 1)))
  Xe))),?_⟩
 refine Cr (S:=(SC.add SC.nil K Xd v_0 a_0)) (σ:=[some v_0,none,none]) 3 ?_ (SC.i SC.t h_0) hz rfl
 unfold ZK
 exact(JI (K:=K) (o:=(oL (oL (oL (oF Xd))))) 1 0 (Zi (o:=(oL (oL (oF Xd))))) (Nat.le_of_ble_eq_true rfl) λa1 v2 C3=>(MK (K:=K) (o:=(oL (oL (oF Xd)))) (J:=({oo:=λx5=>[x5.2.2,[],[]],ss:=λx5=>[some v_0,some x5.2.1,x5.1],sc:=λg6 x5=>(SC.addO (SC.add SC.nil K Xd v_0 a_0) K (oL (oL (oL (oF Xd)))) x5.2.1 g6 x5.2.2)}:Jn ((List (List (List Int)))) (Option V×V×List Xo))) 1 2 2 ((none),v2,C3) (a1) (QX (XD (r:=Xd) 0 rfl (λ_ s=>s.l.r))) rfl rfl (λ_ s=>(SC.i (SC.i SC.t s.l.r) s.r)) (λ_=>rfl) (λ_=>rfl) (by decide) (λR12 g7 x8 a9 v10 C11=>(EY (J:=({oo:=λx22=>[x22.2.2,[],R12],ss:=λx22=>[some v_0,some x22.1,x22.2.1],sc:=λg23 x22=>(SC.addO (SC.add SC.nil K Xd v_0 a_0) K (oL (oL (oL (oF Xd)))) x22.1 g23 x22.2.2)}:Jn ((List (List (List Int)))) (V×Option V×List Xo))) (Yu (Fd:=FNd ({oo:=λx22=>[x22.2.2,[],R12],ss:=λx22=>[some v_0,some x22.1,x22.2.1],sc:=λg23 x22=>(SC.addO (SC.add SC.nil K Xd v_0 a_0) K (oL (oL (oL (oF Xd)))) x22.1 g23 x22.2.2)}:Jn ((List (List (List Int)))) (V×Option V×List Xo))) (Iv (K:=K) (HW (Ev.toB (Fq (K:=K) (o1:=(oL (oL (oL (oF Xd))))) 0 rfl (λ_ s=>s.l.r) (Yx (λ_=>tg1 0) (Yn (Zl (r:=(rV (rV (rV Xd)))) 1 rfl (λ_ s=>s.r))) (λC13 a14 v15=>(EvS.ev (EvB.sh (Ky (tb:=tC .non) (Ev.toB (XX (XD (r:=(rV (rV Xd))) 0 rfl (λ_ s=>s.r)) (F0 (o:=(oL (oL (oF Xd)))) 1 2 rfl rfl (λ_ s=>s.l.l.r))))))))))))) (BT (K:=K) (o:=(oL (oL (oF Xd)))) (f:=λa26=>(Rs.ok (a26))) 1 0 rfl rfl rfl (λ_ s=>s.l.r) (JT (o:=(oL (oL (oF Xd)))) 2 1 rfl rfl (λ_ s=>s.r)) λa24 C25=>(Jl (J:=_) (x8.2.1,(some v10),C25) ((g7++[a24])) rfl rfl (λ_ s=>(SC.i (SC.i SC.t s.l.l.l.r) s.r)))) (KC 1 (Jl (J:=_) (x8.2.1,(some v10),x8.2.2) (g7) rfl rfl (λ_ s=>(SC.i (SC.i SC.t s.l.l.r) s.l.r))))) λg28 x27=>(Jl (J:=_) ((x27.2.1),x27.1,x27.2.2) (g28) rfl rfl (λ_ s=>(SC.i (SC.i SC.t s.l.r) s.r))))) λg29 x30=>(Xz (JT (o:=(oL (oL (oL (oF Xd))))) 1 0 rfl rfl (λ_ s=>s.r)))))
end
theorem FW:FnScope ["drawing","passage","at","walk"] ["drawing","passage"] (Xf Hf):=⟨rfl,rfl,rfl,by decide+kernel,rfl,by decide+kernel,by decide+kernel⟩
noncomputable abbrev EL (m:((List (List Int))×(List (Int×Int)))->Int->Rs (Int×Int))(P:Program)(w:World)(K:PySem.W.Frag)(mg:Str->Option Value)(base:Heap):Prop:=FnX P w K mg base 1 "spot" ["drawing","passage"] (Bn mg (rP2 (rV (rV Xd)) (rV (rP2 Xd Xd))) Xd (oF (rP2 Xd Xd)) m K)
noncomputable def HK:{m // Pk λP w K mg base=>Def K mg "spot" Hf ["drawing","passage"]->Ecs Xq K mg->Blt mg->EL m P w K mg base}:=⟨_, @λP w K mg base D Y Z=>O2 D FW 2 0 rfl rfl λhr hu hu1=>let ⟨C_NoCrossing,h_NoCrossing,q_NoCrossing⟩:=Y.adr "NoCrossing" (.tail _ (.head _));⟨_,(Xb (PS.nox (XG PassesOwn.never rfl (UP rfl Z.b_enumerate (QT K (pv 0) Xg)) (VG rfl (XT (Xi (i:=2) FW.nd rfl (Or.inl rfl)) (XT (Xi (i:=3) FW.nd rfl (Or.inl rfl)) QK)))
   (Xb (Yh (Xs GV (pv 1) (pv 3) rfl)
    (Xb (Xx (Yz (Xa (pv 2) (Xa (Pi (K:=K) rfl PySem.F.plainAttrs_list PySem.F.slot_list_index PySem.F.type_list_index (Hq K rfl) (pv 3) (Xa (pv 1) Xc)) Xc))))
    Xe)
    Xe)
   Xe)))
  (Xb (Gq Ie rfl (q_NoCrossing (by decide)) rfl h_NoCrossing (Xa (RQ (Ct CC (Cv (pv 1) ER))) Xc))
  Xe)),λv_0 v_1 a_0 a_1=>(Da K (λO (x3:Option V×Option V)=>[]) (λs x3=>[some v_0,some v_1,x3.1,x3.2]) (λS (g4:Unit) x3=>S) (λ_=>tg2 2 3) ((none),(none)) () (Jj qS) rfl rfl (λ_ s=>s) (λg5 x6 a7 v8=>(Q0 (XY (K:=K) (Mn qB qB)) (Xz (EvS.ev (V7 qS (EvB.sh (BQ qB qB))))) (Za (Yc ((some v8.1),(some v8.2)) () rfl rfl)))) λg18 x19=>(Kr h_NoCrossing (N7 (K2 (K0 (K:=K) qB Dk)))))⟩⟩
noncomputable def CH:=HK.1
theorem Q5:FnScope ["walk","unders"] ["walk"] (Xf Zo):=⟨rfl,rfl,rfl,by decide+kernel,rfl,by decide+kernel,by decide+kernel⟩
noncomputable abbrev YK (m:(List Int)->Rs Int)(P:Program)(w:World)(K:PySem.W.Frag)(mg:Str->Option Value)(base:Heap):Prop:=Fn P w K mg base 1 "arcs_of_walk" ["walk"] (sp1 (rV Xd) (oF Xd) m K)
noncomputable def Qa:{m // Pk λP w K mg base=>Def K mg "arcs_of_walk" Zo ["walk"]->Ecs Xq K mg->Blt mg->YK m P w K mg base}:=⟨_, @λP w K mg base D Y Z=>go1 D Q5 1 0 rfl rfl λhr hu hu1=>⟨_,(Xb (KP 1 (Xf Zo) ["walk","unders"] ["passage"] [] rfl Q5.nd rfl rfl (XA (K:=K) rfl (pv 0)) (Yf (by decide)) (λcl C s H ex E=>⟨Xi (i:=0) (show List.Nodup (["passage"]:List Str) by decide+kernel) rfl (Or.inl rfl),(UN (Xs Gj (pv 0) Xg (Xw _))),(pv 0)⟩))
  (Xb (Xx (Xm (Qn rfl) rfl Z.b_max PyProof.Rows.boot_max (Xa (Xm (Xj K rfl) rfl Z.b_len PySem.boot_len (Xa (pv 1) Xc)) (Xa Xg Xc))))
  Xe)),λv_0 a_0=>(YQ K (r:=(rV Xd)) (Ev.sh (VV (λ_=>tg1 0) qw (λC3 a4 v5=>(qt K)) (λC3 a4 v5=>qM))) λa1 v2=>(Xz qM))⟩⟩
noncomputable def Ys:=Qa.1
theorem Ye:FnScope ["walk","first","number","unders","ways","passage"] ["walk","first"] (Xf Z6):=⟨rfl,rfl,rfl,by decide+kernel,rfl,by decide+kernel,by decide+kernel⟩
noncomputable abbrev Z9 (m:(List Int)->Int->Rs (List Int))(P:Program)(w:World)(K:PySem.W.Frag)(mg:Str->Option Value)(base:Heap):Prop:=Fn P w K mg base 2 "arcs_of_ways" ["walk","first"] (sp2 (rV Xd) Xd (oL (oF Xd)) m K)
noncomputable def Z5:{m // Pk λP w K mg base=>Def K mg "arcs_of_ways" Z6 ["walk","first"]->YK Ys P w K mg base->Ecs Xq K mg->Blt mg->Z9 m P w K mg base}:=⟨_, @λP w K mg base D g_arcs_of_walk Y Z=>go2 D Ye 4 1 rfl rfl λhr hu hu1=>⟨_,(Xb (Xk (i:=2) Ye.nd rfl (Or.inl rfl) (Yg g_arcs_of_walk hr (by decide) (Xa (pv 0) Xc)))
  (Xb (Xk (i:=3) Ye.nd rfl (Or.inl rfl) Xg)
  (Xb (Xk (i:=4) Ye.nd rfl (Or.inl rfl) (Xt (Xa (pv 1) Xc)))
  (Xb (XG PassesOwn.never rfl (XA (K:=K) rfl (VY (V8 K rfl) (pv 0) Ur (UA (Vo Ql Xg)))) (Xi (i:=5) Ye.nd rfl (Or.inl rfl))
   (Xb (Yh (Xs Gj (pv 5) Xg (Xw _))
    (Xb (HS (i:=3) Ye.nd rfl (Or.inl rfl) Xg Mu)
    Xe)
    Xe)
   (Xb (XC (Y8 PySem.F.plainAttrs_list PySem.F.slot_list_append PySem.F.type_list_append XI (pv 4) (Xa (Xr XO (pv 1) (Xr Zw (pv 3) (pv 2))) Xc)))
   Xe)))
  (Xb (Xx (pv 4))
  Xe))))),λv_0 v_1 a_0 a_1=>(YQ K qS λa1 v2=>(YQ K qS λa5 v6=>(Y9 K 0 qN λa7 v8 C9=>(VC K (λO (x18:Option V×V×V×List Xo)=>[x18.2.2.2]) (λs x18=>[some v_0,some v_1,some v2,some x18.2.1,some x18.2.2.1,x18.1]) (λS (g19:Int×(List Int)) x18=>(SC.addO (SC.add S K Xd x18.2.1 g19.1) K (oL (oF Xd)) x18.2.2.1 g19.2 x18.2.2.2)) (λ_=>tg1 5) ((none),v6,v8,C9) (a5,a7) qw rfl rfl (λ_ s=>(SC.i (SC.i s s.l.r) s.r)) (λg20 x21 a22 v23=>(Qh (λO (x27:V)=>[x21.2.2.2]) (λs x27=>[some v_0,some v_1,some v2,some x27,some x21.2.2.1,some v23]) (λS (g28:Int) x27=>(SC.add S K Xd x27 g28)) (Yu (qt K) (SQ K qB λa31 v30=>(Yc (v30) (a31) rfl rfl)) (Yc (x21.2.1) (g20.1) rfl rfl)) λg33 x32=>(Fi K qM λa40 C39=>(Yc ((some v23),x32,x21.2.2.1,C39) (g33,a40) rfl rfl)))) λg41 x42=>(Xz Jg)))))⟩⟩
noncomputable def Zq:=Z5.1
theorem UQ:FnScope ["drawing","told","first","walk"] ["drawing"] (Xf Hs):=⟨rfl,rfl,rfl,by decide+kernel,rfl,by decide+kernel,by decide+kernel⟩
noncomputable abbrev En (m:((List (List Int))×(List (Int×Int)))->Rs (List (List Int)))(P:Program)(w:World)(K:PySem.W.Frag)(mg:Str->Option Value)(base:Heap):Prop:=Fn P w K mg base 3 "arcs" ["drawing"] (sp1 (rP2 (rV (rV Xd)) (rV (rP2 Xd Xd))) (oL (oL (oF Xd))) m K)
noncomputable def Hr:{m // Pk λP w K mg base=>Def K mg "arcs" Hs ["drawing"]->YK Ys P w K mg base->Z9 Zq P w K mg base->Ecs Xq K mg->Blt mg->En m P w K mg base}:=⟨_, @λP w K mg base D g_arcs_of_walk g_arcs_of_ways Y Z=>go1 D UQ 3 1 rfl rfl λhr hu hu1=>⟨_,(Xb (Xk (i:=1) UQ.nd rfl (Or.inl rfl) (Xt Xc))
  (Xb (Xk (i:=2) UQ.nd rfl (Or.inl rfl) Xg)
  (Xb (XG PassesOwn.never rfl (XA (K:=K) rfl (QT K (pv 0) Xg)) (Xi (i:=3) UQ.nd rfl (Or.inl rfl))
   (Xb (XC (Y8 PySem.F.plainAttrs_list PySem.F.slot_list_append PySem.F.type_list_append XI (pv 1) (Xa (Yg g_arcs_of_ways hr (by decide) (Xa (pv 3) (Xa (pv 2) Xc))) Xc)))
   (Xb (HS (i:=2) UQ.nd rfl (Or.inl rfl) (Yg g_arcs_of_walk hr (by decide) (Xa (pv 3) Xc)) Mu)
   Xe)))
  (Xb (Xx (pv 1))
  Xe)))),λv_0 a_0=>(Y9 K (o:=(oL (oL (oF Xd)))) 0 (Zi (o:=(oL (oF Xd)))) λa1 v2 C3=>(YQ K qS λa4 v5=>(VC K (λO (x7:Option V×V×V×List Xo)=>[x7.2.2.2]) (λs x7=>[some v_0,some x7.2.2.1,some x7.2.1,x7.1]) (λS (g8:Int×(List (List Int))) x7=>(SC.addO (SC.add S K Xd x7.2.1 g8.1) K (oL (oL (oF Xd))) x7.2.2.1 g8.2 x7.2.2.2)) (λ_=>tg1 3) ((none),v5,v2,C3) (a4,a1) qw rfl rfl (λ_ s=>(SC.i (SC.i s s.r) s.l.r)) (λg9 x10 a11 v12=>(Fi K qN λa18 C17=>(SQ K qB λa23 v22=>(Yc ((some v12),v22,x10.2.2.1,C17) (a23,a18) rfl rfl)))) λg24 x25=>(Xz Jg))))⟩⟩
noncomputable def DJ:=Hr.1
theorem Gy:FnScope ["drawing"] ["drawing"] (Xf Qx):=⟨rfl,rfl,rfl,by decide+kernel,rfl,by decide+kernel,by decide+kernel⟩
noncomputable abbrev QA (m:((List (List Int))×(List (Int×Int)))->Rs Int)(P:Program)(w:World)(K:PySem.W.Frag)(mg:Str->Option Value)(base:Heap):Prop:=Fn P w K mg base 2 "arc_count" ["drawing"] (sp1 (rP2 (rV (rV Xd)) (rV (rP2 Xd Xd))) (oF Xd) m K)
noncomputable def JP:{m // Pk λP w K mg base=>Def K mg "arc_count" Qx ["drawing"]->YK Ys P w K mg base->Ecs Xq K mg->Blt mg->QA m P w K mg base}:=⟨_, @λP w K mg base D g_arcs_of_walk Y Z=>go1 D Gy 0 0 rfl rfl λhr hu hu1=>⟨_,(Xb (Xx (Xm (EM rfl) rfl Z.b_sum PyProof.Rows.boot_sum (Xa (YA (sc:=(Xf Qx)) (N0:=["drawing"]) (tns:=["walk"]) (caps:=[]) rfl (XA (K:=K) rfl (QT K (pv 0) Xg)) (Yf (by decide)) (λcl C s H ex E=>⟨Xi (i:=0) (show List.Nodup (["walk"]:List Str) by decide+kernel) rfl (Or.inl rfl),Yy,(Yg g_arcs_of_walk hr (by decide) (Xa (pv 0) Xc))⟩)) Xc)))
  Xe),λv_0 a_0=>(Xz (EvS.ev (EvB.sh (OG (Ev.toB (Yx (λ_=>tg1 0) qw (λC3 a4 v5=>qN)))))))⟩⟩
noncomputable def ZR:=JP.1
theorem Y7:FnScope ["drawing","numbers","told","crossing","sign","above","below","over","ways","inward","outward"] ["drawing"] (Xf FH):=⟨rfl,rfl,rfl,by decide+kernel,rfl,by decide+kernel,by decide+kernel⟩
noncomputable abbrev FX (m:((List (List Int))×(List (Int×Int)))->Rs (List (Int×Int×Int×Int×Int)))(P:Program)(w:World)(K:PySem.W.Frag)(mg:Str->Option Value)(base:Heap):Prop:=FnX P w K mg base 4 "meets" ["drawing"] (MD mg (rP2 (rV (rV Xd)) (rV (rP2 Xd Xd))) (oL (oF (rP5 Xd Xd Xd Xd Xd))) m K)
noncomputable def Fr:{m // Pk λP w K mg base=>Def K mg "meets" FH ["drawing"]->En DJ P w K mg base->EL CH P w K mg base->Ecs Xq K mg->Blt mg->FX m P w K mg base}:=⟨_, @λP w K mg base D g_arcs g_spot Y Z=>R3 D Y7 10 1 rfl rfl λhr hu hu1=>⟨_,(Xb (PS.nox (Xk (i:=1) Y7.nd rfl (Or.inl rfl) (Yg g_arcs hr (by decide) (Xa (pv 0) Xc))))
  (Xb (PS.nox (Xk (i:=2) Y7.nd rfl (Or.inl rfl) (Xt Xc)))
  (Xb (XG PassesOwn.leaving rfl (XA (K:=K) rfl (QT K (pv 0) Xg)) (VG rfl (XT (Xi (i:=3) Y7.nd rfl (Or.inl rfl)) (XT (Xi (i:=4) Y7.nd rfl (Or.inl rfl)) QK)))
   (Xb (Xk (i:=5) Y7.nd rfl (Or.inl rfl) (Yp g_spot hr (by decide) QS (Xa (pv 0) (Xa (pv 3) Xc))))
   (Xb (Xk (i:=6) Y7.nd rfl (Or.inl rfl) (Yp g_spot hr (by decide) QS (Xa (pv 0) (Xa (Vo Ql (pv 3)) Xc))))
   (Xb (PS.nox (Xk (i:=7) Y7.nd rfl (Or.inl rfl) (XS K (XS K (pv 1) (QT K (pv 5) Xg)) (QT K (pv 5) Xg))))
   (Xb (PS.nox (Xk (i:=8) Y7.nd rfl (Or.inl rfl) (XS K (pv 1) (QT K (pv 6) Xg))))
   (Xb (PS.nox (Xk (i:=9) Y7.nd rfl (Or.inl rfl) (XS K (pv 8) (QT K (pv 6) Xg))))
   (Xb (PS.nox (Xk (i:=10) Y7.nd rfl (Or.inl rfl) (XS K (pv 8) (Xr Zw (Xr XO (QT K (pv 6) Xg) Xg) (Xm (Xj K rfl) rfl Z.b_len PySem.boot_len (Xa (pv 8) Xc))))))
   (Xb (PS.nox (XC (Y8 PySem.F.plainAttrs_list PySem.F.slot_list_append PySem.F.type_list_append XI (pv 2) (Xa (Yz (Xa (pv 3) (Xa (pv 4) (Xa (pv 7) (Xa (pv 9) (Xa (pv 10) Xc)))))) Xc))))
   Xe))))))))
  (Xb (PS.nox (Xx (pv 2)))
  Xe)))),λv_0 a_0=>(YQ K qS λa1 v2=>(Y9 K (o:=(oL (oF (rP5 Xd Xd Xd Xd Xd)))) 0 (Zi (o:=(oF (rP5 Xd Xd Xd Xd Xd)))) λa5 v6 C7=>(VC K (λO (x9:Option V×Option V×Option V×Option V×Option V×Option V×Option V×Option V×V×List Xo)=>[x9.2.2.2.2.2.2.2.2.2]) (λs x9=>[some v_0,some v2,some x9.2.2.2.2.2.2.2.2.1,x9.1,x9.2.1,x9.2.2.1,x9.2.2.2.1,x9.2.2.2.2.1,x9.2.2.2.2.2.1,x9.2.2.2.2.2.2.1,x9.2.2.2.2.2.2.2.1]) (λS (g10:(List (Int×Int×Int×Int×Int))) x9=>(SC.addO S K (oL (oF (rP5 Xd Xd Xd Xd Xd))) x9.2.2.2.2.2.2.2.2.1 g10 x9.2.2.2.2.2.2.2.2.2)) (λ_=>tg2 3 4) ((none),(none),(none),(none),(none),(none),(none),(none),v6,C7) (a5) qw rfl rfl (λ_ s=>(SC.i s s.r)) (λg11 x12 a13 v14=>(YQ K (r:=(rP2 Xd Xd)) (EvB.sh (Ev.toB (XX qB qB))) λa15 v16=>(YQ K (r:=(rP2 Xd Xd)) (EvB.sh (Ev.toB (XX qB qB))) λa19 v20=>(YQ K qS λa24 v25=>(YQ K qS λa32 v33=>(YQ K qS λa37 v38=>(YQ K qS λa42 v43=>(Fi K (EvS.ev (IG qS qS qS qS qS)) λa59 C58=>(Yc ((some v14.1),(some v14.2),(some v16),(some v20),(some v25),(some v33),(some v38),(some v43),x12.2.2.2.2.2.2.2.2.1,C58) (a59) rfl rfl))))))))) λg60 x61=>(Xz Jg))))⟩⟩
noncomputable def Vk:=Fr.1
theorem JU:FnScope ["drawing","told","crossing","sign","over","inward","outward"] ["drawing"] (Xf El):=⟨rfl,rfl,rfl,by decide+kernel,rfl,by decide+kernel,by decide+kernel⟩
noncomputable abbrev Hz (m:((List (List Int))×(List (Int×Int)))->Rs (List (Int×Int×Int)))(P:Program)(w:World)(K:PySem.W.Frag)(mg:Str->Option Value)(base:Heap):Prop:=FnX P w K mg base 5 "ties" ["drawing"] (MD mg (rP2 (rV (rV Xd)) (rV (rP2 Xd Xd))) (oL (oF (rP3 Xd Xd Xd))) m K)
noncomputable def HV:{m // Pk λP w K mg base=>Def K mg "ties" El ["drawing"]->FX Vk P w K mg base->Ecs Xq K mg->Blt mg->Hz m P w K mg base}:=⟨_, @λP w K mg base D g_meets Y Z=>R3 D JU 6 1 rfl rfl λhr hu hu1=>⟨_,(Xb (PS.nox (Xk (i:=1) JU.nd rfl (Or.inl rfl) (Xt Xc)))
  (Xb (XG PassesOwn.leaving rfl (XA (K:=K) rfl (Yp g_meets hr (by decide) QS (Xa (pv 0) Xc))) (VG rfl (XT (Xi (i:=2) JU.nd rfl (Or.inl rfl)) (XT (Xi (i:=3) JU.nd rfl (Or.inl rfl)) (XT (Xi (i:=4) JU.nd rfl (Or.inl rfl)) (XT (Xi (i:=5) JU.nd rfl (Or.inl rfl)) (XT (Xi (i:=6) JU.nd rfl (Or.inl rfl)) QK))))))
   (Xb (PS.nox (XC (Y8 PySem.F.plainAttrs_list PySem.F.slot_list_append PySem.F.type_list_append XI (pv 1) (Xa (Du (Xs QR (pv 3) Xg (Xw _)) (Yz (Xa (pv 5) (Xa (pv 4) (Xa (pv 6) Xc)))) (Yz (Xa (pv 6) (Xa (pv 4) (Xa (pv 5) Xc))))) Xc))))
   Xe))
  (Xb (PS.nox (Xx (pv 1)))
  Xe))),λv_0 a_0=>(Y9 K (o:=(oL (oF (rP3 Xd Xd Xd)))) 0 (Zi (o:=(oF (rP3 Xd Xd Xd)))) λa1 v2 C3=>(VC K (λO (x5:Option V×Option V×Option V×Option V×Option V×V×List Xo)=>[x5.2.2.2.2.2.2]) (λs x5=>[some v_0,some x5.2.2.2.2.2.1,x5.1,x5.2.1,x5.2.2.1,x5.2.2.2.1,x5.2.2.2.2.1]) (λS (g6:(List (Int×Int×Int))) x5=>(SC.addO S K (oL (oF (rP3 Xd Xd Xd))) x5.2.2.2.2.2.1 g6 x5.2.2.2.2.2.2)) (λ_=>tg5 2 3 4 5 6) ((none),(none),(none),(none),(none),v2,C3) (a1) (Yn (Ev.sh (QX qB))) rfl rfl (λ_ s=>(SC.i s s.r)) (λg7 x8 a9 v10=>(Fi K (PF (qt K) (EvS.ev (Ua qS qS qS)) (EvS.ev (Ua qS qS qS))) λa22 C21=>(Yc ((some v10.1),(some v10.2.1),(some v10.2.2.1),(some v10.2.2.2.1),(some v10.2.2.2.2),x8.2.2.2.2.2.1,C21) (a22) rfl rfl))) λg23 x24=>(Xz Jg)))⟩⟩
noncomputable def Cl:=HV.1
noncomputable def Qg (a_0:(List (List Int)))(a_1:(List Int))(a_2:(List (Int×Int×Int))):Rs Bool:=(Rs.bind (Rs.bind (Rs.ok a_2) λx5=>(Ed x5 (λa3=>(Rs.bind (Rs.bind (Rs.bind (Rs.ok a_0) λx8=>(Rs.bind (Rs.bind (Rs.ok a_1) λx6=>(Rs.bind (Rs.ok a3.1) λx7=>(atR x6 x7))) λx9=>(atR x8 x9))) λx12=>(Rs.bind (Rs.bind (Rs.ok a_1) λx10=>(Rs.bind (Rs.ok a3.2.1) λx11=>(atR x10 x11))) λx13=>(atR x12 x13))) λx16=>(Rs.bind (Rs.bind (Rs.ok a_1) λx14=>(Rs.bind (Rs.ok a3.2.2) λx15=>(atR x14 x15))) λx17=>(Rs.ok (decide (x16=x17)))))))) λx18=>(Rs.ok (x18.all id)))
noncomputable abbrev Bh (m:(List (List Int))->(List Int)->(List (Int×Int×Int))->Rs Bool)(P:Program)(w:World)(K:PySem.W.Frag)(mg:Str->Option Value)(base:Heap):Prop:=Fn P w K mg base 1 "all_held" ["table","colours","asked"] (sp3 (rV (rV Xd)) (rV Xd) (rV (rP3 Xd Xd Xd)) (oF XN) m K)
section
variable {P:Program}{w:World}{K:PySem.W.Frag}{mg:Str->Option Value}{base:Heap}
theorem FM:FnScope ["table","colours","asked"] ["table","colours","asked"] (Xf Ju):=⟨rfl,rfl,rfl,by decide+kernel,rfl,by decide+kernel,by decide+kernel⟩
theorem FE (D:Def K mg "all_held" Ju ["table","colours","asked"])(Y:Ecs Xq K mg)(Z:Blt mg):Fn P w K mg base 1 "all_held" ["table","colours","asked"] (sp3 (rV (rV Xd)) (rV Xd) (rV (rP3 Xd Xd Xd)) (oF XN) Qg K):=by
 refine UH D FM (λvs H Q E h=>?_) (λf cdv A outer s H vs Q E hr h=>?_)
 ·obtain⟨v_0,v_1,v_2,a_0,a_1,a_2,b,rfl,_⟩:=h;rfl
 obtain⟨v_0,v_1,v_2,a_0,a_1,a_2,b,rfl,h_0,h_1,h_2,hm,q⟩:=h
 have hu:=hu8 hr
 have hu1:=Qk hr
 refine⟨_,(Xb (Xx (Xm (GO rfl) rfl Z.b_all PyProof.Rows.boot_all (Xa (YA (sc:=(Xf Ju)) (N0:=["table","colours","asked"]) (tns:=["start","over","end"]) (caps:=[(0,"table"),(1,"colours")]) rfl (XA (K:=K) rfl (pv 2)) (NQ (by decide) (by decide) (by decide)) (λcl C s H ex E=>⟨EF K rfl rfl (XT (Xi (i:=0) (show List.Nodup (["start","over","end","table","colours"]:List Str) by decide+kernel) rfl (Or.inl rfl)) (XT (Xi (i:=1) (show List.Nodup (["start","over","end","table","colours"]:List Str) by decide+kernel) rfl (Or.inl rfl)) (XT (Xi (i:=2) (show List.Nodup (["start","over","end","table","colours"]:List Str) by decide+kernel) rfl (Or.inl rfl)) QK))),Yy,(Qb QR (QO (Yv K rfl) (QO (Yv K rfl) (pv 3) (QO (Yv K rfl) (pv 4) (pv 0) (λ_ _=>rfl)) (λ_ _=>rfl)) (QO (Yv K rfl) (pv 4) (pv 1) (λ_ _=>rfl)) (λ_ _=>rfl)) (QO (Yv K rfl) (pv 4) (pv 2) (λ_ _=>rfl)) (Xw _))⟩)) Xc)))
  Xe),?_⟩
 refine K1 (S:=(SC.add (SC.add (SC.add SC.nil K (rV (rV Xd)) v_0 a_0) K (rV Xd) v_1 a_1) K (rV (rP3 Xd Xd Xd)) v_2 a_2)) (σ:=[some v_0,some v_1,some v_2]) 0 ?_ (SC.i (SC.i (SC.i SC.t h_0) h_1) h_2) hm q rfl
 unfold Qg
 exact(Xz (EvS.ev (EvB.sh (HW (Ev.toB (Yx (λ_=>tg3 0 1 2) (Yn (Zl (r:=(rV (rP3 Xd Xd Xd))) 2 rfl (λ_ s=>s.r))) (λC2 a3 v4=>(EvS.ev (EvB.sh (Um (Vz (Vz (XD (r:=(rV (rV Xd))) 3 rfl (λ_ s=>s.l.l.l.l.l.r)) (Vz (XD (r:=(rV Xd)) 4 rfl (λ_ s=>s.l.l.l.l.r)) (XD (r:=Xd) 0 rfl (λ_ s=>s.l.l.r)))) (Vz (XD (r:=(rV Xd)) 4 rfl (λ_ s=>s.l.l.l.l.r)) (XD (r:=Xd) 1 rfl (λ_ s=>s.l.r)))) (Vz (XD (r:=(rV Xd)) 4 rfl (λ_ s=>s.l.l.l.l.r)) (XD (r:=Xd) 2 rfl (λ_ s=>s.r)))))))))))))
end
theorem Yt:FnScope ["size","count","lists","arc"] ["size","count"] (Xf Zg):=⟨rfl,rfl,rfl,by decide+kernel,rfl,by decide+kernel,by decide+kernel⟩
noncomputable abbrev YB (m:Int->Int->Rs Unit)(P:Program)(w:World)(K:PySem.W.Frag)(mg:Str->Option Value)(base:Heap):Prop:=FnX P w K mg base 1 "refuse_too_much" ["size","count"] (Bn mg Xd Xd oU m K)
noncomputable def Zc:{m // Pk λP w K mg base=>Def K mg "refuse_too_much" Zg ["size","count"]->Ecs Xq K mg->Blt mg->YB m P w K mg base}:=⟨_, @λP w K mg base D Y Z=>by
 refine VJ D Yt (λvs H Q E h=>?_) (λf cdv A outer s H vs Q E hr h=>?_)
 ·obtain⟨v_0,v_1,a_0,a_1,rfl,_⟩:=h;rfl
 obtain⟨v_0,v_1,a_0,a_1,rfl,h_0,h_1,hz⟩:=h
 obtain⟨C_TooMuch,h_TooMuch,q_TooMuch⟩:=Y.adr "TooMuch" (.tail _ (.tail _ (.tail _ (.head _))))
 replace q_TooMuch:=q_TooMuch (by decide)
 have hu:=hu8 hr
 have hu1:=Qk hr
 refine⟨_,(Xb (PS.nox (Xk (i:=2) Yt.nd rfl (Or.inl rfl) Xg))
  (Xb (PS.nox (XG PassesOwn.never rfl (Xy rfl Z.b_range (Xa (pv 1) Xc)) (Xi (i:=3) Yt.nd rfl (Or.inl rfl))
   (Xb (HS (i:=2) Yt.nd rfl (Or.inl rfl) (pv 0) Rk)
   Xe)))
  (Xb (Yh (Xs VR (pv 2) (GQ Z.c_MOST_LISTS rfl) (Xw _))
   (Xb (Gq Ie rfl q_TooMuch rfl h_TooMuch (Xa (RQ (Ct CC (Cv (GQ Z.c_MOST_LISTS rfl) (Ct CC ER)))) Xc))
   Xe)
   Xe)
  Xe))),?_⟩
 refine DO (J:=({oo:=λx3=>[],ss:=λx3=>[some v_0,some v_1,x3.1,x3.2],sc:=λg4 x3=>(SC.add (SC.add SC.nil K Xd v_0 a_0) K Xd v_1 a_1)}:Jn (Unit) (Option V×Option V))) (K:=K) (S:=(SC.add (SC.add SC.nil K Xd v_0 a_0) K Xd v_1 a_1)) (σ:=[some v_0,some v_1,none,none]) 0 ?_ (SC.i (SC.i SC.t h_0) h_1) hz (λ_ _=>rfl)
 exact(YQ K qS λa5 v6=>(VC K (λO (x8:Option V×V)=>[]) (λs x8=>[some v_0,some v_1,some x8.2,x8.1]) (λS (g9:Int) x8=>(SC.add S K Xd x8.2 g9)) (λ_=>tg1 3) ((none),v6) (a5) qw rfl rfl (λ_ s=>(SC.i s s.r)) (λg10 x11 a12 v13=>(MQ (K:=K) 2 rfl (λ_ s=>s.l.r) qB λa16 v15=>(Yc ((some v13),v15) (a16) rfl rfl))) λg17 x18=>(LS (K:=K) (o:=oU) (qt K) (Kr h_TooMuch (N7 (K2 (K0 (K:=K) qB (K2 Dk))))) (Yc ((some x18.2),(x18.1)) () rfl rfl))))⟩
noncomputable def Yd:=Zc.1
theorem Yq:FnScope ["lists","table","asked","longer","ahead","colour","tried"] ["lists","table","asked"] (Xf ZQ):=⟨rfl,rfl,rfl,by decide+kernel,rfl,by decide+kernel,by decide+kernel⟩
noncomputable abbrev ZT (m:(List (List Int))->(List (List Int))->(List (Int×Int×Int))->Rs (List (List Int)))(P:Program)(w:World)(K:PySem.W.Frag)(mg:Str->Option Value)(base:Heap):Prop:=Fn P w K mg base 2 "longer_by_arc" ["lists","table","asked"] (sp3 (rV (rV Xd)) (rV (rV Xd)) (rV (rP3 Xd Xd Xd)) (oL (oL (oF Xd))) m K)
noncomputable def ZD:{m // Pk λP w K mg base=>Def K mg "longer_by_arc" ZQ ["lists","table","asked"]->Bh Qg P w K mg base->Ecs Xq K mg->Blt mg->ZT m P w K mg base}:=⟨_, @λP w K mg base D g_all_held Y Z=>go3 D Yq 4 2 rfl rfl λhr hu hu1=>⟨_,(Xb (Xk (i:=3) Yq.nd rfl (Or.inl rfl) (Xt Xc))
  (Xb (XG PassesOwn.never rfl (XA (K:=K) rfl (pv 0)) (Xi (i:=4) Yq.nd rfl (Or.inl rfl))
   (Xb (XG PassesOwn.never rfl (Xy rfl Z.b_range (Xa (Xm (Xj K rfl) rfl Z.b_len PySem.boot_len (Xa (pv 1) Xc)) Xc)) (Xi (i:=5) Yq.nd rfl (Or.inl rfl))
    (Xb (Xk (i:=6) Yq.nd rfl (Or.inl rfl) (Xr VM (pv 4) (Xt (Xa (pv 5) Xc))))
    (Xb (Yh (Kj (Yg g_all_held hr (by decide) (Xa (pv 1) (Xa (pv 6) (Xa (pv 2) Xc)))))
     (Xb (XC (Y8 PySem.F.plainAttrs_list PySem.F.slot_list_append PySem.F.type_list_append XI (pv 3) (Xa (pv 6) Xc)))
     Xe)
     Xe)
    Xe)))
   Xe))
  (Xb (Xx (pv 3))
  Xe))),λv_0 v_1 v_2 a_0 a_1 a_2=>(Y9 K (o:=(oL (oL (oF Xd)))) 0 (Zi (o:=(oL (oF Xd)))) λa1 v2 C3=>(VC K (λO (x4:Option V×Option V×Option V×V×List Xo)=>[x4.2.2.2.2,[]]) (λs x4=>[some v_0,some v_1,some v_2,some x4.2.2.2.1,x4.1,x4.2.1,x4.2.2.1]) (λS (g5:(List (List Int))) x4=>(SC.addO S K (oL (oL (oF Xd))) x4.2.2.2.1 g5 x4.2.2.2.2)) (λ_=>tg1 4) ((none),(none),(none),v2,C3) (a1) qw rfl rfl (λ_ s=>(SC.i s s.r)) (λg6 x7 a8 v9=>(VC K (λO (x12:Option V×Option V×V×List Xo)=>[x12.2.2.2,[]]) (λs x12=>[some v_0,some v_1,some v_2,some x12.2.2.1,some v9,x12.1,x12.2.1]) (λS (g13:(List (List Int))) x12=>(SC.addO S K (oL (oL (oF Xd))) x12.2.2.1 g13 x12.2.2.2)) (λ_=>tg1 5) ((x7.2.1),(x7.2.2.1),x7.2.2.2.1,x7.2.2.2.2) (g6) qw rfl rfl (λ_ s=>(SC.i s s.l.r)) (λg14 x15 a16 v17=>(Y9 K 1 qN λa18 v19 C20=>(Qh (λO (x31:V×Option V×List Xo)=>[x31.2.2,[]]) (λs x31=>[some v_0,some v_1,some v_2,some x31.1,some v9,some v17,x31.2.1]) (λS (g32:(List (List Int))) x31=>(SC.addO S K (oL (oL (oF Xd))) x31.1 g32 x31.2.2)) (Yu (qt K) (Fi K Jg λa35 C34=>(Yc (x15.2.2.1,(some v19),C34) (a35) rfl rfl)) (KC 1 (Yc (x15.2.2.1,(some v19),x15.2.2.2) (g14) rfl rfl))) λg37 x36=>(Yc ((some v17),(x36.2.1),x36.1,x36.2.2) (g37) rfl rfl)))) λg38 x39=>(Yc ((some v9),(x39.1),(x39.2.1),x39.2.2.1,x39.2.2.2) (g38) rfl rfl))) λg41 x42=>(Xz Jg)))⟩⟩
noncomputable def YV:=ZD.1
theorem YD:FnScope ["drawing","table","count","asked","told","arc"] ["drawing","table"] (Xf Z0):=⟨rfl,rfl,rfl,by decide+kernel,rfl,by decide+kernel,by decide+kernel⟩
noncomputable abbrev Q2 (m:((List (List Int))×(List (Int×Int)))->(List (List Int))->Rs (List (List Int)))(P:Program)(w:World)(K:PySem.W.Frag)(mg:Str->Option Value)(base:Heap):Prop:=FnX P w K mg base 6 "colourings" ["drawing","table"] (Bn mg (rP2 (rV (rV Xd)) (rV (rP2 Xd Xd))) (rV (rV Xd)) (oL (oL (oF Xd))) m K)
noncomputable def QU:{m // Pk λP w K mg base=>Def K mg "colourings" Z0 ["drawing","table"]->QA ZR P w K mg base->YB Yd P w K mg base->Hz Cl P w K mg base->ZT YV P w K mg base->Ecs Xq K mg->Blt mg->Q2 m P w K mg base}:=⟨_, @λP w K mg base D g_arc_count g_refuse_too_much g_ties g_longer_by_arc Y Z=>O2 D YD 4 1 rfl rfl λhr hu hu1=>⟨_,(Xb (PS.nox (Xk (i:=2) YD.nd rfl (Or.inl rfl) (Yg g_arc_count hr (by decide) (Xa (pv 0) Xc))))
  (Xb (XC (Yp g_refuse_too_much hr (by decide) QS (Xa (Xm (Xj K rfl) rfl Z.b_len PySem.boot_len (Xa (pv 1) Xc)) (Xa (pv 2) Xc))))
  (Xb (Xk (i:=3) YD.nd rfl (Or.inl rfl) (Yp g_ties hr (by decide) QS (Xa (pv 0) Xc)))
  (Xb (PS.nox (Xk (i:=4) YD.nd rfl (Or.inl rfl) (Xt (Xa (Xt Xc) Xc XJ))))
  (Xb (PS.nox (XG PassesOwn.never rfl (Xy rfl Z.b_range (Xa (pv 2) Xc)) (Xi (i:=5) YD.nd rfl (Or.inr rfl))
   (Xb (Xk (i:=4) YD.nd rfl (Or.inl rfl) (Yg g_longer_by_arc hr (by decide) (Xa (pv 4) (Xa (pv 1) (Xa (YA (sc:=(Xf Z0)) (N0:=["drawing","table","count","asked","told","arc"]) (tns:=["tie"]) (caps:=[(5,"arc")]) rfl (XA (K:=K) rfl (pv 3)) (Yf (by decide)) (λcl C s H ex E=>⟨Xi (i:=0) (show List.Nodup (["tie","arc"]:List Str) by decide+kernel) rfl (Or.inl rfl),(UN (Xs QR (Xm (Hk K rfl rfl) rfl Z.b_max PyProof.Rows.boot_max (Xa (pv 0) Xc)) (pv 1) (Xw _))),(pv 0)⟩)) Xc)))))
   Xe)))
  (Xb (PS.nox (Xx (pv 4)))
  Xe)))))),λv_0 v_1 a_0 a_1=>(YQ K qS λa1 v2=>(Q6 (K:=K) (Ev.toB (XX qB qB)) (YQ K (r:=(rV (rP3 Xd Xd Xd))) (Ev.sh (QX qB)) λa9 v10=>(Y9 K (o:=(oL (oL (oF Xd)))) 0 (QL (X6 (Zi (o:=(oF Xd))) λ_=>Zn)) λa12 v13 C14=>(VC K (λO (x19:Option V×V×List Xo)=>[x19.2.2]) (λs x19=>[some v_0,some v_1,some v2,some v10,some x19.2.1,x19.1]) (λS (g20:(List (List Int))) x19=>(SC.addO S K (oL (oL (oF Xd))) x19.2.1 g20 x19.2.2)) (λ_=>tg1 5) ((none),v13,C14) (a12) qw rfl rfl (λ_ s=>(SC.i s s.r)) (λg21 x22 a23 v24=>(Y9 K (o:=(oL (oL (oF Xd)))) 0 (KG qB qB (Ev.toB (VV (λ_=>tg1 0) qw (λC29 a30 v31=>(XY (K:=K) (Um (ID (No qB)) qB))) (λC29 a30 v31=>qM)))) λa25 v26 C27=>(Yc ((some v24),v26,C27) (a25) rfl rfl))) λg39 x40=>(Xz Jg))))))⟩⟩
noncomputable def Z2:=QU.1
theorem M6:FnScope ["drawing","table"] ["drawing","table"] (Xf ED):=⟨rfl,rfl,rfl,by decide+kernel,rfl,by decide+kernel,by decide+kernel⟩
noncomputable abbrev DK (m:((List (List Int))×(List (Int×Int)))->(List (List Int))->Rs Int)(P:Program)(w:World)(K:PySem.W.Frag)(mg:Str->Option Value)(base:Heap):Prop:=FnX P w K mg base 7 "many" ["drawing","table"] (Bn mg (rP2 (rV (rV Xd)) (rV (rP2 Xd Xd))) (rV (rV Xd)) (oF Xd) m K)
noncomputable def CZ:{m // Pk λP w K mg base=>Def K mg "many" ED ["drawing","table"]->Q2 Z2 P w K mg base->Ecs Xq K mg->Blt mg->DK m P w K mg base}:=⟨_, @λP w K mg base D g_colourings Y Z=>O2 D M6 0 0 rfl rfl λhr hu hu1=>⟨_,(Xb (Xx (Xm (Xj K rfl) rfl Z.b_len PySem.boot_len (Xa (Yp g_colourings hr (by decide) QS (Xa (pv 0) (Xa (pv 1) Xc))) Xc)))
  Xe),λv_0 v_1 a_0 a_1=>(Xz (EvS.ev (EvB.sh (Jq (Ev.toB (XX qB qB))))))⟩⟩
noncomputable def ZF:=CZ.1
theorem JF:FnScope ["size","drawings","drawing"] ["size","drawings"] (Xf Qr):=⟨rfl,rfl,rfl,by decide+kernel,rfl,by decide+kernel,by decide+kernel⟩
noncomputable abbrev Zz (m:Int->(List ((List (List Int))×(List (Int×Int))))->Rs Unit)(P:Program)(w:World)(K:PySem.W.Frag)(mg:Str->Option Value)(base:Heap):Prop:=FnX P w K mg base 3 "refuse_size" ["size","drawings"] (Bn mg Xd (rV (rP2 (rV (rV Xd)) (rV (rP2 Xd Xd)))) oU m K)
noncomputable def Y2:{m // Pk λP w K mg base=>Def K mg "refuse_size" Qr ["size","drawings"]->YL X4 P w K mg base->YB Yd P w K mg base->QA ZR P w K mg base->Ecs Xq K mg->Blt mg->Zz m P w K mg base}:=⟨_, @λP w K mg base D g_refuse_above g_refuse_too_much g_arc_count Y Z=>by
 refine VJ D JF (λvs H Q E h=>?_) (λf cdv A outer s H vs Q E hr h=>?_)
 ·obtain⟨v_0,v_1,a_0,a_1,rfl,_⟩:=h;rfl
 obtain⟨v_0,v_1,a_0,a_1,rfl,h_0,h_1,hz⟩:=h
 have hu:=hu8 hr
 have hu1:=Qk hr
 refine⟨_,(Xb (XC (Yp g_refuse_above hr (by decide) QS (Xa (GQ Z.c_MOST_OF_ALL rfl) (Xa (pv 0) Xc))))
  (Xb (XG PassesOwn.leaving rfl (XA (K:=K) rfl (pv 1)) (Xi (i:=2) JF.nd rfl (Or.inl rfl))
   (Xb (XC (Yp g_refuse_too_much hr (by decide) QS (Xa (pv 0) (Xa (Yg g_arc_count hr (by decide) (Xa (pv 2) Xc)) Xc))))
   Xe))
  Xe)),?_⟩
 refine DO (J:=({oo:=λx3=>[],ss:=λx3=>[some v_0,some v_1,x3],sc:=λg4 x3=>(SC.add (SC.add SC.nil K Xd v_0 a_0) K (rV (rP2 (rV (rV Xd)) (rV (rP2 Xd Xd)))) v_1 a_1)}:Jn (Unit) (Option V))) (K:=K) (S:=(SC.add (SC.add SC.nil K Xd v_0 a_0) K (rV (rP2 (rV (rV Xd)) (rV (rP2 Xd Xd)))) v_1 a_1)) (σ:=[some v_0,some v_1,none]) 0 ?_ (SC.i (SC.i SC.t h_0) h_1) hz (λ_ _=>rfl)
 exact(Q6 (K:=K) (Ev.toB (XX qB qB)) (VC K (λO (x8:Option V)=>[]) (λs x8=>[some v_0,some v_1,x8]) (λS (g9:Unit) x8=>S) (λ_=>tg1 2) ((none)) () qw rfl rfl (λ_ s=>s) (λg10 x11 a12 v13=>(Q6 (K:=K) (Ev.toB (XX qB qB)) (Yc ((some v13)) () rfl rfl))) λg19 x20=>(Yc ((x20)) () rfl rfl)))⟩
noncomputable def XM:=Y2.1
theorem F6:FnScope ["drawing","size","told","each"] ["drawing","size"] (Xf Dz):=⟨rfl,rfl,rfl,by decide+kernel,rfl,by decide+kernel,by decide+kernel⟩
noncomputable abbrev C4 (m:((List (List Int))×(List (Int×Int)))->Int->Rs (List Int))(P:Program)(w:World)(K:PySem.W.Frag)(mg:Str->Option Value)(base:Heap):Prop:=FnX P w K mg base 8 "mark" ["drawing","size"] (Bn mg (rP2 (rV (rV Xd)) (rV (rP2 Xd Xd))) Xd (oL (oF Xd)) m K)
noncomputable def UZ:{m // Pk λP w K mg base=>Def K mg "mark" Dz ["drawing","size"]->Zz XM P w K mg base->DK ZF P w K mg base->Ny ZK P w K mg base->Ecs Xq K mg->Blt mg->C4 m P w K mg base}:=⟨_, @λP w K mg base D g_refuse_size g_many g_kinds Y Z=>O2 D F6 2 1 rfl rfl λhr hu hu1=>⟨_,(Xb (XC (Yp g_refuse_size hr (by decide) QS (Xa (pv 1) (Xa (Xt (Xa (pv 0) Xc)) Xc XJ))))
  (Xb (PS.nox (Xk (i:=2) F6.nd rfl (Or.inl rfl) (Xt Xc)))
  (Xb (XG PassesOwn.leaving rfl (GT rfl Z.b_range (Xa Xg (Xa (Xr XO (pv 1) Xg) Xc))) (Xi (i:=3) F6.nd rfl (Or.inl rfl))
   (Xb (XC (Y8 PySem.F.plainAttrs_list PySem.F.slot_list_extend PySem.F.type_list_extend Jk (pv 2) (Xa (D0 (sc:=(Xf Dz)) (N0:=["drawing","size","told","each"]) (tns:=["table"]) (caps:=[(0,"drawing")]) Pl rfl (XA (K:=K) rfl (Yp g_kinds hr (by decide) QS (Xa (pv 3) Xc))) (Yf (by decide)) (λcl C s H ex E hp=>⟨Xi (i:=0) (show List.Nodup (["table","drawing"]:List Str) by decide+kernel) rfl (Or.inl rfl),Yy,(Yp g_many hr (by decide) hp (Xa (pv 1) (Xa (pv 0) Xc)))⟩)) Xc)))
   Xe))
  (Xb (PS.nox (Xx (pv 2)))
  Xe)))),λv_0 v_1 a_0 a_1=>(Q6 (K:=K) (Ev.toB (XX qB (Ev.toB (QL (X6 qM λ_=>Zn))))) (Y9 K (o:=(oL (oF Xd))) 0 (Zi (o:=(oF Xd))) λa7 v8 C9=>(VC K (λO (x14:Option V×V×List Xo)=>[x14.2.2]) (λs x14=>[some v_0,some v_1,some x14.2.1,x14.1]) (λS (g15:(List Int)) x14=>(SC.addO S K (oL (oF Xd)) x14.2.1 g15 x14.2.2)) (λ_=>tg1 3) ((none),v8,C9) (a7) qw rfl rfl (λ_ s=>(SC.i s s.r)) (λg16 x17 a18 v19=>(Sg K (Yx (λ_=>tg1 0) (Yn (Ev.sh (QX qB))) (λC21 a22 v23=>(XX qB qB))) λa29 C28=>(Yc ((some v19),x17.2.1,C28) (a29) rfl rfl))) λg30 x31=>(Xz Jg))))⟩⟩
noncomputable def Jp:=UZ.1
theorem Jb:FnScope ["one","other","size","each","table","first","second"] ["one","other","size"] (Xf K8):=⟨rfl,rfl,rfl,by decide+kernel,rfl,by decide+kernel,by decide+kernel⟩
noncomputable abbrev V3 (m:((List (List Int))×(List (Int×Int)))->((List (List Int))×(List (Int×Int)))->Int->Rs (Option (Unit×Int×Int)))(P:Program)(w:World)(K:PySem.W.Frag)(mg:Str->Option Value)(base:Heap):Prop:=FnX P w K mg base 8 "parted" ["one","other","size"] (RF mg (rP2 (rV (rV Xd)) (rV (rP2 Xd Xd))) (rP2 (rV (rV Xd)) (rV (rP2 Xd Xd))) Xd (oF (Qp (rP3 RE Xd Xd))) m K)
noncomputable def Qy:{m // Pk λP w K mg base=>Def K mg "parted" K8 ["one","other","size"]->Zz XM P w K mg base->Gn YT P w K mg base->DK ZF P w K mg base->Ecs Xq K mg->Blt mg->V3 m P w K mg base}:=⟨_, @λP w K mg base D g_refuse_size g_tables g_many Y Z=>Ta D Jb 4 0 rfl rfl λhr hu hu1=>⟨_,(Xb (XC (Yp g_refuse_size hr (by decide) QS (Xa (pv 2) (Xa (Xt (Xa (pv 0) (Xa (pv 1) Xc))) Xc XJ))))
  (Xb (XG PassesOwn.leaving rfl (GT rfl Z.b_range (Xa Xg (Xa (Xr XO (pv 2) Xg) Xc))) (Xi (i:=3) Jb.nd rfl (Or.inl rfl))
   (Xb (XG PassesOwn.leaving rfl (XA (K:=K) rfl (Yp g_tables hr (by decide) QS (Xa (pv 3) Xc))) (Xi (i:=4) Jb.nd rfl (Or.inl rfl))
    (Xb (Xk (i:=5) Jb.nd rfl (Or.inl rfl) (Yp g_many hr (by decide) QS (Xa (pv 0) (Xa (pv 4) Xc))))
    (Xb (Xk (i:=6) Jb.nd rfl (Or.inl rfl) (Yp g_many hr (by decide) QS (Xa (pv 1) (Xa (pv 4) Xc))))
    (Xb (PS.nox (Yh (Xs BJ (pv 5) (pv 6) (Xw _))
     (Xb (Xx (Yz (Xa (pv 4) (Xa (pv 5) (Xa (pv 6) Xc)))))
     Xe)
     Xe))
    Xe))))
   Xe))
  (Xb (PS.nox (Xx Z1))
  Xe))),λv_0 v_1 v_2 a_0 a_1 a_2=>(Q6 (K:=K) (Ev.toB (XX qB (Ev.toB (QL (X6 qM λ_=>(X6 qM λ_=>Zn)))))) (Da K (λO (x13:Option V×Option V×Option V×Option V)=>[]) (λs x13=>[some v_0,some v_1,some v_2,x13.1,x13.2.1,x13.2.2.1,x13.2.2.2]) (λS (g14:Unit) x13=>S) (λ_=>tg1 3) ((none),(none),(none),(none)) () qw rfl rfl (λ_ s=>s) (λg15 x16 a17 v18=>(Cg K (λO (x20:Option V×Option V×Option V)=>[]) (λs x20=>[some v_0,some v_1,some v_2,some v18,x20.1,x20.2.1,x20.2.2]) (λS (g21:Unit) x20=>S) (λ_=>tg1 4) ((x16.2.1),(x16.2.2.1),(x16.2.2.2)) () (Yn (Ev.sh (QX qB))) rfl rfl (λ_ s=>s) (λg22 x23 a24 v25=>(YQ K (r:=Xd) (EvB.sh (Ev.toB (XX qB qB))) λa26 v27=>(YQ K (r:=Xd) (EvB.sh (Ev.toB (XX qB qB))) λa30 v31=>(Q0 (qt K) (Xz (Jx Sy (EvS.ev (Ua (N8 qS) qS qS)))) (Za (Yc ((some v25),(some v27),(some v31)) () rfl rfl)))))) λg44 x45=>(Za (Yc ((some v18),(x45.1),(x45.2.1),(x45.2.2)) () rfl rfl)))) λg48 x49=>(Xz Vm)))⟩⟩
noncomputable def YC:=Qy.1
theorem K4:FnScope ["_law_script","_law_place","_law_seed","_law_cell_here"] ["_law_script","_law_place"] (Xf HL):=⟨rfl,rfl,rfl,by decide+kernel,rfl,by decide+kernel,by decide+kernel⟩
noncomputable abbrev EC (m:(List Int)->Int->Rs Int)(P:Program)(w:World)(K:PySem.W.Frag)(mg:Str->Option Value)(base:Heap):Prop:=Fn P w K mg base 1 "_law_cell" ["_law_script","_law_place"] (sp2 (rL Xd) Xd (oF Xd) m K)
noncomputable def EN:{m // Pk λP w K mg base=>Def K mg "_law_cell" HL ["_law_script","_law_place"]->Ecs Xq K mg->Blt mg->EC m P w K mg base}:=⟨_, @λP w K mg base D Y Z=>go2 D K4 2 0 rfl rfl λhr hu hu1=>⟨_,(Xb (Yh (Xs Gj (pv 1) (Xm (Xj K rfl) rfl Z.b_len PySem.boot_len (Xa (pv 0) Xc)) (Xw _))
   (Xb (Xx (XS K (pv 0) (pv 1)))
   Xe)
   Xe)
  (Xb (Xk (i:=2) K4.nd rfl (Or.inl rfl) Xg)
  (Xb (XG PassesOwn.never rfl (XA (K:=K) rfl (VY (V8 K rfl) (pv 0) Ur (UA Xg))) (Xi (i:=3) K4.nd rfl (Or.inl rfl))
   (Xb (Xk (i:=2) K4.nd rfl (Or.inl rfl) (Xr Zw (Xr XO (Xr XO (Xr Zt (pv 2) Xg) (Xr Zw (pv 3) Xg)) Xg) Xg))
   Xe))
  (Xb (Xx (Xr Zw (Xr XO (pv 2) (Xr Zt Xg (pv 1))) Xg))
  Xe)))),λv_0 v_1 a_0 a_1=>(LW (XY (K:=K) (MA qB (LL qB))) (Xz (EvS.ev (EvB.sh (Nr qB qB)))) (YQ K qS λa7 v8=>(VC K (λO (x13:Option V×V)=>[]) (λs x13=>[some v_0,some v_1,some x13.2,x13.1]) (λS (g14:Int) x13=>(SC.add S K Xd x13.2 g14)) (λ_=>tg1 3) ((none),v8) (a7) (Yn (Ev.sh (E5 qB (qp K) (qp K)))) rfl rfl (λ_ s=>(SC.i s s.r)) (λg15 x16 a17 v18=>(YQ K qS λa19 v20=>(Yc ((some v18),v20) (a19) rfl rfl))) λg31 x32=>(Xz qM))))⟩⟩
noncomputable def Cn:=EN.1
theorem HF:FnScope ["_law_cell_here","_law_k","_law_one","_law_two"] ["_law_cell_here","_law_k"] (Xf NU):=⟨rfl,rfl,rfl,by decide+kernel,rfl,by decide+kernel,by decide+kernel⟩
noncomputable abbrev MT (m:Int->Int->Rs Int)(P:Program)(w:World)(K:PySem.W.Frag)(mg:Str->Option Value)(base:Heap):Prop:=Fn P w K mg base 1 "_law_mix" ["_law_cell_here","_law_k"] (sp2 Xd Xd (oF Xd) m K)
noncomputable def NL:{m // Pk λP w K mg base=>Def K mg "_law_mix" NU ["_law_cell_here","_law_k"]->Ecs Xq K mg->Blt mg->MT m P w K mg base}:=⟨_, @λP w K mg base D Y Z=>go2 D HF 2 0 rfl rfl λhr hu hu1=>⟨_,(Xb (Xk (i:=2) HF.nd rfl (Or.inl rfl) (Xr Zw (Xr UT (Xr XO (Xr XO (Xr Zw (pv 0) Xg) (Xr Zt Xg (pv 1))) Xg) Xg) Xg))
  (Xb (Xk (i:=3) HF.nd rfl (Or.inl rfl) (Xr Zw (Xr XO (Xr XO (Xr Zt (pv 2) Xg) (Xr Zt (Xr Zt Xg (pv 1)) (pv 1))) Xg) Xg))
  (Xb (Xx (Xr Ks (pv 3) Xg))
  Xe))),λv_0 v_1 a_0 a_1=>(YQ K qS λa1 v2=>(YQ K qS λa15 v16=>(Xz qM)))⟩⟩
noncomputable def Lq:=NL.1
theorem UD:FnScope ["_law_script","_law_place","_law_sizes","_law_cell_here","_law_left","_law_some","_law_k","_law_other"] ["_law_script","_law_place","_law_sizes"] (Xf NV):=⟨rfl,rfl,rfl,by decide+kernel,rfl,by decide+kernel,by decide+kernel⟩
noncomputable abbrev LA (m:(List Int)->Int->(List Int)->Rs (List Int))(P:Program)(w:World)(K:PySem.W.Frag)(mg:Str->Option Value)(base:Heap):Prop:=Fn P w K mg base 2 "_law_row" ["_law_script","_law_place","_law_sizes"] (sp3 (rL Xd) Xd (rV Xd) (oL (oF Xd)) m K)
noncomputable def MF:{m // Pk λP w K mg base=>Def K mg "_law_row" NV ["_law_script","_law_place","_law_sizes"]->EC Cn P w K mg base->MT Lq P w K mg base->Ecs Xq K mg->Blt mg->LA m P w K mg base}:=⟨_, @λP w K mg base D g_cell g_mix Y Z=>go3 D UD 5 1 rfl rfl λhr hu hu1=>⟨_,(Xb (Xk (i:=3) UD.nd rfl (Or.inl rfl) (Yg g_cell hr (by decide) (Xa (pv 0) (Xa (pv 1) Xc))))
  (Xb (Xk (i:=4) UD.nd rfl (Or.inl rfl) (pv 3))
  (Xb (Xk (i:=5) UD.nd rfl (Or.inl rfl) (Xt Xc))
  (Xb (XG PassesOwn.never rfl (Xy rfl Z.b_range (Xa (Xm (Xj K rfl) rfl Z.b_len PySem.boot_len (Xa (pv 2) Xc)) Xc)) (Xi (i:=6) UD.nd rfl (Or.inl rfl))
   (Xb (Yh (Xs Gj (pv 3) (Xr UT Xg Xg) (Xw _))
    (Xb (XC (Y8 PySem.F.plainAttrs_list PySem.F.slot_list_append PySem.F.type_list_append XI (pv 5) (Xa (Xr Zw (Yg g_mix hr (by decide) (Xa (pv 3) (Xa (pv 6) Xc))) (XS K (pv 2) (pv 6))) Xc)))
    Xe)
    (Xb (Yh (Xs VR (pv 4) Xg (Xw _))
     (Xb (XC (Y8 PySem.F.plainAttrs_list PySem.F.slot_list_append PySem.F.type_list_append XI (pv 5) (Xa (Xr Zw (pv 4) (XS K (pv 2) (pv 6))) Xc)))
     (Xb (Xk (i:=4) UD.nd rfl (Or.inl rfl) (Xr Ks (pv 4) (XS K (pv 2) (pv 6))))
     Xe))
     (Xb (Xk (i:=7) UD.nd rfl (Or.inl rfl) (Yg g_cell hr (by decide) (Xa (pv 0) (Xa (Xr Zw (Xr XO (Xr XO (pv 1) Xg) (pv 6)) Xg) Xc))))
     (Xb (XC (Y8 PySem.F.plainAttrs_list PySem.F.slot_list_append PySem.F.type_list_append XI (pv 5) (Xa (Xr Zw (Yg g_mix hr (by decide) (Xa (pv 7) (Xa (pv 6) Xc))) (XS K (pv 2) (pv 6))) Xc)))
     Xe)))
    Xe))
   Xe))
  (Xb (Xx (pv 5))
  Xe))))),λv_0 v_1 v_2 a_0 a_1 a_2=>(YQ K qS λa1 v2=>(YQ K qS λa6 v7=>(Y9 K (o:=(oL (oF Xd))) 0 (Zi (o:=(oF Xd))) λa8 v9 C10=>(VC K (λO (x13:Option V×V×V×Option V×List Xo)=>[x13.2.2.2.2]) (λs x13=>[some v_0,some v_1,some v_2,some v2,some x13.2.2.1,some x13.2.1,x13.1,x13.2.2.2.1]) (λS (g14:(List Int)×Int) x13=>(SC.add (SC.addO S K (oL (oF Xd)) x13.2.1 g14.1 x13.2.2.2.2) K Xd x13.2.2.1 g14.2)) (λ_=>tg1 6) ((none),v9,v7,(none),C10) (a8,a6) qw rfl rfl (λ_ s=>(SC.i (SC.i s s.r) s.l.r)) (λg15 x16 a17 v18=>(Qh (λO (x24:V×V×Option V×List Xo)=>[x24.2.2.2]) (λs x24=>[some v_0,some v_1,some v_2,some v2,some x24.2.1,some x24.1,some v18,x24.2.2.1]) (λS (g25:(List Int)×Int) x24=>(SC.add (SC.addO S K (oL (oF Xd)) x24.1 g25.1 x24.2.2.2) K Xd x24.2.1 g25.2)) (Yu (qt K) (Fi K qM λa35 C34=>(Yc (x16.2.1,x16.2.2.1,(x16.2.2.2.1),C34) (a35,g15.2) rfl rfl)) (Qh (λO (x39:V×Option V×V×List Xo)=>[x39.2.2.2]) (λs x39=>[some v_0,some v_1,some v_2,some v2,some x39.1,some x39.2.2.1,some v18,x39.2.1]) (λS (g40:Int×(List Int)) x39=>(SC.addO (SC.add S K Xd x39.1 g40.1) K (oL (oF Xd)) x39.2.2.1 g40.2 x39.2.2.2)) (Yu (qt K) (Fi K qM λa47 C46=>(YQ K qS λa48 v49=>(Yc (v49,(x16.2.2.2.1),x16.2.1,C46) (a48,a47) rfl rfl))) (YQ K qS λa54 v55=>(Fi K qM λa74 C73=>(Yc (x16.2.2.1,(some v55),x16.2.1,C73) (g15.2,a74) rfl rfl)))) λg76 x75=>(Yc (x75.2.2.1,x75.1,(x75.2.1),x75.2.2.2) (g76.2,g76.1) rfl rfl))) λg78 x77=>(Yc ((some v18),x77.1,x77.2.1,(x77.2.2.1),x77.2.2.2) (g78.1,g78.2) rfl rfl))) λg79 x80=>(Xz Jg)))))⟩⟩
noncomputable def EQ:=MF.1
theorem YU:FnScope ["_law_lows","_law_signs","_law_strands","_law_seen","_law_walks","_law_start","_law_walk","_law_at","_law_k"] ["_law_lows","_law_signs","_law_strands"] (Xf Ga):=⟨rfl,rfl,rfl,by decide+kernel,rfl,by decide+kernel,by decide+kernel⟩
noncomputable abbrev Ge (m:(List Int)->(List Int)->Int->Rs (List (List Int)))(P:Program)(w:World)(K:PySem.W.Frag)(mg:Str->Option Value)(base:Heap):Prop:=Fn P w K mg base 1 "_law_traced" ["_law_lows","_law_signs","_law_strands"] (sp3 (rV Xd) (rV Xd) Xd (oL (oL (oF Xd))) m K)
noncomputable def K6:{m // Pk λP w K mg base=>Def K mg "_law_traced" Ga ["_law_lows","_law_signs","_law_strands"]->Ecs Xq K mg->Blt mg->Ge m P w K mg base}:=⟨_, @λP w K mg base D Y Z=>go3 D YU 6 3 rfl rfl λhr hu hu1=>⟨_,(Xb (Xk (i:=3) YU.nd rfl (Or.inl rfl) (Xr GN (Xt (Xa VT Xc)) (pv 2)))
  (Xb (Xk (i:=4) YU.nd rfl (Or.inl rfl) (Xt Xc))
  (Xb (XG PassesOwn.never rfl (Xy rfl Z.b_range (Xa (pv 2) Xc)) (Xi (i:=5) YU.nd rfl (Or.inl rfl))
   (Xb (Yh (L5 (Kj (XS K (pv 3) (pv 5))))
    (Xb (Xk (i:=6) YU.nd rfl (Or.inl rfl) (Xt Xc))
    (Xb (Xk (i:=7) YU.nd rfl (Or.inl rfl) (pv 5))
    (Xb (KY PassesOwn.never (L5 (Kj (XS K (pv 3) (pv 7))))
     (Xb (DP VT (ET (pv 3) (pv 7) KJ))
     (Xb (XG PassesOwn.never rfl (Xy rfl Z.b_range (Xa (Xm (Xj K rfl) rfl Z.b_len PySem.boot_len (Xa (pv 0) Xc)) Xc)) (Xi (i:=8) YU.nd rfl (Or.inl rfl))
      (Xb (Yh (Xs QR (pv 7) (XS K (pv 0) (pv 8)) (Xw _))
       (Xb (XC (Y8 PySem.F.plainAttrs_list PySem.F.slot_list_append PySem.F.type_list_append XI (pv 6) (Xa (Xr Zt (Xr XO (pv 8) Xg) (XS K (pv 1) (pv 8))) Xc)))
       (Xb (Xk (i:=7) YU.nd rfl (Or.inl rfl) (Xr XO (pv 7) Xg))
       Xe))
       (Xb (Yh (Xs QR (pv 7) (Xr XO (XS K (pv 0) (pv 8)) Xg) (Xw _))
        (Xb (XC (Y8 PySem.F.plainAttrs_list PySem.F.slot_list_append PySem.F.type_list_append XI (pv 6) (Xa (Xr Zt (Vo Ql (Xr XO (pv 8) Xg)) (XS K (pv 1) (pv 8))) Xc)))
        (Xb (Xk (i:=7) YU.nd rfl (Or.inl rfl) (Xr UJ (pv 7) Xg))
        Xe))
        Xe)
       Xe))
      Xe))
     Xe)))
    (Xb (XC (Y8 PySem.F.plainAttrs_list PySem.F.slot_list_append PySem.F.type_list_append XI (pv 4) (Xa (pv 6) Xc)))
    Xe))))
    Xe)
   Xe))
  (Xb (Xx (pv 4))
  Xe)))),λv_0 v_1 v_2 a_0 a_1 a_2=>(Y9 K 1 qN λa1 v2 C3=>(Y9 K (o:=(oL (oL (oF Xd)))) 0 (Zi (o:=(oL (oF Xd)))) λa9 v10 C11=>(VC K (λO (x13:Option V×Option V×Option V×V×Option V×V×List Xo×List Xo)=>[x13.2.2.2.2.2.2.2,x13.2.2.2.2.2.2.1,[]]) (λs x13=>[some v_0,some v_1,some v_2,some x13.2.2.2.1,some x13.2.2.2.2.2.1,x13.1,x13.2.1,x13.2.2.1,x13.2.2.2.2.1]) (λS (g14:(List Bool)×(List (List Int))) x13=>(SC.addO (SC.addO S K (oL (oF XN)) x13.2.2.2.1 g14.1 x13.2.2.2.2.2.2.1) K (oL (oL (oF Xd))) x13.2.2.2.2.2.1 g14.2 x13.2.2.2.2.2.2.2)) (λ_=>tg1 5) ((none),(none),(none),v2,(none),v10,C3,C11) (a1,a9) qw rfl rfl (λ_ s=>(SC.i (SC.i s s.l.r) s.r)) (λg15 x16 a17 v18=>(Qh (λO (x23:Option V×Option V×V×Option V×V×List Xo×List Xo)=>[x23.2.2.2.2.2.2,x23.2.2.2.2.2.1,[]]) (λs x23=>[some v_0,some v_1,some v_2,some x23.2.2.1,some x23.2.2.2.2.1,some v18,x23.1,x23.2.1,x23.2.2.2.1]) (λS (g24:(List Bool)×(List (List Int))) x23=>(SC.addO (SC.addO S K (oL (oF XN)) x23.2.2.1 g24.1 x23.2.2.2.2.2.1) K (oL (oL (oF Xd))) x23.2.2.2.2.1 g24.2 x23.2.2.2.2.2.2)) (Yu (qt K) (Y9 K (o:=(oL (oF Xd))) 2 (Zi (o:=(oF Xd))) λa25 v26 C27=>(YQ K qS λa28 v29=>(Mr (λO (x30:V×Option V×V×V×List Xo×List Xo)=>[x16.2.2.2.2.2.2.2,x30.2.2.2.2.1,x30.2.2.2.2.2]) (λs x30=>[some v_0,some v_1,some v_2,some x30.1,some x16.2.2.2.2.2.1,some v18,some x30.2.2.2.1,some x30.2.2.1,x30.2.1]) (λS (g31:(List Bool)×Int×(List Int)) x30=>(SC.addO (SC.add (SC.addO S K (oL (oF XN)) x30.1 g31.1 x30.2.2.2.2.1) K Xd x30.2.2.1 g31.2.1) K (oL (oF Xd)) x30.2.2.2.1 g31.2.2 x30.2.2.2.2.2)) (a_2.natAbs+2) (x16.2.2.2.1,(x16.2.2.2.2.1),v29,v26,x16.2.2.2.2.2.2.1,C27) (g15.1,a28,a25) rfl rfl (λ_ s=>(SC.i (SC.i (SC.i s s.l.l.l.l.r) s.r) s.l.r)) (λg32 x33=>(qt K)) (λg32 x33=>(Im K qM (λ_=>qB) λa39 C40=>(VC K (λO (x43:Option V×V×V×List Xo)=>[x16.2.2.2.2.2.2.2,C40,x43.2.2.2]) (λs x43=>[some v_0,some v_1,some v_2,some x33.1,some x16.2.2.2.2.2.1,some v18,some x43.2.2.1,some x43.2.1,x43.1]) (λS (g44:Int×(List Int)) x43=>(SC.addO (SC.add S K Xd x43.2.1 g44.1) K (oL (oF Xd)) x43.2.2.1 g44.2 x43.2.2.2)) (λ_=>tg1 8) ((x33.2.1),x33.2.2.1,x33.2.2.2.1,x33.2.2.2.2.2) (g32.2.1,g32.2.2) qw rfl rfl (λ_ s=>(SC.i (SC.i s s.l.l.r) s.l.r)) (λg45 x46 a47 v48=>(Qh (λO (x54:V×V×List Xo)=>[x16.2.2.2.2.2.2.2,C40,x54.2.2]) (λs x54=>[some v_0,some v_1,some v_2,some x33.1,some x16.2.2.2.2.2.1,some v18,some x54.2.1,some x54.1,some v48]) (λS (g55:Int×(List Int)) x54=>(SC.addO (SC.add S K Xd x54.1 g55.1) K (oL (oF Xd)) x54.2.1 g55.2 x54.2.2)) (Yu (qt K) (Fi K qM λa64 C63=>(YQ K qS λa65 v66=>(Yc (v66,x46.2.2.1,C63) (a65,a64) rfl rfl))) (Qh (λO (x76:V×V×List Xo)=>[x16.2.2.2.2.2.2.2,C40,x76.2.2]) (λs x76=>[some v_0,some v_1,some v_2,some x33.1,some x16.2.2.2.2.2.1,some v18,some x76.2.1,some x76.1,some v48]) (λS (g77:Int×(List Int)) x76=>(SC.addO (SC.add S K Xd x76.1 g77.1) K (oL (oF Xd)) x76.2.1 g77.2 x76.2.2)) (Yu (qt K) (Fi K qM λa87 C86=>(YQ K qS λa88 v89=>(Yc (v89,x46.2.2.1,C86) (a88,a87) rfl rfl))) (Yc (x46.2.1,x46.2.2.1,x46.2.2.2) (g45.1,g45.2) rfl rfl)) λg93 x92=>(Yc (x92.1,x92.2.1,x92.2.2) (g93.1,g93.2) rfl rfl))) λg95 x94=>(Yc ((some v48),x94.1,x94.2.1,x94.2.2) (g95.1,g95.2) rfl rfl))) λg96 x97=>(Yc (x33.1,(x97.1),x97.2.1,x97.2.2.1,C40,x97.2.2.2) (a39,g96.1,g96.2) rfl rfl)))) λg99 x100=>(Fi K Jg λa103 C102=>(Yc ((some x100.2.2.2.1),(some x100.2.2.1),x100.1,(x100.2.1),x16.2.2.2.2.2.1,x100.2.2.2.2.1,C102) (g99.1,a103) rfl rfl))))) (Yc ((x16.2.1),(x16.2.2.1),x16.2.2.2.1,(x16.2.2.2.2.1),x16.2.2.2.2.2.1,x16.2.2.2.2.2.2.1,x16.2.2.2.2.2.2.2) (g15.1,g15.2) rfl rfl)) λg105 x104=>(Yc ((some v18),(x104.1),(x104.2.1),x104.2.2.1,(x104.2.2.2.1),x104.2.2.2.2.1,x104.2.2.2.2.2.1,x104.2.2.2.2.2.2) (g105.1,g105.2) rfl rfl))) λg106 x107=>(Xz Jg))))⟩⟩
noncomputable def V2:=K6.1
theorem X3:FnScope ["_law_walks","_law_signs","_law_some","_law_behind","_law_k","_law_one","_law_found","_law_sign","_law_far"] ["_law_walks","_law_signs","_law_some"] (Xf Ze):=⟨rfl,rfl,rfl,by decide+kernel,rfl,by decide+kernel,by decide+kernel⟩
noncomputable abbrev JS (m:(List (List Int))->(List Int)->(List Int)->Rs ((List (List Int))×(List (Int×Int))))(P:Program)(w:World)(K:PySem.W.Frag)(mg:Str->Option Value)(base:Heap):Prop:=Fn P w K mg base 1 "_law_turn_back" ["_law_walks","_law_signs","_law_some"] (SL (oL (oL (oF Xd))) (rV Xd) (rV Xd) (oT2 (oL (oL (oF Xd))) (oL (oF (rP2 Xd Xd)))) m K)
noncomputable def JR:{m // Pk λP w K mg base=>Def K mg "_law_turn_back" Ze ["_law_walks","_law_signs","_law_some"]->Ecs Xq K mg->Blt mg->JS m P w K mg base}:=⟨_, @λP w K mg base D Y Z=>by
 refine UH D X3 (λvs H Q E h=>?_) (λf cdv A outer s H vs Q E hr h=>?_)
 ·obtain⟨v_0,v_1,v_2,a_0,a_1,a_2,b,rfl,_⟩:=h;rfl
 obtain⟨v_0,v_1,v_2,a_0,a_1,a_2,b,rfl,C_0,hw,h_0,h_1,h_2,hm,q⟩:=h
 have hu:=hu8 hr
 have hu1:=Qk hr
 refine⟨_,(Xb (Xk (i:=3) X3.nd rfl (Or.inl rfl) Lc)
  (Xb (XG PassesOwn.never rfl (Xy rfl Z.b_range (Xa (Xm (Xj K rfl) rfl Z.b_len PySem.boot_len (Xa (pv 0) Xc)) Xc)) (Xi (i:=4) X3.nd rfl (Or.inl rfl))
   (Xb (Yh (Xs QR (QO (Yv K rfl) (pv 2) (Xr XO Xg (pv 4)) (λ_ _=>rfl)) Xg (Xw _))
    (Xb (DP (Hy K rfl (QO (Yv K rfl) (pv 0) (pv 4) (λ_ _=>rfl)) (Vo Ql Xg)) (ET (pv 0) (pv 4) KJ))
    (Xb (XG PassesOwn.never rfl (XA (K:=K) rfl (QO (Yv K rfl) (pv 0) (pv 4) (λ_ _=>rfl))) (Xi (i:=5) X3.nd rfl (Or.inl rfl))
     (Xb (Nd hu1 (pv 3) (pv 5) VT rfl)
     Xe))
    Xe))
    Xe)
   Xe))
  (Xb (Xk (i:=6) X3.nd rfl (Or.inl rfl) (Xt Xc))
  (Xb (XG PassesOwn.never rfl (Xy rfl Z.b_range (Xa (Xm (Xj K rfl) rfl Z.b_len PySem.boot_len (Xa (pv 1) Xc)) Xc)) (Xi (i:=4) X3.nd rfl (Or.inl rfl))
   (Xb (Xk (i:=7) X3.nd rfl (Or.inl rfl) (QO (Yv K rfl) (pv 1) (pv 4) (λ_ _=>rfl)))
   (Xb (Yh (Xs BJ (LZ (MC hu1 (Xr XO (pv 4) Xg) (pv 3))) (LZ (MC hu1 (Xr UJ (Vo Ql (pv 4)) Xg) (pv 3))) (Xw _))
    (Xb (Xk (i:=7) X3.nd rfl (Or.inl rfl) (Vo Ql (pv 7)))
    Xe)
    Xe)
   (Xb (XC (Y8 PySem.F.plainAttrs_list PySem.F.slot_list_append PySem.F.type_list_append XI (pv 6) (Xa (Yz (Xa (Xr XO (pv 4) Xg) (Xa (pv 7) Xc))) Xc)))
   Xe))))
  (Xb (Xk (i:=8) X3.nd rfl (Or.inr rfl) (QO (Yv K rfl) (Xt (Xa Xg (Xa Xg (Xa (Xr UT Xg Xg) Xc)))) (QO (Yv K rfl) (pv 2) (Vo Ql Xg) (λ_ _=>rfl)) (λ_ _=>rfl)))
  (Xb (KP 0 (Xf Ze) ["_law_walks","_law_signs","_law_some","_law_behind","_law_k","_law_one","_law_found","_law_sign","_law_far"] ["_law_walk"] [(8,"_law_far")] rfl X3.nd rfl rfl (XA (K:=K) rfl (pv 0)) (Yf (by decide)) (λcl C s H ex E=>⟨Xi (i:=0) (show List.Nodup (["_law_walk","_law_far"]:List Str) by decide+kernel) rfl (Or.inl rfl),Yy,(Gf (sc:=(OZ BZ (Xf Ze))) (N0:=["_law_walk","_law_far"]) (tns:=["_law_one"]) (caps:=[(1,"_law_far")]) rfl (XA (K:=K) rfl (pv 0)) (Yf (by decide)) (λcl C s H ex E=>⟨Xi (i:=0) (show List.Nodup (["_law_one","_law_far"]:List Str) by decide+kernel) rfl (Or.inl rfl),Yy,(Xr Zt (pv 0) (pv 1))⟩))⟩))
  (Xb (Xx (Yz (Xa (pv 0) (Xa (YA (sc:=(Xf Ze)) (N0:=["_law_walks","_law_signs","_law_some","_law_behind","_law_k","_law_one","_law_found","_law_sign","_law_far"]) (tns:=["_law_one","_law_sign"]) (caps:=[(8,"_law_far")]) rfl (XA (K:=K) rfl (pv 6)) (Oc (by decide) (by decide)) (λcl C s H ex E=>⟨EF K rfl rfl (XT (Xi (i:=0) (show List.Nodup (["_law_one","_law_sign","_law_far"]:List Str) by decide+kernel) rfl (Or.inl rfl)) (XT (Xi (i:=1) (show List.Nodup (["_law_one","_law_sign","_law_far"]:List Str) by decide+kernel) rfl (Or.inl rfl)) QK)),Yy,(Yz (Xa (Xr Zt (pv 0) (pv 2)) (Xa (pv 1) Xc)))⟩)) Xc))))
  Xe))))))),?_⟩
 refine RV (S:=(SC.add (SC.add (SC.addO SC.nil K (oL (oL (oF Xd))) v_0 a_0 C_0) K (rV Xd) v_1 a_1) K (rV Xd) v_2 a_2)) (σ:=[some v_0,some v_1,some v_2,none,none,none,none,none,none]) 3 0 (by decide) ?_ hw (SC.i (SC.i (SC.i SC.t h_0) h_1) h_2) hm q rfl
 exact(Y9 K (o:=(oD XN)) 2 (OC (r:=XN)) λa1 v2 C3=>(VC K (λO (x6:Option V×V×Option V×V×List Xo×List Xo)=>[x6.2.2.2.2.1,[],x6.2.2.2.2.2]) (λs x6=>[some x6.2.1,some v_1,some v_2,some x6.2.2.2.1,x6.1,x6.2.2.1,none,none,none]) (λS (g7:(List (List Int))×(List (Int×Bool))) x6=>(SC.addO (SC.addO S K (oL (oL (oF Xd))) x6.2.1 g7.1 x6.2.2.2.2.1) K (oD XN) x6.2.2.2.1 g7.2 x6.2.2.2.2.2)) (λ_=>tg1 4) ((none),v_0,(none),v2,C_0,C3) (a_0,a1) qw rfl rfl (λ_ s=>(SC.i (SC.i s s.l.l.l.r) s.r)) (λg8 x9 a10 v11=>(Qh (λO (x19:V×Option V×V×List Xo×List Xo)=>[x19.2.2.2.1,[],x19.2.2.2.2]) (λs x19=>[some x19.1,some v_1,some v_2,some x19.2.2.1,some v11,x19.2.1,none,none,none]) (λS (g20:(List (List Int))×(List (Int×Bool))) x19=>(SC.addO (SC.addO S K (oL (oL (oF Xd))) x19.1 g20.1 x19.2.2.2.1) K (oD XN) x19.2.2.1 g20.2 x19.2.2.2.2)) (Yu (qt K) (Im K (B1 ql qB) (λ_=>qB) λa28 C29=>(Rq K (λO (x30:Option V×V×List Xo)=>[C29,[],x30.2.2]) (λs x30=>[some x9.2.1,some v_1,some v_2,some x30.2.1,some v11,x30.1,none,none,none]) (λS (g31:(List (Int×Bool))) x30=>(SC.addO S K (oD XN) x30.2.1 g31 x30.2.2)) (r:=Xd) qB (λ_=>tg1 5) ((x9.2.2.1),x9.2.2.2.1,x9.2.2.2.2.2) (g8.2) (λ_=>rfl) rfl rfl (λ_ s=>(SC.i s s.l.l.r)) (λg32 x33 a34 v35=>(Sa K qS qB λa38 C39=>(Yc ((some v35),x33.2.1,C39) (a38) rfl rfl))) λg40 x41=>(Yc (x9.2.1,(x41.1),x41.2.1,C29,x41.2.2) (a28,g40) rfl rfl))) (Yc (x9.2.1,(x9.2.2.1),x9.2.2.2.1,x9.2.2.2.2.1,x9.2.2.2.2.2) (g8.1,g8.2) rfl rfl)) λg45 x44=>(Yc ((some v11),x44.1,(x44.2.1),x44.2.2.1,x44.2.2.2.1,x44.2.2.2.2) (g45.1,g45.2) rfl rfl))) λg46 x47=>(Y9 K (o:=(oL (oF (rP2 Xd Xd)))) 1 (Zi (o:=(oF (rP2 Xd Xd)))) λa48 v49 C50=>(VC K (λO (x53:Option V×Option V×V×List Xo)=>[x47.2.2.2.2.1,x53.2.2.2,x47.2.2.2.2.2]) (λs x53=>[some x47.2.1,some v_1,some v_2,some x47.2.2.2.1,x53.1,x47.2.2.1,some x53.2.2.1,x53.2.1,none]) (λS (g54:(List (Int×Int))) x53=>(SC.addO S K (oL (oF (rP2 Xd Xd))) x53.2.2.1 g54 x53.2.2.2)) (λ_=>tg1 4) ((x47.1),(none),v49,C50) (a48) qw rfl rfl (λ_ s=>(SC.i s s.r)) (λg55 x56 a57 v58=>(YQ K qS λa59 v60=>(Qh (λO (x75:V)=>[x47.2.2.2.2.1,x56.2.2.2,x47.2.2.2.2.2]) (λs x75=>[some x47.2.1,some v_1,some v_2,some x47.2.2.2.1,some v58,x47.2.2.1,some x56.2.2.1,some x75,none]) (λS (g76:Int) x75=>(SC.add S K Xd x75 g76)) (Yu (XY (K:=K) (HY (BR qB qB) (BR qB qB))) (YQ K qS λa77 v78=>(Yc (v78) (a77) rfl rfl)) (Yc (v60) (a59) rfl rfl)) λg81 x80=>(Fi K qM λa88 C87=>(Yc ((some v58),(some x80),x56.2.2.1,C87) (a88) rfl rfl))))) λg89 x90=>(YQ K qS λa91 v92=>(Y9 K (o:=(oL (oL (oF Xd)))) 0 (Fq (K:=K) (o1:=(oL (oL (oF Xd)))) 0 rfl (λ_ s=>s.l.l.l.l.r) (Yx (λ_=>tg1 0) qw (λC110 a111 v112=>(Yx (λ_=>tg1 0) qw (λC114 a115 v116=>qM))))) λa107 v108 C109=>(Xz (Js Jg λ_=>(Fq (K:=K) (o1:=(oL (oF (rP2 Xd Xd)))) 2 rfl (λ_ s=>s.l.l.r) (Yx (λ_=>tg2 0 1) qw (λC120 a121 v122=>qM)))))))))))⟩
noncomputable def Qs:=JR.1
theorem Y0:FnScope ["_law_script","_law_place","_law_sizes","_law_some","_law_signs","_law_lows","_law_left","_law_strands","_law_k","_law_walks","_law_at","_law_passage"] ["_law_script","_law_place"] (Xf Kz):=⟨rfl,rfl,rfl,by decide+kernel,rfl,by decide+kernel,by decide+kernel⟩
noncomputable abbrev FU (m:(List Int)->Int->Rs ((List (List Int))×(List (Int×Int))))(P:Program)(w:World)(K:PySem.W.Frag)(mg:Str->Option Value)(base:Heap):Prop:=Fn P w K mg base 3 "_law_begun" ["_law_script","_law_place"] (sp2 (rL Xd) Xd (oT2 (oL (oL (oF Xd))) (oL (oF (rP2 Xd Xd)))) m K)
noncomputable def Di:{m // Pk λP w K mg base=>Def K mg "_law_begun" Kz ["_law_script","_law_place"]->LA EQ P w K mg base->Ge V2 P w K mg base->JS Qs P w K mg base->Ecs Xq K mg->Blt mg->FU m P w K mg base}:=⟨_, @λP w K mg base D g_row g_traced g_turn_back Y Z=>go2 D Y0 10 4 rfl rfl λhr hu hu1=>⟨_,(Xb (Xk (i:=2) Y0.nd rfl (Or.inl rfl) (Xr VM (Xr VM (Xt (Xa Xg (Xa Xg (Xa Xg (Xa Xg Xc))))) (Xr GN (Xt (Xa Xg Xc)) Xg)) (Xr GN (Xt (Xa Xg (Xa Xg (Xa Xg (Xa Xg (Xa Xg (Xa Xg Xc))))))) Xg)))
  (Xb (Xk (i:=3) Y0.nd rfl (Or.inl rfl) (Yg g_row hr (by decide) (Xa (pv 0) (Xa (pv 1) (Xa (Xr VM (pv 2) (Xt (Xa Xg Xc))) Xc)))))
  (Xb (Ob (i:=4) (j:=5) (k:=6) rfl Y0.nd rfl rfl rfl (by decide) (by decide) (by decide) rfl rfl rfl (Xa (Xt Xc) (Xa (Xt Xc) (Xa (Xt Xc) Xc XJ) XJ) XJ) rfl)
  (Xb (Xk (i:=7) Y0.nd rfl (Or.inl rfl) (Xr XO Xg (XS K (pv 3) Xg)))
  (Xb (XG PassesOwn.never rfl (Xy rfl Z.b_range (Xa (XS K (pv 3) Xg) Xc)) (Xi (i:=8) Y0.nd rfl (Or.inl rfl))
   (Xb (XC (Y8 PySem.F.plainAttrs_list PySem.F.slot_list_append PySem.F.type_list_append XI (pv 5) (Xa (Xr Zw (XS K (pv 3) (Xr XO (Xr Zt Xg (pv 8)) Xg)) (Xr UJ (pv 7) Xg)) Xc)))
   (Xb (XC (Y8 PySem.F.plainAttrs_list PySem.F.slot_list_append PySem.F.type_list_append XI (pv 4) (Xa (Xr UJ (Xr Zt Xg (XS K (pv 3) (Xr XO (Xr Zt Xg (pv 8)) Xg))) Xg) Xc)))
   (Xb (XC (Y8 PySem.F.plainAttrs_list PySem.F.slot_list_extend PySem.F.type_list_extend Jk (pv 6) (Xa (Xt (Xa (Xr XO (pv 8) Xg) (Xa (Xr UJ (Vo Ql (pv 8)) Xg) Xc))) Xc XJ)))
   Xe))))
  (Xb (Yh (PW.pt (Ms (Xs VR (XS K (pv 3) Xg) Xg (Xw _)) (B4 (Xs VR (pv 7) Xg (Xw _)))))
   (Xb (DP (VY (V8 K rfl) (Xt (Xa Xg (Xa Xg (Xa Xg Xc)))) Ur (UA (Xm (Xj K rfl) rfl Z.b_len PySem.boot_len (Xa (pv 5) Xc)))) (Ss (pv 5) Ur (UA Xg)))
   Xe)
   Xe)
  (Xb (Xk (i:=9) Y0.nd rfl (Or.inl rfl) (Yg g_traced hr (by decide) (Xa (pv 5) (Xa (pv 4) (Xa (pv 7) Xc)))))
  (Xb (Yh (Xs QR (XS K (pv 3) Xg) Xg (Xw _))
   (Xb (KP 9 (Xf Kz) ["_law_script","_law_place","_law_sizes","_law_some","_law_signs","_law_lows","_law_left","_law_strands","_law_k","_law_walks","_law_at","_law_passage"] ["_law_k"] [] rfl Y0.nd rfl rfl (Xy rfl Z.b_range (Xa (pv 7) Xc)) (Yf (by decide)) (λcl C s H ex E=>⟨Xi (i:=0) (show List.Nodup (["_law_k"]:List Str) by decide+kernel) rfl (Or.inl rfl),Yy,(Xt Xc)⟩))
   (Xb (XG PassesOwn.never rfl (Xy rfl Z.b_range (Xa (Xr Zt Xg (XS K (pv 3) Xg)) Xc)) (Xi (i:=8) Y0.nd rfl (Or.inl rfl))
    (Xb (Xk (i:=10) Y0.nd rfl (Or.inl rfl) (Xr XO (Xr XO (Xr Zt Xg (Xr Ks (pv 8) Xg)) (Xr Zw (pv 8) Xg)) Xg))
    (Xb (Xk (i:=11) Y0.nd rfl (Or.inl rfl) (Y8 PySem.F.plainAttrs_list PySem.F.slot_list_pop PySem.F.type_list_pop IC (pv 6) (Xa (Xr Zw (XS K (pv 3) (pv 10)) (Xm (Xj K rfl) rfl Z.b_len PySem.boot_len (Xa (pv 6) Xc))) Xc)))
    (Xb (XC (Y8 PySem.F.plainAttrs_list PySem.F.slot_list_append PySem.F.type_list_append XI (XS K (pv 9) (Xr Zw (XS K (pv 3) (Xr XO (pv 10) Xg)) (pv 7))) (Xa (pv 11) Xc)))
    Xe))))
   Xe))
   Xe)
  (Xb (Xx (Yg g_turn_back hr (by decide) (Xa (pv 9) (Xa (pv 4) (Xa (pv 3) Xc)))))
  Xe))))))))),λv_0 v_1 a_0 a_1=>(YQ K qS λa1 v2=>(YQ K qS λa36 v37=>(Lz (K:=K) (o1:=(oF Xd)) (o2:=(oF Xd)) (o3:=(oF Xd)) 4 5 6 1 0 2 (Nat.le_of_ble_eq_true rfl) (Nat.le_of_ble_eq_true rfl) (Nat.le_of_ble_eq_true rfl) λv47 v48 v49 C50 C51 C52=>(YQ K qS λa53 v54=>(VC K (λO (x62:Option V×V×V×V×List Xo×List Xo×List Xo)=>[x62.2.2.2.2.1,x62.2.2.2.2.2.1,x62.2.2.2.2.2.2,[]]) (λs x62=>[some v_0,some v_1,some v2,some v37,some x62.2.2.1,some x62.2.1,some x62.2.2.2.1,some v54,x62.1,none,none,none]) (λS (g63:(List Int)×(List Int)×(List Int)) x62=>(SC.addO (SC.addO (SC.addO S K (oL (oF Xd)) x62.2.1 g63.1 x62.2.2.2.2.1) K (oL (oF Xd)) x62.2.2.1 g63.2.1 x62.2.2.2.2.2.1) K (oL (oF Xd)) x62.2.2.2.1 g63.2.2 x62.2.2.2.2.2.2)) (λ_=>tg1 8) ((none),v48,v47,v49,C51,C50,C52) (([]:(List Int)),([]:(List Int)),([]:(List Int))) qw rfl rfl (λ_ s=>(SC.i (SC.i (SC.i s s.l.l.r) s.l.l.l.r) s.l.r)) (λg64 x65 a66 v67=>(Fi K qM λa80 C79=>(Fi K qM λa93 C92=>(Sg K qN λa106 C105=>(Yc ((some v67),x65.2.1,x65.2.2.1,x65.2.2.2.1,C79,C92,C105) (a80,a93,a106) rfl rfl))))) λg107 x108=>(Qh (λO (x116:V×List Xo)=>[x116.2,x108.2.2.2.2.2.1,x108.2.2.2.2.2.2,[]]) (λs x116=>[some v_0,some v_1,some v2,some v37,some x108.2.2.1,some x116.1,some x108.2.2.2.1,some v54,x108.1,none,none,none]) (λS (g117:(List Int)) x116=>(SC.addO S K (oL (oF Xd)) x116.1 g117 x116.2)) (Yu (qt K) (Lx (K:=K) 5 0 rfl rfl (λ_ s=>s.l.l.r) qN (λ_=>(qp K)) (λ_=>(qp K)) λa131 C132=>(Yc (x108.2.1,C132) (a131) rfl rfl)) (Yc (x108.2.1,x108.2.2.2.2.1) (g107.1) rfl rfl)) λg137 x136=>(Y9 K 3 qN λa138 v139 C140=>(Qh (λO (x150:V×Option V×Option V×Option V×Option V×List Xo)=>[x136.2,x108.2.2.2.2.2.1,[],x150.2.2.2.2.2]) (λs x150=>[some v_0,some v_1,some v2,some v37,some x108.2.2.1,some x136.1,x150.2.2.2.2.1,some v54,x150.2.1,some x150.1,x150.2.2.1,x150.2.2.2.1]) (λS (g151:(List (List Int))) x150=>(SC.addO S K (oL (oL (oF Xd))) x150.1 g151 x150.2.2.2.2.2)) (Yu (qt K) (Y9 K (o:=(oL (oL (oF Xd)))) 3 (Yx (λ_=>tg1 0) qw (λC156 a157 v158=>(Zi (o:=(oF Xd))))) λa152 v153 C154=>(VC K (λO (x165:Option V×Option V×Option V×V×V×List Xo×List Xo)=>[x136.2,x108.2.2.2.2.2.1,x165.2.2.2.2.2.1,x165.2.2.2.2.2.2]) (λs x165=>[some v_0,some v_1,some v2,some v37,some x108.2.2.1,some x136.1,some x165.2.2.2.1,some v54,x165.1,some x165.2.2.2.2.1,x165.2.1,x165.2.2.1]) (λS (g166:(List Int)×(List (List Int))) x165=>(SC.addO (SC.addO S K (oL (oF Xd)) x165.2.2.2.1 g166.1 x165.2.2.2.2.2.1) K (oL (oL (oF Xd))) x165.2.2.2.2.1 g166.2 x165.2.2.2.2.2.2)) (λ_=>tg1 8) ((x108.1),(none),(none),x108.2.2.2.1,v153,x108.2.2.2.2.2.2,C154) (g107.2.2,a152) qw rfl rfl (λ_ s=>(SC.i (SC.i s s.l.l.l.r) s.r)) (λg167 x168 a169 v170=>(YQ K qS λa171 v172=>(S1 K qB λa188 a189 v190 C191=>(IQ (K:=K) (r:=Xd) 9 3 rfl rfl (λ_ s=>s.l.l.l.l.r) qS qB λa203 C204=>(Yc ((some v170),(some v172),(some v190),x168.2.2.2.1,x168.2.2.2.2.1,C191,C204) (a189,a203) rfl rfl))))) λg205 x206=>(KC 2 (Yc (x206.2.2.2.2.1,(x206.1),(x206.2.1),(x206.2.2.1),(some x206.2.2.2.1),x206.2.2.2.2.2.2) (g205.2) rfl rfl)))) (KC 2 (Yc (v139,(x108.1),(none),(none),(some x108.2.2.2.1),C140) (a138) rfl rfl))) λg209 x208=>(H9 (K:=K) (o:=(oL (oF Xd))) 1 rfl (λ_ s=>s.l.l.l.l.r) (Lw (K:=K) (q:=(oL (oL (oF Xd)))) 9 3 rfl rfl (λ_ s=>s.l.r) qS qS))))))))))⟩⟩
noncomputable def Gi:=Di.1
theorem N2:FnScope ["_law_drawing"] ["_law_drawing"] (Xf DL):=⟨rfl,rfl,rfl,by decide+kernel,rfl,by decide+kernel,by decide+kernel⟩
noncomputable abbrev HE (m:((List (List Int))×(List (Int×Int)))->Rs ((List (List Int))×(List (Int×Int))))(P:Program)(w:World)(K:PySem.W.Frag)(mg:Str->Option Value)(base:Heap):Prop:=Fn P w K mg base 1 "_law_copy" ["_law_drawing"] (sp1 (rP2 (rV (rV Xd)) (rV (rP2 Xd Xd))) (oT2 (oL (oL (oF Xd))) (oL (oF (rP2 Xd Xd)))) m K)
noncomputable def HZ:{m // Pk λP w K mg base=>Def K mg "_law_copy" DL ["_law_drawing"]->Ecs Xq K mg->Blt mg->HE m P w K mg base}:=⟨_, @λP w K mg base D Y Z=>go1 D N2 0 0 rfl rfl λhr hu hu1=>⟨_,(Xb (Xx (Yz (Xa (YA (sc:=(Xf DL)) (N0:=["_law_drawing"]) (tns:=["_law_walk"]) (caps:=[]) rfl (XA (K:=K) rfl (QT K (pv 0) Xg)) (Yf (by decide)) (λcl C s H ex E=>⟨Xi (i:=0) (show List.Nodup (["_law_walk"]:List Str) by decide+kernel) rfl (Or.inl rfl),Yy,(Ub (Qq K rfl) rfl Z.b_list PyProof.Rows.boot_list (Xa (pv 0) Xc))⟩)) (Xa (Ub (Qq K rfl) rfl Z.b_list PyProof.Rows.boot_list (Xa (QT K (pv 0) Xg) Xc)) Xc))))
  Xe),λv_0 a_0=>(Xz (Js (Yx (λ_=>tg1 0) qw (λC2 a3 v4=>qN)) λ_=>qN))⟩⟩
noncomputable def DX:=HZ.1
theorem X7:FnScope ["_law_walks","_law_found","_law_count_here","_law_walk","_law_first","_law_number","_law_last","_law_k","_law_row_here"] ["_law_walks"] (Xf Kq):=⟨rfl,rfl,rfl,by decide+kernel,rfl,by decide+kernel,by decide+kernel⟩
noncomputable abbrev KL (m:(List (List Int))->Rs (List (List Int)))(P:Program)(w:World)(K:PySem.W.Frag)(mg:Str->Option Value)(base:Heap):Prop:=Fn P w K mg base 1 "_law_arcs" ["_law_walks"] (sp1 (rV (rV Xd)) (oL (oL (oF Xd))) m K)
noncomputable def KA:{m // Pk λP w K mg base=>Def K mg "_law_arcs" Kq ["_law_walks"]->Ecs Xq K mg->Blt mg->KL m P w K mg base}:=⟨_, @λP w K mg base D Y Z=>go1 D X7 8 2 rfl rfl λhr hu hu1=>⟨_,(Xb (Xk (i:=1) X7.nd rfl (Or.inl rfl) (Xt Xc))
  (Xb (Xk (i:=2) X7.nd rfl (Or.inl rfl) Xg)
  (Xb (XG PassesOwn.never rfl (XA (K:=K) rfl (pv 0)) (Xi (i:=3) X7.nd rfl (Or.inl rfl))
   (Xb (Xk (i:=4) X7.nd rfl (Or.inl rfl) (pv 2))
   (Xb (Xk (i:=5) X7.nd rfl (Or.inl rfl) (pv 2))
   (Xb (Xk (i:=6) X7.nd rfl (Or.inl rfl) (Vo Ql Xg))
   (Xb (XG PassesOwn.never rfl (Xy rfl Z.b_range (Xa (Xm (Xj K rfl) rfl Z.b_len PySem.boot_len (Xa (pv 3) Xc)) Xc)) (Xi (i:=7) X7.nd rfl (Or.inl rfl))
    (Xb (Yh (Xs Gj (XS K (pv 3) (pv 7)) Xg (Xw _))
     (Xb (Xk (i:=6) X7.nd rfl (Or.inl rfl) (pv 7))
     Xe)
     Xe)
    Xe))
   (Xb (Xk (i:=8) X7.nd rfl (Or.inl rfl) (Xr GN (Xt (Xa (pv 4) Xc)) (Xm (Qn rfl) rfl Z.b_max PyProof.Rows.boot_max (Xa (Xm (Xj K rfl) rfl Z.b_len PySem.boot_len (Xa (pv 3) Xc)) (Xa Xg Xc)))))
   (Xb (XG PassesOwn.never rfl (Xy rfl Z.b_range (Xa (Xr XO (pv 6) Xg) Xc)) (Xi (i:=7) X7.nd rfl (Or.inl rfl))
    (Xb (DP (pv 5) (ET (pv 8) (pv 7) KJ))
    (Xb (Yh (PW.pt (Ms (Xs Gj (XS K (pv 3) (pv 7)) Xg (Xw _)) (B4 (Xs Gj (pv 7) (pv 6) (Xw _)))))
     (Xb (Xk (i:=2) X7.nd rfl (Or.inl rfl) (Xr XO (pv 2) Xg))
     (Xb (Xk (i:=5) X7.nd rfl (Or.inl rfl) (pv 2))
     Xe))
     Xe)
    Xe)))
   (Xb (Xk (i:=2) X7.nd rfl (Or.inl rfl) (Xr XO (pv 2) Xg))
   (Xb (XC (Y8 PySem.F.plainAttrs_list PySem.F.slot_list_append PySem.F.type_list_append XI (pv 1) (Xa (pv 8) Xc)))
   Xe)))))))))
  (Xb (Xx (pv 1))
  Xe)))),λv_0 a_0=>(Y9 K (o:=(oL (oL (oF Xd)))) 0 (Zi (o:=(oL (oF Xd)))) λa1 v2 C3=>(YQ K qS λa4 v5=>(VC K (λO (x6:Option V×Option V×Option V×Option V×Option V×Option V×V×V×List Xo)=>[x6.2.2.2.2.2.2.2.2,[]]) (λs x6=>[some v_0,some x6.2.2.2.2.2.2.2.1,some x6.2.2.2.2.2.2.1,x6.1,x6.2.1,x6.2.2.1,x6.2.2.2.1,x6.2.2.2.2.1,x6.2.2.2.2.2.1]) (λS (g7:Int×(List (List Int))) x6=>(SC.addO (SC.add S K Xd x6.2.2.2.2.2.2.1 g7.1) K (oL (oL (oF Xd))) x6.2.2.2.2.2.2.2.1 g7.2 x6.2.2.2.2.2.2.2.2)) (λ_=>tg1 3) ((none),(none),(none),(none),(none),(none),v5,v2,C3) (a4,a1) qw rfl rfl (λ_ s=>(SC.i (SC.i s s.r) s.l.r)) (λg8 x9 a10 v11=>(YQ K qS λa12 v13=>(YQ K qS λa14 v15=>(YQ K qS λa16 v17=>(VC K (λO (x21:Option V×V)=>[x9.2.2.2.2.2.2.2.2,[]]) (λs x21=>[some v_0,some x9.2.2.2.2.2.2.2.1,some x9.2.2.2.2.2.2.1,some v11,some v13,some v15,some x21.2,x21.1,x9.2.2.2.2.2.1]) (λS (g22:Int) x21=>(SC.add S K Xd x21.2 g22)) (λ_=>tg1 7) ((x9.2.2.2.2.1),v17) (a16) qw rfl rfl (λ_ s=>(SC.i s s.r)) (λg23 x24 a25 v26=>(Qh (λO (x32:V)=>[x9.2.2.2.2.2.2.2.2,[]]) (λs x32=>[some v_0,some x9.2.2.2.2.2.2.2.1,some x9.2.2.2.2.2.2.1,some v11,some v13,some v15,some x32,some v26,x9.2.2.2.2.2.1]) (λS (g33:Int) x32=>(SC.add S K Xd x32 g33)) (Yu (qt K) (YQ K qS λa34 v35=>(Yc (v35) (a34) rfl rfl)) (Yc (x24.2) (g23) rfl rfl)) λg37 x36=>(Yc ((some v26),x36) (g37) rfl rfl))) λg38 x39=>(Y9 K 1 qN λa40 v41 C42=>(VC K (λO (x54:Option V×V×V×V×List Xo)=>[x9.2.2.2.2.2.2.2.2,x54.2.2.2.2]) (λs x54=>[some v_0,some x9.2.2.2.2.2.2.2.1,some x54.2.2.1,some v11,some v13,some x54.2.2.2.1,some x39.2,x54.1,some x54.2.1]) (λS (g55:(List Int)×Int×Int) x54=>(SC.add (SC.add (SC.addO S K (oL (oF Xd)) x54.2.1 g55.1 x54.2.2.2.2) K Xd x54.2.2.1 g55.2.1) K Xd x54.2.2.2.1 g55.2.2)) (λ_=>tg1 7) ((x39.1),v41,x9.2.2.2.2.2.2.1,v15,C42) (a40,g8.1,a14) qw rfl rfl (λ_ s=>(SC.i (SC.i (SC.i s s.r) s.l.l.l.l.l.l.l.r) s.l.l.l.r)) (λg56 x57 a58 v59=>(Im K qM (λ_=>qB) λa62 C63=>(Qh (λO (x71:V×V)=>[x9.2.2.2.2.2.2.2.2,C63]) (λs x71=>[some v_0,some x9.2.2.2.2.2.2.2.1,some x71.1,some v11,some v13,some x71.2,some x39.2,some v59,some x57.2.1]) (λS (g72:Int×Int) x71=>(SC.add (SC.add S K Xd x71.1 g72.1) K Xd x71.2 g72.2)) (Yu (qt K) (YQ K qS λa73 v74=>(YQ K qS λa77 v78=>(Yc (v74,v78) (a73,a77) rfl rfl))) (Yc (x57.2.2.1,x57.2.2.2.1) (g56.2.1,g56.2.2) rfl rfl)) λg80 x79=>(Yc ((some v59),x57.2.1,x79.1,x79.2,C63) (a62,g80.1,g80.2) rfl rfl)))) λg81 x82=>(YQ K qS λa83 v84=>(Fi K Jg λa89 C88=>(Yc ((some v11),(some v13),(some x82.2.2.2.1),(some x39.2),(x82.1),(some x82.2.1),v84,x9.2.2.2.2.2.2.2.1,C88) (a83,a89) rfl rfl)))))))))) λg92 x93=>(Xz Jg))))⟩⟩
noncomputable def VW:=KA.1
theorem IU:FnScope ["_law_drawing"] ["_law_drawing"] (Xf KE):=⟨rfl,rfl,rfl,by decide+kernel,rfl,by decide+kernel,by decide+kernel⟩
noncomputable abbrev Fu (m:((List (List Int))×(List (Int×Int)))->Rs Int)(P:Program)(w:World)(K:PySem.W.Frag)(mg:Str->Option Value)(base:Heap):Prop:=Fn P w K mg base 2 "_law_count" ["_law_drawing"] (sp1 (rP2 (rV (rV Xd)) (rV (rP2 Xd Xd))) (oF Xd) m K)
noncomputable def FI:{m // Pk λP w K mg base=>Def K mg "_law_count" KE ["_law_drawing"]->KL VW P w K mg base->Ecs Xq K mg->Blt mg->Fu m P w K mg base}:=⟨_, @λP w K mg base D g_l_arcs Y Z=>go1 D IU 0 0 rfl rfl λhr hu hu1=>⟨_,(Xb (Xx (Xr XO Xg (Xm (GK K rfl rfl) rfl Z.b_max PyProof.Rows.boot_max (Xa (Xr VM (Xt (Xa (Vo Ql Xg) Xc)) (YA (sc:=(Xf KE)) (N0:=["_law_drawing"]) (tns:=["_law_row_here"]) (caps:=[]) rfl (XA (K:=K) rfl (Yg g_l_arcs hr (by decide) (Xa (QT K (pv 0) Xg) Xc))) (Yf (by decide)) (λcl C s H ex E=>⟨Xi (i:=0) (show List.Nodup (["_law_row_here"]:List Str) by decide+kernel) rfl (Or.inl rfl),Yy,(Xm (GK K rfl rfl) rfl Z.b_max PyProof.Rows.boot_max (Xa (pv 0) Xc))⟩))) Xc))))
  Xe),λv_0 a_0=>(Xz (EvS.ev (EvB.sh (B9 qB (Ba (Ev.toB (BL ql (Ev.ls (Yx (λ_=>tg1 0) qw (λC10 a11 v12=>(EvS.ev (EvB.sh (Ba qB)))))))))))))⟩⟩
noncomputable def Km:=FI.1
theorem U4:FnScope ["_law_which","_law_one","_law_other","_law_size","e"] ["_law_which","_law_one","_law_other","_law_size"] (Xf UI):=⟨rfl,rfl,rfl,by decide+kernel,rfl,by decide+kernel,by decide+kernel⟩
noncomputable abbrev UK (m:Int->((List (List Int))×(List (Int×Int)))->((List (List Int))×(List (Int×Int)))->Int->Rs (List Bool))(P:Program)(w:World)(K:PySem.W.Frag)(mg:Str->Option Value)(base:Heap):Prop:=Fn P w K mg base 9 "_law_refused" ["_law_which","_law_one","_law_other","_law_size"] (sp4 Xd (rP2 (rV (rV Xd)) (rV (rP2 Xd Xd))) (rP2 (rV (rV Xd)) (rV (rP2 Xd Xd))) Xd (oL (oF XN)) m K)
noncomputable def Vf:{m // Pk λP w K mg base=>Def K mg "_law_refused" UI ["_law_which","_law_one","_law_other","_law_size"]->C4 Jp P w K mg base->V3 YC P w K mg base->Ecs Xq K mg->Blt mg->UK m P w K mg base}:=⟨_, @λP w K mg base D g_mark g_parted Y Z=>go4 D U4 1 0 rfl rfl λhr hu hu1=>let ⟨C_PlaitError,h_PlaitError,q_PlaitError⟩:=Y.adr "PlaitError" (.head _);let ⟨C_TooBig,h_TooBig,q_TooBig⟩:=Y.adr "TooBig" (.tail _ (.tail _ (.head _)));let ⟨C_TooMuch,h_TooMuch,q_TooMuch⟩:=Y.adr "TooMuch" (.tail _ (.tail _ (.tail _ (.head _))));⟨_,(Xb (Pz rfl rfl rfl rfl h_PlaitError U4.nd (i:=4) rfl rfl rfl (λpn xe E hp=>(Xb (Yh (Xs QR (pv 0) Xg (Xw _))
        (Xb (XC (Yp g_mark hr (by decide) hp (Xa (pv 1) (Xa (pv 3) Xc))))
        Xe)
        Xe)
      (Xb (Yh (Xs QR (pv 0) Xg (Xw _))
        (Xb (XC (Yp g_parted hr (by decide) hp (Xa (pv 1) (Xa (pv 2) (Xa (pv 3) Xc)))))
        Xe)
        Xe)
      (Xb (Yh (Xs QR (pv 0) Xg (Xw _))
        (Xb (XC (Yp g_parted hr (by decide) hp (Xa (pv 2) (Xa (pv 1) (Xa (pv 3) Xc)))))
        Xe)
        Xe)
      Xe))))
     (λpn a o C hm hc=>(Xb (Xx (Xt (Xa (Xm (Dr rfl hm hc rfl) rfl Z.b_isinstance PyProof.Rows.boot_isinstance (Xa (pv 4) (Xa (Dh (v:=V.ref C_TooBig) rfl h_TooBig rfl) Xc))) (Xa (Xm (Dr rfl hm hc rfl) rfl Z.b_isinstance PyProof.Rows.boot_isinstance (Xa (pv 4) (Xa (Dh (v:=V.ref C_TooMuch) rfl h_TooMuch rfl) Xc))) Xc))))
      Xe)))
    (Xb (Xx (Xt (Xa VT (Xa VT Xc))))
    Xe)),λv_0 v_1 v_2 v_3 a_0 a_1 a_2 a_3=>(MN (K:=K) (d:="PlaitError") (N:=5) (i:=4) Y (.head _) h_PlaitError (NZ (K:=K) (λ_=>(qt K)) (λ_=>(Ev.toB (XX qB qB))) (NZ (K:=K) (λ_=>(qt K)) (λ_=>(Ev.toB (GZ qB qB qB))) (NZ (K:=K) (λ_=>(qt K)) (λ_=>(Ev.toB (GZ qB qB qB))) Rg))) (Xz qN) (λx1 hx C a hC=>(Xz (U6 (QB (EvB.sh (Ic 4 rfl (Y.att _ hx C hC) (Y.kit _ hx "TooBig" (.tail _ (.tail _ (.head _))) C C_TooBig hC h_TooBig))) (QB (EvB.sh (Ic 4 rfl (Y.att _ hx C hC) (Y.kit _ hx "TooMuch" (.tail _ (.tail _ (.tail _ (.head _)))) C C_TooMuch hC h_TooMuch))) qa))))))⟩⟩
noncomputable def ZS:=Vf.1
theorem VX:FnScope ["_law_drawing","_law_size","_law_tries_here","_law_k"] ["_law_drawing","_law_size"] (Xf De):=⟨rfl,rfl,rfl,by decide+kernel,rfl,by decide+kernel,by decide+kernel⟩
noncomputable abbrev Dc (m:((List (List Int))×(List (Int×Int)))->Int->Rs Int)(P:Program)(w:World)(K:PySem.W.Frag)(mg:Str->Option Value)(base:Heap):Prop:=Fn P w K mg base 3 "_law_tries" ["_law_drawing","_law_size"] (sp2 (rP2 (rV (rV Xd)) (rV (rP2 Xd Xd))) Xd (oF Xd) m K)
noncomputable def Df:{m // Pk λP w K mg base=>Def K mg "_law_tries" De ["_law_drawing","_law_size"]->Fu Km P w K mg base->Ecs Xq K mg->Blt mg->Dc m P w K mg base}:=⟨_, @λP w K mg base D g_count Y Z=>go2 D VX 2 0 rfl rfl λhr hu hu1=>⟨_,(Xb (Xk (i:=2) VX.nd rfl (Or.inl rfl) Xg)
  (Xb (XG PassesOwn.never rfl (Xy rfl Z.b_range (Xa (Yg g_count hr (by decide) (Xa (pv 0) Xc)) Xc)) (Xi (i:=3) VX.nd rfl (Or.inl rfl))
   (Xb (Xk (i:=2) VX.nd rfl (Or.inl rfl) (Xm (GB rfl) rfl Z.b_min PyProof.Rows.boot_min (Xa (Xr Zt (pv 2) (pv 1)) (Xa (Xr UT Xg Xg) Xc))))
   Xe))
  (Xb (Xx (pv 2))
  Xe))),λv_0 v_1 a_0 a_1=>(YQ K qS λa1 v2=>(VC K (λO (x6:Option V×V)=>[]) (λs x6=>[some v_0,some v_1,some x6.2,x6.1]) (λS (g7:Int) x6=>(SC.add S K Xd x6.2 g7)) (λ_=>tg1 3) ((none),v2) (a1) qw rfl rfl (λ_ s=>(SC.i s s.r)) (λg8 x9 a10 v11=>(YQ K qS λa12 v13=>(Yc ((some v11),v13) (a12) rfl rfl))) λg20 x21=>(Xz qM)))⟩⟩
noncomputable def Vu:=Df.1
theorem Gp:FnScope ["_law_count_here","_law_rings","_law_walk","_law_k"] ["_law_count_here","_law_rings"] (Xf Uw):=⟨rfl,rfl,rfl,by decide+kernel,rfl,by decide+kernel,by decide+kernel⟩
noncomputable abbrev Dp (m:Int->Int->Rs ((List (List Int))×(List (Int×Int))))(P:Program)(w:World)(K:PySem.W.Frag)(mg:Str->Option Value)(base:Heap):Prop:=Fn P w K mg base 1 "_law_curls" ["_law_count_here","_law_rings"] (sp2 Xd Xd (oT2 (oL (oL (oF Xd))) (oL (oF (rP2 Xd Xd)))) m K)
noncomputable def EE:{m // Pk λP w K mg base=>Def K mg "_law_curls" Uw ["_law_count_here","_law_rings"]->Ecs Xq K mg->Blt mg->Dp m P w K mg base}:=⟨_, @λP w K mg base D Y Z=>go2 D Gp 2 1 rfl rfl λhr hu hu1=>⟨_,(Xb (Xk (i:=2) Gp.nd rfl (Or.inl rfl) (Xt Xc))
  (Xb (XG PassesOwn.never rfl (Xy rfl Z.b_range (Xa (pv 0) Xc)) (Xi (i:=3) Gp.nd rfl (Or.inl rfl))
   (Xb (XC (Y8 PySem.F.plainAttrs_list PySem.F.slot_list_extend PySem.F.type_list_extend Jk (pv 2) (Xa (Xt (Xa (Xr XO (pv 3) Xg) (Xa (Xr UJ (Vo Ql (pv 3)) Xg) Xc))) Xc XJ)))
   Xe))
  (Xb (Xx (Yz (Xa (Xr VM (Xt (Xa (pv 2) Xc)) (YA (sc:=(Xf Uw)) (N0:=["_law_count_here","_law_rings","_law_walk","_law_k"]) (tns:=["_law_k"]) (caps:=[]) rfl (Xy rfl Z.b_range (Xa (pv 1) Xc)) (Yf (by decide)) (λcl C s H ex E=>⟨Xi (i:=0) (show List.Nodup (["_law_k"]:List Str) by decide+kernel) rfl (Or.inl rfl),Yy,(Xt Xc)⟩))) (Xa (YA (sc:=(Xf Uw)) (N0:=["_law_count_here","_law_rings","_law_walk","_law_k"]) (tns:=["_law_k"]) (caps:=[]) rfl (Xy rfl Z.b_range (Xa (pv 0) Xc)) (Yf (by decide)) (λcl C s H ex E=>⟨Xi (i:=0) (show List.Nodup (["_law_k"]:List Str) by decide+kernel) rfl (Or.inl rfl),Yy,(Yz (Xa (Xr XO (pv 0) Xg) (Xa Xg Xc)))⟩)) Xc))))
  Xe))),λv_0 v_1 a_0 a_1=>(Y9 K (o:=(oL (oF Xd))) 0 (Zi (o:=(oF Xd))) λa1 v2 C3=>(VC K (λO (x5:Option V×V×List Xo)=>[x5.2.2]) (λs x5=>[some v_0,some v_1,some x5.2.1,x5.1]) (λS (g6:(List Int)) x5=>(SC.addO S K (oL (oF Xd)) x5.2.1 g6 x5.2.2)) (λ_=>tg1 3) ((none),v2,C3) (a1) qw rfl rfl (λ_ s=>(SC.i s s.r)) (λg7 x8 a9 v10=>(Sg K qN λa23 C22=>(Yc ((some v10),x8.2.1,C22) (a23) rfl rfl))) λg24 x25=>(Xz (Js (Nx (N9 (X6 Jg λ_=>Zn)) λ_=>(Yx (λ_=>tg1 0) qw (λC32 a33 v34=>(Zi (o:=(oF Xd)))))) λ_=>(Yx (λ_=>tg1 0) qw (λC37 a38 v39=>qM))))))⟩⟩
noncomputable def Uo:=EE.1
theorem YS:FnScope ["_law_script","_law_one","_law_other","_law_some","_law_size","_law_handed","_law_first","_law_second","_law_due","_law_most","_law_tried","_law_which","_law_edge"] ["_law_script"] (Xf Gk):=⟨rfl,rfl,rfl,by decide+kernel,rfl,by decide+kernel,by decide+kernel⟩
noncomputable def MV:{m:(List Int)->Rs Bool // ∀{P:Program}{w:World}{K:PySem.W.Frag}{mg:Str->Option Value}{base:Heap}{f:Addr}{fd:FuncData} (D:Fun K "law" "law" Gk f fd) (g_begun:FU Gi P w K mg base) (g_row:LA EQ P w K mg base) (g_tries:Dc Vu P w K mg base) (g_curls:Dp Uo P w K mg base) (g_copy:HE DX P w K mg base) (g_mark:C4 Jp P w K mg base) (g_parted:V3 YC P w K mg base) (g_refused:UK ZS P w K mg base) (Y:Ecs Xq K mg) (Z:Blt mg),FnOk P w K mg base CX0 10 f fd ["_law_script"] (sp1 (rL Xd) (oF XN) m K)}:=⟨_, @λP w K mg base f fd D g_begun g_row g_tries g_curls g_copy g_mark g_parted g_refused Y Z=>goL D YS 12 1 rfl rfl λhr hu hu1=>⟨_,(Xb (Xk (i:=1) YS.nd rfl (Or.inl rfl) (Yg g_begun hr (by decide) (Xa (pv 0) (Xa Xg Xc))))
  (Xb (Xk (i:=2) YS.nd rfl (Or.inl rfl) (Yg g_begun hr (by decide) (Xa (pv 0) (Xa Xg Xc))))
  (Xb (Xk (i:=3) YS.nd rfl (Or.inl rfl) (Yg g_row hr (by decide) (Xa (pv 0) (Xa Xg (Xa (Xt (Xa Xg (Xa Xg (Xa Xg (Xa (Xr UT Xg Xg) (Xa Xg (Xa Xg Xc))))))) Xc XJ)))))
  (Xb (KY PassesOwn.never (Xs Gj (Xm (Xj K rfl) rfl Z.b_len PySem.boot_len (Xa (QT K (pv 1) Xg) Xc)) (Xm (GB rfl) rfl Z.b_min PyProof.Rows.boot_min (Xa (XS K (pv 3) Xg) (Xa Xg Xc))) (Xw _))
   (Xb (XC (Y8 PySem.F.plainAttrs_list PySem.F.slot_list_append PySem.F.type_list_append XI (QT K (pv 1) Xg) (Xa (Xt Xc) Xc XJ)))
   Xe))
  (Xb (Xk (i:=4) YS.nd rfl (Or.inl rfl) (Xr XO Xg (XS K (pv 3) Xg)))
  (Xb (Yh (Xs QR (XS K (pv 3) Xg) Xg (Xw _))
   (Xb (Xk (i:=4) YS.nd rfl (Or.inl rfl) (Xr XO Xg (Xr UT (XS K (pv 3) Xg) Xg)))
   Xe)
   Xe)
  (Xb (Yh (Xs QR (XS K (pv 3) Xg) Xg (Xw _))
   (Xb (Xk (i:=1) YS.nd rfl (Or.inl rfl) (Yz (Xa (Xt Xc) (Xa (Xt Xc) Xc XJ) XJ)))
   Xe)
   Xe)
  (Xb (Yh (Xs QR (XS K (pv 3) Xg) Xg (Xw _))
   (Xb (Xk (i:=1) YS.nd rfl (Or.inl rfl) (Yg g_curls hr (by decide) (Xa Xg (Xa (Xr XO Xg (XS K (pv 3) Xg)) Xc))))
   (Xb (Xk (i:=2) YS.nd rfl (Or.inl rfl) (Yz (Xa (Xt Xc) (Xa (Xt Xc) Xc XJ) XJ)))
   (Xb (Xk (i:=4) YS.nd rfl (Or.inl rfl) Xg)
   Xe)))
   Xe)
  (Xb (Xk (i:=5) YS.nd rfl (Or.inl rfl) (Xt (Xa (Yg g_copy hr (by decide) (Xa (pv 1) Xc)) (Xa (Yg g_copy hr (by decide) (Xa (pv 2) Xc)) Xc))))
  (Xb (Xk (i:=6) YS.nd rfl (Or.inl rfl) (Yg g_tries hr (by decide) (Xa (pv 1) (Xa (pv 4) Xc))))
  (Xb (Xk (i:=7) YS.nd rfl (Or.inl rfl) (Yg g_tries hr (by decide) (Xa (pv 2) (Xa (pv 4) Xc))))
  (Xb (Yh (Xs VR (pv 4) Xg (Xw _))
   (Xb (Xk (i:=8) YS.nd rfl (Or.inl rfl) (Xr GN (Xt (Xa (Xt (Xa VT (Xa VT Xc))) Xc XJ)) Xg))
   Xe)
   (Xb (Xk (i:=9) YS.nd rfl (Or.inl rfl) (Xm (Qn rfl) rfl Z.b_max PyProof.Rows.boot_max (Xa (pv 6) (Xa (pv 7) Xc))))
   (Xb (Xk (i:=8) YS.nd rfl (Or.inl rfl) (Xt (Xa (Xt (Xa VT (Xa (Qb VR (pv 6) Xg (Xw _)) Xc))) (Xa (Xt (Xa VT (Xa (Qb VR (pv 9) Xg (Xw _)) Xc))) (Xa (Xt (Xa VT (Xa (Qb VR (pv 9) Xg (Xw _)) Xc))) Xc XJ) XJ) XJ)))
   Xe)))
  (Xb (Xk (i:=10) YS.nd rfl (Or.inl rfl) (Xt (Xa (pv 6) (Xa (Xm (Qn rfl) rfl Z.b_max PyProof.Rows.boot_max (Xa (pv 6) (Xa (pv 7) Xc))) (Xa (Xm (Qn rfl) rfl Z.b_max PyProof.Rows.boot_max (Xa (pv 6) (Xa (pv 7) Xc))) Xc)))))
  (Xb (XG PassesOwn.never rfl (Xy rfl Z.b_range (Xa Xg Xc)) (Xi (i:=11) YS.nd rfl (Or.inl rfl))
   (Xb (Xk (i:=12) YS.nd rfl (Or.inl rfl) (Mf (Qb QR (pv 4) Xg (Xw _)) (Ma (Qb QR (XS K (pv 10) (pv 11)) Xg (Xw _)))))
   (Xb (Yh (PW.pt (Ll (Xs VR (pv 4) Xg (Xw _)) (Ll (Xs R6 (XS K (pv 10) (pv 11)) Xg (Xw _)) (Ll (Xs VR (XS K (pv 10) (pv 11)) Xg (Xw _)) (L9 (Kj (pv 12)))))))
    (Xb (Yh (Xs (HB K rfl (NM Sq) (LH (by decide) hu)) (Yg g_refused hr (by decide) (Xa (pv 11) (Xa (XS K (pv 5) Xg) (Xa (XS K (pv 5) Xg) (Xa (pv 4) Xc))))) (XS K (pv 8) (pv 11)) (Xw _))
     (Xb (Xx VT)
     Xe)
     Xe)
    Xe)
    Xe)
   Xe)))
  (Xb (Yh (PW.pt (Ll (Xs (HB K rfl (NM eq_int) (LH (by decide) hu)) (Yp g_mark hr (by decide) Ry (Xa (XS K (pv 5) Xg) (Xa Xg Xc))) (Xt (Xa Xg Xc)) (Xw _)) (L9 (Xs FD (Yp g_parted hr (by decide) Ry (Xa (XS K (pv 5) Xg) (Xa (XS K (pv 5) Xg) (Xa Xg Xc)))) Z1 (Xw _)))))
   (Xb (Xx VT)
   Xe)
   Xe)
  (Xb (Xx (Qb (NJ K rfl (NM (Rz (NM (NM eq_int)) (NM (Rz eq_int eq_int)))) (LH (by decide) hu)) (pv 5) (Xt (Xa (pv 1) (Xa (pv 2) Xc))) (Xw _)))
  Xe)))))))))))))))),λv_0 a_0=>(Y9 K 0 qN λa1 v2 C3=>(YQ K qS λa7 v8=>(YQ K qS λa12 v13=>(Mr (λO (x33:V×List Xo)=>[x33.2]) (λs x33=>[some v_0,some x33.1,some v8,some v13,none,none,none,none,none,none,none,none,none]) (λS (g34:((List (List Int))×(List (Int×Int)))) x33=>(SC.addO S K (oT2 (oL (oL (oF Xd))) (oL (oF (rP2 Xd Xd)))) x33.1 g34 x33.2)) (20) (v2,C3) (a1) rfl rfl (λ_ s=>(SC.i s s.l.l.r)) (λg35 x36=>(qt K)) (λg35 x36=>(Iw (K:=K) (o:=(oL (oF Xd))) (q:=(oL (oF (rP2 Xd Xd)))) (f:=λa45=>(Rs.ok (a45))) 1 0 rfl rfl (λ_ s=>s.r) (Zi (o:=(oF Xd))) λa45 C46=>(Yc (x36.1,C46) (a45) rfl rfl))) λg48 x49=>(YQ K qS λa50 v51=>(Qh (λO (x61:V)=>[x49.2]) (λs x61=>[some v_0,some x49.1,some v8,some v13,some x61,none,none,none,none,none,none,none,none]) (λS (g62:Int) x61=>(SC.add S K Xd x61 g62)) (Yu (qt K) (YQ K qS λa63 v64=>(Yc (v64) (a63) rfl rfl)) (Yc (v51) (a50) rfl rfl)) λg72 x71=>(Qh (λO (x78:V×List Xo)=>[x78.2]) (λs x78=>[some v_0,some x78.1,some v8,some v13,some x71,none,none,none,none,none,none,none,none]) (λS (g79:((List (List Int))×(List (Int×Int)))) x78=>(SC.addO S K (oT2 (oL (oL (oF Xd))) (oL (oF (rP2 Xd Xd)))) x78.1 g79 x78.2)) (Yu (qt K) (Y9 K (o:=(oT2 (oL (oL (oF Xd))) (oL (oF (rP2 Xd Xd))))) 0 (Js (Zi (o:=(oL (oF Xd)))) λ_=>(Zi (o:=(oF (rP2 Xd Xd))))) λa80 v81 C82=>(Yc (v81,C82) (a80) rfl rfl)) (Yc (x49.1,x49.2) (g48) rfl rfl)) λg86 x85=>(Qh (λO (x92:V×V×V×List Xo)=>[x92.2.2.2]) (λs x92=>[some v_0,some x92.1,some x92.2.1,some v13,some x92.2.2.1,none,none,none,none,none,none,none,none]) (λS (g93:((List (List Int))×(List (Int×Int)))×((List (List Int))×(List (Int×Int)))×Int) x92=>(SC.add (SC.add (SC.addO S K (oT2 (oL (oL (oF Xd))) (oL (oF (rP2 Xd Xd)))) x92.1 g93.1 x92.2.2.2) K (rP2 (rV (rV Xd)) (rV (rP2 Xd Xd))) x92.2.1 g93.2.1) K Xd x92.2.2.1 g93.2.2)) (Yu (qt K) (Y9 K 0 qN λa94 v95 C96=>(YQ K (r:=(rP2 (rV (rV Xd)) (rV (rP2 Xd Xd)))) (V7 (Ev.sh (o:=(oL (oL (oF Xd)))) Zi) (Ev.sh (o:=(oL (oF (rP2 Xd Xd)))) Zi)) λa104 v105=>(YQ K qS λa106 v107=>(Yc (v95,v105,v107,C96) (a94,a104,a106) rfl rfl)))) (Yc (x85.1,v8,x71,x85.2) (g86,a7,g72) rfl rfl)) λg109 x108=>(H9 (K:=K) (o:=(oT2 (oL (oL (oF Xd))) (oL (oF (rP2 Xd Xd))))) 0 rfl (λ_ s=>s.l.l.r) (YQ K (r:=(rV (rP2 (rV (rV Xd)) (rV (rP2 Xd Xd))))) (Ev.sh (QL (X6 qN λ_=>(X6 qN λ_=>Zn)))) λa110 v111=>(YQ K qS λa121 v122=>(YQ K qS λa126 v127=>(Qh (λO (x134:V×Option V)=>[[]]) (λs x134=>[some v_0,some x108.1,some x108.2.1,some v13,some x108.2.2.1,some v111,some v122,some v127,some x134.1,x134.2,none,none,none]) (λS (g135:(List (List Bool))) x134=>(SC.add S K (rV (rV XN)) x134.1 g135)) (Yu (qt K) (YQ K (r:=(rV (rV XN))) (Ev.sh (LR (EvS.ls (Ev.sh (QL (X6 qN λ_=>Zn)))) qB)) λa136 v137=>(Yc (v137,(none)) (a136) rfl rfl)) (YQ K qS λa148 v149=>(YQ K (r:=(rV (rV XN))) (Ev.sh (QL (X6 qN λ_=>(X6 qN λ_=>(X6 qN λ_=>Zn))))) λa152 v153=>(Yc (v153,(some v149)) (a152) rfl rfl)))) λg183 x182=>(YQ K qS λa184 v185=>(Da K (λO (x198:Option V×Option V)=>[[]]) (λs x198=>[some v_0,some x108.1,some x108.2.1,some v13,some x108.2.2.1,some v111,some v122,some v127,some x182.1,x182.2,some v185,x198.1,x198.2]) (λS (g199:Unit) x198=>S) (λ_=>tg1 11) ((none),(none)) () qw rfl rfl (λ_ s=>s) (λg200 x201 a202 v203=>(YQ K qS λa204 v205=>(Rw (λO (x223:Unit)=>[[]]) (λs x223=>[some v_0,some x108.1,some x108.2.1,some v13,some x108.2.2.1,some v111,some v122,some v127,some x182.1,x182.2,some v185,some v203,some v205]) (λS (g224:Unit) x223=>S) (Yu (qt K) (Q0 (qt K) (Xz qM) (Za (Yc () () rfl rfl))) (Za (Yc () () rfl rfl))) λg243 x242=>(Za (Yc ((some v203),(some v205)) () rfl rfl))))) λg245 x246=>(LW (L6 (XY (K:=K) (Ik (Ev.toB (BV qB qB)) qB)) (XY (K:=K) (Kv (tb:=tC .non) (Ev.toB (Ey qB qB qB))))) (Xz qM) (Xz (EvS.ev (EvB.sh (B8 qB (Ev.toB (QL (X6 qM λ_=>(X6 qM λ_=>Zn))))))))))))))))))))))))⟩⟩
noncomputable def E6:=MV.1
end My
namespace L2
open PySem
section
variable {α β γ ρ:Type}
theorem Rs.okb (a:α)(f:α->Rs β):(Rs.ok a).bind f=f a:=(Eq.refl (f a)).symm.symm
theorem Dq {f:α->Rs β}{h:α->β}:∀{as:List α},(∀a∈as,f a= .ok (h a))->BI as f= .ok (as.map h)
 | [],_=>rfl
 |a::as,hf=>by
  show(f a).bind _=_
  rw[hf a (by simp),Rs.ok_bind,Dq λb hb=>hf b (by simp[hb])];rfl
theorem Qt {f:α->Rs β}{h:α->β}{as:List α}(hl:as.length<=sizeLine)(hf:∀a∈as,f a= .ok (h a)):Ed as f= .ok (as.map h):=by
 unfold Ed;rw[Xl hl];exact Dq hf
theorem Hi {c:α->Rs Bool}{f:α->Rs β}{p:α->Bool}{h:α->β}:∀{as:List α},(∀a∈as,c a= .ok (p a))->(∀a∈as,p a=true->f a= .ok (h a))->UR as c f= .ok ((as.filter p).map h)
 | [],_,_=>rfl
 |a::as,hc,hf=>by
  show(c a).bind _=_
  rw[hc a (by simp),Rs.ok_bind]
  have ih:=Hi (as:=as) (λb hb=>hc b (by simp[hb])) λb hb=>hf b (by simp[hb])
  cases hp:p a with
  |false=>rw[if_neg (by simp),ih,List.filter_cons,hp];rfl
  |true=>rw[if_pos rfl,hf a (by simp) hp,Rs.ok_bind,ih,List.filter_cons,hp];rfl
theorem Hm {c:α->Rs Bool}{f:α->Rs β}{p:α->Bool}{h:α->β}{as:List α}(hl:as.length<=sizeLine)(hc:∀a∈as,c a= .ok (p a))(hf:∀a∈as,p a=true->f a= .ok (h a)):O8 as c f= .ok ((as.filter p).map h):=by
 unfold O8;rw[Xl hl];exact Hi hc hf
theorem GM {f:γ->α->Rs γ}(P:Nat->γ->Prop):∀(as:List α) (k:Nat) (g:γ),P k g->(∀i a g,as[i]?=some a->P (k+i) g->∃g',f g a= .ok g'/\P (k+i+1) g')->∃g',forN as g f= .ok g'/\P (k+as.length) g'
 | [],k,g,h0,_=>⟨g,rfl,h0⟩
 |a::as,k,g,h0,hs=>by
  obtain⟨g1,e1,p1⟩:=hs 0 a g rfl h0
  obtain⟨g2,e2,p2⟩:=GM P as (k+1) g1 p1 λi b g hb hp=>by
   obtain⟨g',e',p'⟩:=hs (i+1) b g (by simpa using hb) (by rw[show k+(i+1)=k+1+i by omega];exact hp)
   exact⟨g',e',by rw[show k+1+i+1=k+(i+1)+1 by omega];exact p'⟩
  refine⟨g2,?_,by rw[List.length_cons,show k+(as.length+1)=k+1+as.length by omega];exact p2⟩
  show(f g a).bind _=_
  rw[e1,Rs.ok_bind];exact e2
theorem KI {f:γ->α->Rs γ}(P:Nat->γ->Prop){as:List α}{g:γ}(h0:P 0 g)(hs:∀i a g,as[i]?=some a->P i g->∃g',f g a= .ok g'/\P (i+1) g'):∃g',forN as g f= .ok g'/\P as.length g':=by
 have:=GM P as 0 g h0 (by simpa using hs)
 simpa using this
theorem Uk {f:List β->α->Rs (List β)}{h:α->β}:∀{as:List α}{g:List β},g.length+as.length<=sizeLine->(∀g:List β,g.length<sizeLine->∀a∈as,f g a= .ok (g++[h a]))->forN as g f= .ok (g++as.map h)
 | [],g,_,_=>by simp[forN]
 |a::as,g,hl,hf=>by
  show(f g a).bind _=_
  rw[List.length_cons] at hl
  rw[hf g (by omega) a (by simp),Rs.ok_bind,Uk (by simp;omega) λg hg b hb=>hf g hg b (by simp[hb])]
  simp
theorem CK {f:γ->α->Rs (Ctl ρ γ)}:∀{as:List α}{g:γ},(∀a∈as,f g a= .ok (.nx g))->Kk as g f= .ok (.nx g)
 | [],_,_=>rfl
 |a::as,g,hf=>by
  show(f g a).bind _=_
  rw[hf a (by simp),Rs.ok_bind]
  exact CK λb hb=>hf b (by simp[hb])
theorem Zx {a b:Int}(h:0<b):Pf a b= .ok (a % b):=Xl h
theorem Ja {a b:Int}(h1: -(2^64)<a)(h2:a<2^64):Mp a b= .ok (a*b):=Xl (.inl ⟨h1,h2⟩)
theorem Jh {a b:Int}(h1: -(2^64)<b)(h2:b<2^64):Mp a b= .ok (a*b):=Xl (.inr ⟨h1,h2⟩)
theorem ES {a b:Int}(h:0<b)(h2:b<2^250):R0 a b= .ok (a/b):=Xl ⟨h,by
 have h3:b.natAbs<2^250:=by omega
 rcases Nat.eq_zero_or_pos b.natAbs with h0 |h0
 ·omega
 ·have:=(Nat.log2_lt (by omega)).mpr h3
  omega⟩
theorem Kh {a b:Int}(h0:0<=b)(h1:b<=1000000)(h2: -(2^64)<a)(h3:a<2^64):RO a b= .ok (a^b.toNat):=Xl ⟨h0,h1,by omega⟩
theorem YO {as:List α}{i:Nat}{a:α}(h:as[i]?=some a):atR as (i:Int)= .ok a:=by
 have hlt:=(List.getElem?_eq_some_iff.mp h).1
 unfold atR atI ixN
 rw[if_pos (by omega),if_pos (by omega)]
 simp[h]
theorem Pd {as:List α}{i:Int}{a:α}(h0:0<=i)(h:as[i.toNat]?=some a):atR as i= .ok a:=by
 have:i=(i.toNat:Int):=by omega
 rw[this];exact YO h
theorem ZJ {n:Nat}(h:n<2^62):Bd 0 (n:Int)= .ok ((List.range n).map λ(i:Nat)=>(i:Int)):=by
 unfold Bd
 rw[Xl (by omega)]
 unfold Us
 congr 1
 rw[Int.sub_zero,Int.toNat_natCast]
 exact List.map_congr_left λi _=>by omega
theorem YJ {n i:Nat}{a:Int}(h:((List.range n).map λ(i:Nat)=>(i:Int))[i]?=some a):a=(i:Int)/\i<n:=by
 have hlt:=(List.getElem?_eq_some_iff.mp h).1
 simp only[List.length_map,List.length_range] at hlt
 rw[List.getElem?_map,List.getElem?_range hlt] at h
 exact⟨(Option.some.inj h).symm,hlt⟩
theorem UG {n:Nat}{a:Int}(h:a∈(List.range n).map λ(i:Nat)=>(i:Int)):∃i:Nat,i<n/\a=(i:Int):=by
 obtain⟨i,hi,rfl⟩:=List.mem_map.mp h
 exact⟨i,List.mem_range.mp hi,rfl⟩
theorem Yw {n:Nat}:((List.range n).map λ(i:Nat)=>(i:Int)).length=n:=by simp
theorem Md {a:Bool}{b:Rs Bool}{c:Bool}(h:a=true->b= .ok c):OQ (.ok a) b= .ok (a&&c):=by
 cases a with
 |false=>rfl
 |true=>
  show(if true=true then b else Rs.ok false)=_
  rw[if_pos rfl,h rfl];rfl
theorem RN {a:Bool}{b:Rs Bool}{c:Bool}(h:a=false->b= .ok c):orR (.ok a) b= .ok (a || c):=by
 cases a with
 |true=>rfl
 |false=>
  show(if false=true then Rs.ok true else b)=_
  rw[if_neg Bool.false_ne_true,h rfl];rfl
theorem sz {n:Nat}(h:n<=100000):n<=sizeLine:=Nat.le_trans h (by decide)
theorem BD {n:Nat}(h:n<=100000):n<sizeLine:=Nat.lt_of_le_of_lt h (by decide)
noncomputable def Ok (m:Rs β)(R:β->Prop):Prop:=∃ r,m= .ok r/\R r
theorem Ok.bind {m:Rs α}{f:α->Rs β}{R:α->Prop}{T:β->Prop}(h:Ok m R)(hf:∀a,R a->Ok (f a) T):Ok (m.bind f) T:=by
 obtain⟨a,e,ha⟩:=h
 rw[e];exact hf a ha
theorem Ok.imp {m:Rs α}{R T:α->Prop}(h:Ok m R)(hf:∀a,R a->T a):Ok m T:=by
 obtain⟨a,e,ha⟩:=h
 exact⟨a,e,hf a ha⟩
theorem Ok.noE {m:Rs α}{R:α->Prop}(h:Ok m R):Ok (noE m) R:=by
 obtain⟨a,e,ha⟩:=h
 rw[e];exact⟨a,rfl,ha⟩
theorem Ok.ite {b:Bool}{m n:Rs α}{R:α->Prop}(h1:b=true->Ok m R)(h2:b=false->Ok n R):Ok (if b=true then m else n) R:=by
 cases b with
 |true=>rw[if_pos rfl];exact h1 rfl
 |false=>rw[if_neg Bool.false_ne_true];exact h2 rfl
theorem Ok.forN {f:γ->α->Rs γ}(P:Nat->γ->Prop){as:List α}{g:γ}(h0:P 0 g)(hs:∀i a g,as[i]?=some a->P i g->Ok (f g a) (P (i+1))):Ok (forN as g f) (P as.length):=KI P h0 hs
theorem Ix {f:γ->Rs ρ}(g:γ):Ve f (.nx g)=f g:=(Eq.refl (f g)).symm.symm
theorem Ec {f:γ->Rs ρ}(r:ρ):Ve f (.ret r)= .ok r:=(Eq.refl (Rs.ok r)).symm.symm
theorem Ya (a:α):noE (Rs.ok a)= .ok a:=(Eq.refl (Rs.ok a)).symm.symm
theorem Ok.of {m:Rs α}{a:α}(h:m= .ok a):Ok m (λb=>b=a):=⟨a,h,rfl⟩
theorem Ok.eq {m:Rs α}{a:α}(h:Ok m (λb=>b=a)):m= .ok a:=by
 obtain⟨b,e,rfl⟩:=h
 exact e
end
end L2
namespace My
noncomputable def GF (n:Nat)(f:Nat->Nat->Nat)(a:Nat):List Int:=(List.range n).map λb=>(f a b:Int)
noncomputable def Vw (n:Nat)(f:Nat->Nat->Nat):List (List Int):=(List.range n).map (GF n f)
theorem G1 (n:Nat)(f:Nat->Nat->Nat)(a:Nat):(GF n f a).length=n:=by simp[GF]
theorem Jf (n:Nat)(f:Nat->Nat->Nat):(Vw n f).length=n:=by simp[Vw]
theorem G0 {n:Nat}{f:Nat->Nat->Nat}{a b:Nat}(h:b<n):(GF n f a)[b]?=some (f a b:Int):=by
 unfold GF;rw[List.getElem?_map,List.getElem?_range h];rfl
theorem Fa {n:Nat}{f:Nat->Nat->Nat}{a:Nat}(h:a<n):(Vw n f)[a]?=some (GF n f a):=by
 unfold Vw;rw[List.getElem?_map,List.getElem?_range h];rfl
end My
namespace My
open PySem L2
theorem PH {n:Nat}{f:Nat->Nat->Nat}{a:Nat}(h:a<n):atR (Vw n f) (a:Int)= .ok (GF n f a):=YO (Fa h)
theorem P9 {n:Nat}{f:Nat->Nat->Nat}{a b:Nat}(h:b<n):atR (GF n f a) (b:Int)= .ok (f a b:Int):=YO (G0 h)
theorem KW {α:Type}{as:List α}{i:Nat}{a:α}(h:i<as.length):Bi as (i:Int) a= .ok (as.set i a):=by
 unfold Bi ixN
 rw[if_pos (by omega),if_pos (by omega)]
 simp
theorem Rh {as:List Int}{i:Nat}(h:i<as.length)(hl:as.length<=100000):LJ as (i:Int)= .ok (as[i],as.eraseIdx i):=by
 unfold LJ
 rw[Xl (by omega)]
 have e:seqIndex? (i:Int) as.length=some i:=by
  unfold seqIndex?
  have h0:¬((i:Int)<0):=by omega
  simp[h0,h]
 rw[e]
 simp[h]
end My
namespace My
theorem Q9 (names:List Int):(names.flatMap λx=>[x,-x]).length=2*names.length:=by
 induction names with
 |nil=>rfl
 |cons x r ih=>rw[List.flatMap_cons,List.length_append,ih];simp;omega
theorem Fz (n:Nat):(List.replicate n ([]:List Int)).flatten=[]:=by
 induction n with
 |zero=>rfl
 |succ n ih=>rw[List.replicate_succ,List.flatten_cons,ih];rfl
theorem Vv {α:Type}:∀{l:List α}{k:Nat}{y:α},l[k]?=some y->(y::l.eraseIdx k).Perm l
 | [],_,_,e=>by simp at e
 |a::r,0,y,e=>by
  have e':a=y:=by simpa using e
  subst e';exact List.Perm.refl _
 |a::r,k+1,y,e=>by
  have e':r[k]?=some y:=by simpa using e
  show(y::a::r.eraseIdx k).Perm (a::r)
  exact(List.Perm.swap a y _).trans (List.Perm.cons a (Vv e'))
theorem GE {α:Type}{l:List α}{k:Nat}{y:α}(e:l[k]?=some y):(l.eraseIdx k).length+1=l.length:=by
 have:=(Vv e).length_eq
 simpa using this
theorem Ck {α:Type}:∀{ws:List (List α)}{j:Nat}{w:List α}{y:α},ws[j]?=some w->((ws.set j (w++[y])).flatten).Perm (y::ws.flatten)
 | [],_,_,_,e=>by simp at e
 |a::r,0,w,y,e=>by
  have e':a=w:=by simpa using e
  subst e'
  show((a++[y])++r.flatten).Perm (y::(a++r.flatten))
  rw[List.append_assoc]
  exact List.perm_middle
 |a::r,j+1,w,y,e=>by
  have e':r[j]?=some w:=by simpa using e
  show(a++(r.set j (w++[y])).flatten).Perm (y::(a++r.flatten))
  exact(List.Perm.append_left a (Ck e')).trans List.perm_middle
theorem HR {α:Type}{ws:List (List α)}{j k:Nat}{w l:List α}{y:α}(e:ws[j]?=some w)(e3:l[k]?=some y):((ws.set j (w++[y])).flatten++l.eraseIdx k).Perm (ws.flatten++l):=by
 refine((Ck (y:=y) e).append_right _).trans ?_
 rw[List.cons_append]
 refine List.perm_middle.symm.trans ?_
 exact List.Perm.append_left _ (Vv e3)
theorem mem_set {α:Type}:∀{l:List α}{j:Nat}{v x:α},x∈l.set j v->x∈l∨x=v
 | [],_,_,_,h=>by simp at h
 |a::r,0,v,x,h=>by
  rw[List.set_cons_zero] at h
  rcases List.mem_cons.mp h with h |h
  ·exact .inr h
  ·exact .inl (List.mem_cons_of_mem _ h)
 |a::r,j+1,v,x,h=>by
  rw[List.set_cons_succ] at h
  rcases List.mem_cons.mp h with h |h
  ·exact .inl (by rw[h];exact List.mem_cons_self)
  ·rcases mem_set h with h |h
   ·exact .inl (List.mem_cons_of_mem _ h)
   ·exact .inr h
theorem Fe:∀{l:List Bool}{j:Nat},l[j]?=some false->(l.set j true).count false+1=l.count false
 | [],_,e=>by simp at e
 |a::r,0,e=>by
  have e':a=false:=by simpa using e
  subst e';simp
 |a::r,j+1,e=>by
  have e':r[j]?=some false:=by simpa using e
  have ih:=Fe e'
  rw[List.set_cons_succ,List.count_cons,List.count_cons]
  omega
end My
namespace My
noncomputable def Fy (r:Int×Int)(at':Int):List Int:=if at'=r.1 then[r.2] else if at'=r.1+1 then[-r.2] else[]
noncomputable def U2 (r:Int×Int)(at':Int):Int:=if at'=r.1 then r.1+1 else if at'=r.1+1 then r.1 else at'
noncomputable def II:List (Int×Int)->Int->Int
 | [],a=>a
 |r::rs,a=>II rs (U2 r a)
noncomputable def Fm:List (Int×Int)->Int->List Int
 | [],_=>[]
 |r::rs,a=>Fy r a++Fm rs (U2 r a)
theorem Ei (rs:List (Int×Int))(r:Int×Int):∀a,II (rs++[r]) a=U2 r (II rs a):=by
 induction rs with
 |nil=>intro a;rfl
 |cons q rs ih=>intro a;exact ih _
theorem Hj (rs:List (Int×Int))(r:Int×Int):∀a,Fm (rs++[r]) a=Fm rs a++Fy r (II rs a):=by
 induction rs with
 |nil=>intro a;simp[Fm,II]
 |cons q rs ih=>intro a;simp[Fm,II,ih]
theorem Fp {S:Int}{r:Int×Int}{a:Int}(h0:0<=r.1)(h1:r.1+1<S)(a0:0<=a)(a1:a<S):0<=U2 r a/\U2 r a<S:=by
 unfold U2
 split
 ·omega
 ·split<;> omega
noncomputable def BH (S:Nat):List Int:=(List.range S).map λ(k:Nat)=>(k:Int)
theorem Jy {S:Nat}{x:Int}:x∈BH S↔0<=x/\x<(S:Int):=by
 unfold BH
 rw[List.mem_map]
 constructor
 ·rintro⟨k,hk,rfl⟩
  have:=List.mem_range.mp hk
  omega
 ·rintro⟨h0,h1⟩
  exact⟨x.toNat,List.mem_range.mpr (by omega),by omega⟩
theorem QD {α β:Type}{f:α->β}:∀{l:List α},(∀a b,a∈l->b∈l->f a=f b->a=b)->l.Nodup->(l.map f).Nodup
 | [],_,_=>List.nodup_nil
 |a::r,h,nd=>by
  rw[List.map_cons,List.nodup_cons]
  refine⟨λm=>?_,QD (λx y hx hy=>h x y (List.mem_cons_of_mem _ hx) (List.mem_cons_of_mem _ hy)) (List.nodup_cons.mp nd).2⟩
  obtain⟨b,hb,e⟩:=List.mem_map.mp m
  have:=h b a (List.mem_cons_of_mem _ hb) List.mem_cons_self e
  exact(List.nodup_cons.mp nd).1 (by rw[←this];exact hb)
theorem Jv (S:Nat):(BH S).Nodup:=QD (λa b _ _ e=>by omega) List.nodup_range
theorem Vr {α:Type}[DecidableEq α]:∀{l m:List α},l.Nodup->m.Nodup->(∀x,x∈l↔x∈m)->l.Perm m
 | [],m,_,_,h=>by
  cases m with
  |nil=>exact List.Perm.refl _
  |cons a r=>exact absurd ((h a).mpr List.mem_cons_self) (by simp)
 |a::r,m,nl,nm,h=>by
  have ha:a∈m:=(h a).mp List.mem_cons_self
  have hp:m.Perm (a::m.erase a):=List.perm_cons_erase ha
  refine List.Perm.trans (List.Perm.cons a ?_) hp.symm
  have nd2:(a::m.erase a).Nodup:=hp.nodup_iff.mp nm
  refine Vr (List.nodup_cons.mp nl).2 (List.nodup_cons.mp nd2).2 λx=>?_
  constructor
  ·intro hx
   have hxa:x≠a:=λe=>(List.nodup_cons.mp nl).1 (by rw[←e];exact hx)
   have:x∈a::m.erase a:=hp.mem_iff.mp ((h x).mp (List.mem_cons_of_mem _ hx))
   exact(List.mem_cons.mp this).resolve_left hxa
  ·intro hx
   have hxa:x≠a:=λe=>(List.nodup_cons.mp nd2).1 (e▸hx)
   have:x∈a::r:=(h x).mpr (hp.mem_iff.mpr (List.mem_cons_of_mem _ hx))
   exact(List.mem_cons.mp this).resolve_left hxa
theorem EK {S:Nat}{r:Int×Int}(h0:0<=r.1)(h1:r.1+1<(S:Int)):((BH S).map (U2 r)).Perm (BH S):=by
 refine Vr (QD (λa b _ _ e=>?_) (Jv S)) (Jv S) λx=>?_
 ·unfold U2 at e
  split at e<;> split at e<;> (try split at e)<;> (try split at e)<;> omega
 ·rw[List.mem_map,Jy]
  constructor
  ·rintro⟨a,ha,rfl⟩
   have:=Jy.mp ha
   exact Fp h0 h1 this.1 this.2
  ·rintro⟨x0,x1⟩
   refine⟨U2 r x,Jy.mpr (Fp h0 h1 x0 x1),?_⟩
   unfold U2
   split<;> (try split)<;> (try split)<;> omega
theorem Q1 {α β:Type}(f:α->List β){l m:List α}(h:l.Perm m):(l.flatMap f).Perm (m.flatMap f):=by
 induction h with
 |nil=>exact List.Perm.refl _
 |cons x _ ih=>rw[List.flatMap_cons,List.flatMap_cons];exact List.Perm.append_left _ ih
 |swap x y l=>
  rw[List.flatMap_cons,List.flatMap_cons,List.flatMap_cons,List.flatMap_cons, ←List.append_assoc, ←List.append_assoc]
  exact List.Perm.append_right _ List.perm_append_comm
 |trans _ _ ih1 ih2=>exact ih1.trans ih2
theorem Uq {α β:Type}(f g:α->List β):∀l:List α,(l.flatMap λx=>f x++g x).Perm (l.flatMap f++l.flatMap g)
 | []=>List.Perm.refl _
 |a::r=>by
  rw[List.flatMap_cons,List.flatMap_cons,List.flatMap_cons]
  refine(List.Perm.append_left _ (Uq f g r)).trans ?_
  rw[List.append_assoc,List.append_assoc]
  refine List.Perm.append_left _ ?_
  rw[←List.append_assoc, ←List.append_assoc]
  exact List.Perm.append_right _ List.perm_append_comm
theorem flatMap_nil {α β:Type}(f:α->List β):∀{l:List α},(∀x∈l,f x=[])->l.flatMap f=[]
 | [],_=>rfl
 |a::r,h=>by rw[List.flatMap_cons,h a List.mem_cons_self,flatMap_nil f λx hx=>h x (List.mem_cons_of_mem _ hx)];rfl
theorem Lu {S:Nat}{r:Int×Int}(h0:0<=r.1)(h1:r.1+1<(S:Int)):((BH S).flatMap (Fy r)).Perm [r.2,-r.2]:=by
 have ha:r.1∈BH S:=Jy.mpr ⟨h0,by omega⟩
 have hp:=List.perm_cons_erase ha
 have nd:=hp.nodup_iff.mp (Jv S)
 have hb:r.1+1∈(BH S).erase r.1:=by
  have:r.1+1∈r.1::(BH S).erase r.1:=hp.mem_iff.mp (Jy.mpr ⟨by omega,h1⟩)
  exact(List.mem_cons.mp this).resolve_left (by omega)
 have hq:=List.perm_cons_erase hb
 have nd2:=hq.nodup_iff.mp (List.nodup_cons.mp nd).2
 refine(Q1 _ (hp.trans (List.Perm.cons _ hq))).trans ?_
 rw[List.flatMap_cons,List.flatMap_cons,flatMap_nil]
 ·unfold Fy
  rw[if_pos rfl,if_neg (by omega),if_pos rfl]
  exact List.Perm.refl _
 ·intro x hx
  have x2:x≠r.1+1:=λe=>(List.nodup_cons.mp nd2).1 (e▸hx)
  have x1:x≠r.1:=λe=>(List.nodup_cons.mp nd).1 (e▸hq.mem_iff.mpr (List.mem_cons_of_mem _ hx))
  unfold Fy
  rw[if_neg x1,if_neg x2]
theorem QC {α β γ:Type}(f:α->β)(g:β->List γ)(l:List α):(l.map f).flatMap g=l.flatMap λx=>g (f x):=by
 induction l with
 |nil=>rfl
 |cons a r ih=>rw[List.map_cons,List.flatMap_cons,List.flatMap_cons,ih]
theorem DV {S:Nat}:∀{rs:List (Int×Int)},(∀r∈rs,0<=r.1/\r.1+1<(S:Int))->((BH S).flatMap (Fm rs)).Perm (rs.flatMap λr=>[r.2,-r.2])
 | [],_=>by rw[flatMap_nil (Fm []) (λx _=>rfl)];exact List.Perm.refl _
 |r::rs,h=>by
  obtain⟨h0,h1⟩:=h r List.mem_cons_self
  rw[List.flatMap_cons]
  refine(Uq (Fy r) (λa=>Fm rs (U2 r a)) (BH S)).trans ?_
  refine List.Perm.append (Lu h0 h1) ?_
  rw[←QC (U2 r) (Fm rs)]
  exact(Q1 _ (EK h0 h1)).trans (DV λq hq=>h q (List.mem_cons_of_mem _ hq))
theorem NR {x s:Int}(h:s=1∨s= -1): [x*s,-(x*s)].Perm [x,-x]:=by
 rcases h with h |h
 ·subst h;simp
 ·subst h
  have e1:x* -1= -x:=by omega
  have e2: -(-x)=x:=by omega
  rw[e1,e2]
  exact List.Perm.swap _ _ _
theorem J0 {α β:Type}{f g:α->List β}:∀{l:List α},(∀x∈l,(f x).Perm (g x))->(l.flatMap f).Perm (l.flatMap g)
 | [],_=>List.Perm.refl _
 |a::r,h=>by
  rw[List.flatMap_cons,List.flatMap_cons]
  exact List.Perm.append (h a List.mem_cons_self) (J0 λx hx=>h x (List.mem_cons_of_mem _ hx))
end My
namespace My
theorem Nb {r:Int×Int}{a:Int}(h:a=r.1):Fy r a=[r.2]:=by unfold Fy;rw[if_pos h]
theorem M9 {r:Int×Int}{a:Int}(h:a=r.1+1):Fy r a=[-r.2]:=by unfold Fy;rw[if_neg (by omega),if_pos h]
theorem Ov {r:Int×Int}{a:Int}(h:¬a=r.1)(h2:¬a=r.1+1):Fy r a=[]:=by unfold Fy;rw[if_neg h,if_neg h2]
theorem Ng {r:Int×Int}{a:Int}(h:a=r.1):U2 r a=r.1+1:=by unfold U2;rw[if_pos h]
theorem MX {r:Int×Int}{a:Int}(h:a=r.1+1):U2 r a=r.1:=by unfold U2;rw[if_neg (by omega),if_pos h]
theorem Np {r:Int×Int}{a:Int}(h:¬a=r.1)(h2:¬a=r.1+1):U2 r a=a:=by unfold U2;rw[if_neg h,if_neg h2]
structure Done (S:Int)(seen:List Bool)(ps:List Int):Prop where
 nd:ps.Nodup
 at':∀p∈ps,0<=p/\p<S/\seen[p.toNat]?=some true
 of:∀q:Nat,seen[q]?=some true->(q:Int)∈ps
theorem Done.none (S:Int)(n:Nat):Done S (List.replicate n false) []:=
 ⟨List.nodup_nil,λp h=>by simp at h,λq h=>by
  rw[List.getElem?_replicate] at h
  split at h<;> cases h⟩
theorem Gh {l:List Bool}{j q:Nat}(h:l[q]?=some true):(l.set j true)[q]?=some true:=by
 by_cases e:j=q
 ·subst e
  rw[List.getElem?_set_self (List.getElem?_eq_some_iff.mp h).1]
 ·rw[List.getElem?_set_ne e];exact h
theorem Done.snoc {S:Int}{seen:List Bool}{ps:List Int}{a:Int}(h:Done S seen ps)(a0:0<=a)(a1:a<S)(e:seen[a.toNat]?=some false):Done S (seen.set a.toNat true) (ps++[a]):=by
 have hl:a.toNat<seen.length:=(List.getElem?_eq_some_iff.mp e).1
 have hn:a∉ps:=λm=>by
  have:=(h.at' a m).2.2
  rw[e] at this;cases this
 refine⟨?_,λp hp=>?_,λq hq=>?_⟩
 ·rw[List.nodup_append]
  refine⟨h.nd,by simp,λx hx y hy=>?_⟩
  rw[List.mem_singleton.mp hy]
  exact λe=>hn (e▸hx)
 ·rcases List.mem_append.mp hp with hp |hp
  ·obtain⟨h1,h2,h3⟩:=h.at' p hp
   exact⟨h1,h2,Gh h3⟩
  ·rw[List.mem_singleton.mp hp]
   exact⟨a0,a1,by rw[List.getElem?_set_self hl]⟩
 ·by_cases hqa:a.toNat=q
  ·exact List.mem_append_right _ (List.mem_singleton.mpr (by omega))
  ·rw[List.getElem?_set_ne hqa] at hq
   exact List.mem_append_left _ (h.of q hq)
theorem Done.all {S:Int}{seen:List Bool}{ps:List Int}(h:Done S seen ps)(hl:seen.length=S.toNat)(h0:0<=S)(ha:∀q:Nat,q<S.toNat->seen[q]?=some true):ps.Perm (BH S.toNat):=by
 refine Vr h.nd (Jv _) λx=>?_
 rw[Jy]
 constructor
 ·intro hx
  obtain⟨h1,h2,_⟩:=h.at' x hx
  omega
 ·rintro⟨x0,x1⟩
  have:=h.of x.toNat (ha x.toNat (by omega))
  rw[show((x.toNat:Nat):Int)=x by omega] at this
  exact this
theorem DU {seen:List Bool}{i:Nat}(h:∀q:Nat,q<i->seen[q]?=some true)(hi:seen[i]?=some true):∀q:Nat,q<i+1->seen[q]?=some true:=λq hq=>by
 by_cases e:q=i
 ·subst e;exact hi
 ·exact h q (by omega)
end My
namespace My
open PySem L2
theorem Ep (ns:List Int){p:Int}(hp:0<=p):∃c,Cn ns p= .ok c:=by
 unfold Cn EN;dsimp only
 simp only[Rs.okb]
 by_cases h:p<(ns.length:Int)
 ·rw[decide_eq_true h,if_pos rfl]
  have hl:p.toNat<ns.length:=by omega
  exact⟨ns[p.toNat],Pd hp (by simp[hl])⟩
 ·rw[decide_eq_false h,if_neg Bool.false_ne_true]
  obtain⟨g,e,_⟩:=KI (as:=BF ns none (some 63)) (g:=(5:Int)) (f:=λg15 a17=>(Rs.bind (Rs.bind (Rs.bind (Rs.bind (Mp g15 48271) λx25=>(Rs.bind (Pf a17 1000003) λx26=>(Rs.ok (x25+x26)))) λx27=>Rs.ok (x27+1)) λx29=>Pf x29 2147483647) λa19=>(Rs.ok (a19)))) (λ_ _=>True) True.intro λi a g _ _=>by
   rw[Jh (by decide) (by decide),Rs.ok_bind,Zx (by decide),Rs.ok_bind,Rs.ok_bind,Rs.ok_bind,Zx (by decide),Rs.ok_bind]
   exact⟨_,rfl,True.intro⟩
  rw[e,Rs.ok_bind,Ja (by decide) (by decide),Rs.ok_bind,Rs.ok_bind,Zx (by decide)]
  exact⟨_,rfl⟩
theorem Mw (c:Int){k:Int}(h0:0<=k)(h1:k<=100000):∃y,Lq c k= .ok y/\0<=y:=by
 unfold Lq NL;dsimp only
 simp only[Rs.okb]
 have hm:0<=c % 2147483629/\c % 2147483629<2147483629:=⟨Int.emod_nonneg _ (by decide),Int.emod_lt_of_pos _ (by decide)⟩
 rw[Zx (by decide),Rs.ok_bind,Ja (by decide) (by decide),Rs.ok_bind,Rs.ok_bind,Rs.ok_bind,Kh (by decide) (by decide) (by omega) (by omega),Rs.ok_bind,Zx (by decide),Rs.ok_bind]
 rw[Jh (by decide) (by decide),Rs.ok_bind,Ja (by decide) (by decide),Rs.ok_bind,Jh (by omega) (by omega),Rs.ok_bind,Rs.ok_bind,Rs.ok_bind,Zx (by decide),Rs.ok_bind,ES (by decide) (by decide)]
 exact⟨_,rfl,Int.ediv_nonneg (Int.emod_nonneg _ (by decide)) (by decide)⟩
theorem MB (ns:List Int){p:Int}(hp:0<=p)(sizes:List Int)(hl:sizes.length<=100000)(hs:∀x∈sizes,0<x/\x<2^250):
  Ok (EQ ns p sizes) λr=>r.length=sizes.length/\∀(i:Nat) x s,r[i]?=some x->sizes[i]?=some s->0<=x/\x<s:=by
 obtain⟨c,ec⟩:=Ep ns hp
 unfold EQ MF;dsimp only
 simp only[Rs.okb]
 rw[ec,show noE (Rs.ok c)= .ok c from rfl,Rs.ok_bind,ZJ (by omega),Rs.ok_bind,Kh (by decide) (by decide) (by decide) (by decide)]
 simp only[Rs.okb]
 have key:∀(i:Nat) (a:Int) (g:List Int×Int),((List.range sizes.length).map λ(i:Nat)=>(i:Int))[i]?=some a->(g.1.length=i/\∀(j:Nat) x s,g.1[j]?=some x->sizes[j]?=some s->0<=x/\x<s)->∀y z:Int,∀s,sizes[i]?=some s->0<=y/\y<s->((g.1++[y],z).1.length=i+1/\∀(j:Nat) x s,(g.1++[y],z).1[j]?=some x->sizes[j]?=some s->0<=x/\x<s):=by
  intro i a g ha ⟨hg,hq⟩ y z s hs1 hy
  refine⟨by simp[hg],λj x s' hx hs'=>?_⟩
  have hx:(g.1++[y])[j]?=some x:=hx
  rcases Nat.lt_trichotomy j i with hj |hj |hj
  ·rw[List.getElem?_append_left (by omega)] at hx;exact hq j x s' hx hs'
  ·subst hj
   rw[List.getElem?_append_right (by omega),hg,Nat.sub_self] at hx
   have:y=x:=by simpa using hx
   rw[hs1] at hs'
   cases hs'
   rw[←this];exact hy
  ·rw[List.getElem?_eq_none (by simp;omega)] at hx;cases hx
 refine Ok.bind (Ok.forN (λi (g:List Int×Int)=>g.1.length=i/\∀(j:Nat) x s,g.1[j]?=some x->sizes[j]?=some s->0<=x/\x<s) ⟨rfl,λj x s h _=>by simp at h⟩ λi a g ha hg=>?_) (T:=λ(r:List Int)=>r.length=sizes.length/\∀(i:Nat) x s,r[i]?=some x->sizes[i]?=some s->0<=x/\x<s) λg ⟨hg,hq⟩=>?_
 ·obtain⟨rfl,hi⟩:=YJ ha
  have hsz:sizes[i]?=some sizes[i]:=by simp[hi]
  have hsp:=hs _ (List.getElem_mem hi)
  have hgl:g.1.length<sizeLine:=BD (by have:=hg.1;omega)
  by_cases hc:c<10^(18:Int).toNat
  ·rw[decide_eq_true hc,if_pos rfl]
   obtain⟨y,ey,hy⟩:=Mw c (k:=(i:Int)) (by omega) (by omega)
   rw[ey,show noE (Rs.ok y)= .ok y from rfl,Rs.ok_bind,YO hsz,Rs.ok_bind,Zx hsp.1,Rs.ok_bind,Xl hgl]
   exact⟨_,rfl,key i _ g ha hg _ _ _ hsz ⟨Int.emod_nonneg _ (by omega),Int.emod_lt_of_pos _ hsp.1⟩⟩
  ·rw[decide_eq_false hc,if_neg Bool.false_ne_true]
   by_cases hq:0<g.2
   ·rw[decide_eq_true hq,if_pos rfl,YO hsz,Rs.ok_bind,Zx hsp.1,Rs.ok_bind,Xl hgl]
    simp only[Rs.okb]
    rw[ES hsp.1 hsp.2]
    exact⟨_,rfl,key i _ g ha hg _ _ _ hsz ⟨Int.emod_nonneg _ (by omega),Int.emod_lt_of_pos _ hsp.1⟩⟩
   ·rw[decide_eq_false hq,if_neg Bool.false_ne_true,Zx (by decide),Rs.ok_bind]
    obtain⟨c2,ec2⟩:=Ep ns (p:=(p+1+(i:Int)) % 63) (Int.emod_nonneg _ (by decide))
    obtain⟨y,ey,hy⟩:=Mw c2 (k:=(i:Int)) (by omega) (by omega)
    rw[ec2,show noE (Rs.ok c2)= .ok c2 from rfl,Rs.ok_bind,ey,show noE (Rs.ok y)= .ok y from rfl,Rs.ok_bind,YO hsz,Rs.ok_bind,Zx hsp.1,Rs.ok_bind,Xl hgl]
    exact⟨_,rfl,key i _ g ha hg _ _ _ hsz ⟨Int.emod_nonneg _ (by omega),Int.emod_lt_of_pos _ hsp.1⟩⟩
 ·rw[Yw] at hg
  exact⟨g.1,rfl,hg,hq⟩
theorem YR {α:Type}{r:List α}{k:Int}{n:Nat}(e:k=(n:Int))(h:n<r.length):atR r k= .ok r[n]:=by
 subst e;exact YO (by simp[h])
theorem KK {γ:Type}{c:γ->Rs Bool}{f:γ->Rs γ}(P:γ->Prop)(μ:γ->Nat)(hs:∀g,P g->∃b,c g= .ok b/\(b=true->Ok (f g) λg'=>P g'/\μ g'<μ g)):∀(n:Nat) (g:γ),P g->μ g<n->Ok (Ui n g c f) λg'=>P g'/\c g'= .ok false
 |0,_,_,h=>by omega
 |n+1,g,hp,hm=>by
  obtain⟨b,hb,h⟩:=hs g hp
  show Ok ((c g).bind _) _
  rw[hb,Rs.okb]
  cases b with
  |false=>rw[if_neg Bool.false_ne_true];exact⟨g,rfl,hp,hb⟩
  |true=>
   rw[if_pos rfl]
   exact Ok.bind (h rfl) λg' h'=>KK P μ hs n g' h'.1 (by omega)
end My
namespace My
noncomputable def Yr (w:List Int):Nat:=(w.filter λx=>decide (x<0)).length
noncomputable def QQ (w:List Int):Nat:=max (Yr w) 1
noncomputable def ZU (w:List Int)(first:Int):List Int:=(List.range (max w.length 1)).map λk=>first+(Yr (w.take k):Int) % (QQ w:Int)
noncomputable def XW:List (List Int)->Int->List (List Int)
 | [],_=>[]
 |w::ws,f=>ZU w f::XW ws (f+QQ w)
noncomputable def XQ (ws:List (List Int)):Int:=(ws.map λw=>(QQ w:Int)).sum
noncomputable def Ej (ws:List (List Int)):Nat:=(ws.filter λw=>decide (Yr w=0)).length
theorem JA (a b:List Int):Yr (a++b)=Yr a+Yr b:=by unfold Yr;rw[List.filter_append,List.length_append]
theorem V9 {x:Int}(h:x<0):Yr [x]=1:=by simp[Yr,h]
theorem V6 {x:Int}(h:¬x<0):Yr [x]=0:=by simp[Yr,h]
theorem Zm {w:List Int}{i:Nat}{x:Int}(h:w[i]?=some x):Yr (w.take (i+1))=Yr (w.take i)+Yr [x]:=by
 rw[List.take_add_one,h,JA];rfl
theorem VF (w:List Int)(i j:Nat)(h:i<=j):Yr (w.take i)<=Yr (w.take j):=by
 have e:w.take j=w.take i++(w.take j).drop i:=by
  conv=>lhs;rw[←List.take_append_drop i (w.take j)]
  rw[List.take_take,Nat.min_eq_left h]
 rw[e,JA];omega
theorem NH (w:List Int)(i:Nat):Yr (w.take i)<=Yr w:=by
 by_cases h:i<=w.length
 ·have:=VF w i w.length h
  rw[List.take_length] at this;exact this
 ·rw[List.take_of_length_le (by omega)];exact Nat.le_refl _
theorem FK (w:List Int):Yr w<=w.length:=List.length_filter_le _ _
theorem K7 (w:List Int):0<QQ w:=by unfold QQ;omega
theorem QH (w:List Int)(f:Int):(ZU w f).length=max w.length 1:=by simp[ZU]
theorem Kc (w:List Int)(f:Int){k:Nat}(h:k<max w.length 1):(ZU w f)[k]?=some (f+(Yr (w.take k):Int) % (QQ w:Int)):=by
 unfold ZU
 rw[List.getElem?_map,List.getElem?_range h];rfl
theorem Yl:∀(ws:List (List Int)) (f:Int),(XW ws f).length=ws.length
 | [],_=>rfl
 |_::ws,f=>by show(XW ws _).length+1=_;rw[Yl ws];rfl
theorem QI (w:List Int)(ws:List (List Int)):XQ (w::ws)=QQ w+XQ ws:=by simp[XQ]
theorem Ki (a b:List (List Int)):XQ (a++b)=XQ a+XQ b:=by simp[XQ,List.sum_append]
theorem BC (w:List Int):XQ [w]=QQ w:=by simp[XQ]
theorem Vq:∀(a b:List (List Int)) (f:Int),XW (a++b) f=XW a f++XW b (f+XQ a)
 | [],b,f=>by simp[XW,XQ]
 |w::a,b,f=>by
  show ZU w f::XW (a++b) (f+QQ w)=ZU w f::(XW a (f+QQ w)++XW b (f+XQ (w::a)))
  rw[Vq a b,QI,Int.add_assoc]
theorem JX {ws:List (List Int)}{i:Nat}{w:List Int}(h:ws[i]?=some w)(f:Int):XW (ws.take (i+1)) f=XW (ws.take i) f++[ZU w (f+XQ (ws.take i))]:=by
 rw[List.take_add_one,h,Vq];rfl
theorem JY {ws:List (List Int)}{i:Nat}{w:List Int}(h:ws[i]?=some w):XQ (ws.take (i+1))=XQ (ws.take i)+QQ w:=by
 rw[List.take_add_one,h,Ki]
 show _+XQ [w]=_
 rw[BC]
theorem UV {ws:List (List Int)}{i:Nat}{w:List Int}(h:ws[i]?=some w)(f:Int):(XW ws f)[i]?=some (ZU w (f+XQ (ws.take i))):=by
 have hl:i<ws.length:=(List.getElem?_eq_some_iff.mp h).1
 have e:ws=ws.take (i+1)++ws.drop (i+1):=(List.take_append_drop _ _).symm
 rw[e,Vq,JX h,List.getElem?_append_left (by rw[List.length_append,Yl,List.length_take];simp;omega),
  List.getElem?_append_right (by rw[Yl,List.length_take];omega),Yl,List.length_take,Nat.min_eq_left (by omega),Nat.sub_self,List.take_append_of_le_length (by rw[List.length_take];omega),List.take_take,Nat.min_eq_left (by omega)]
 rfl
theorem VB:∀ws:List (List Int),XQ ws=(Yr ws.flatten:Int)+(Ej ws:Int)
 | []=>rfl
 |w::ws=>by
  rw[QI,VB ws,List.flatten_cons,JA]
  unfold Ej
  rw[List.filter_cons]
  by_cases h:Yr w=0
  ·simp[h,QQ];omega
  ·simp[h,QQ];omega
theorem Ew {a b:List Int}(h:a.Perm b):Yr a=Yr b:=(h.filter _).length_eq
theorem Eh:∀{xs:List Int},(∀x∈xs,1<=x)->Yr (xs.flatMap λx=>[x,-x])=xs.length
 | [],_=>rfl
 |x::xs,h=>by
  have hx:=h x List.mem_cons_self
  rw[List.flatMap_cons,JA,Eh λy hy=>h y (List.mem_cons_of_mem _ hy)]
  have e:Yr [x,-x]=1:=by
   show Yr ([x]++[-x])=1
   rw[JA,V6 (by omega),V9 (by omega)]
  rw[e,List.length_cons];omega
structure LastIs (w:List Int)(i:Nat)(last:Int):Prop where
 lo: -1<=last
 hi:last<(i:Int)
 none:∀j:Nat,last<(j:Int)->j<i->∀x,w[j]?=some x->¬x<0
 at':0<=last->∃x,w[last.toNat]?=some x/\x<0
theorem LastIs.zero (w:List Int):LastIs w 0 (-1):=⟨by omega,by omega,λj _ h=>by omega,λh=>by omega⟩
theorem LastIs.neg {w:List Int}{i:Nat}{x:Int}(e:w[i]?=some x)(hx:x<0):LastIs w (i+1) (i:Int):=
 ⟨by omega,by omega,λj h1 h2=>by omega,λ_=>⟨x,by simpa using e,hx⟩⟩
theorem LastIs.pos {w:List Int}{i:Nat}{x last:Int}(h:LastIs w i last)(e:w[i]?=some x)(hx:¬x<0):LastIs w (i+1) last:=by
 have:=h.hi
 refine⟨h.lo,by omega,λj h1 h2 y hy=>?_,h.at'⟩
 by_cases hj:j=i
 ·subst hj;rw[e] at hy;cases hy;exact hx
 ·exact h.none j h1 (by omega) y hy
theorem JO {w:List Int}{last:Int}(h:LastIs w w.length last):∀j:Nat,last<(j:Int)->Yr (w.take j)=Yr w:=by
 intro j hj
 have key:∀d:Nat,Yr (w.take (j+d))=Yr (w.take j):=λd=>by
  induction d with
  |zero=>rfl
  |succ d ih=>
   cases e:w[j+d]? with
   |none=>
    have:=List.getElem?_eq_none_iff.mp e
    rw[←ih,List.take_of_length_le (by omega),List.take_of_length_le (by omega)]
   |some x=>
    have hl:=(List.getElem?_eq_some_iff.mp e).1
    show Yr (w.take ((j+d)+1))=_
    rw[Zm e,ih,V6 (h.none (j+d) (by omega) hl x e)];rfl
 by_cases hl:j<=w.length
 ·rw[←key (w.length-j),show j+(w.length-j)=w.length by omega,List.take_length]
 ·rw[List.take_of_length_le (by omega)]
theorem G3 {w:List Int}{last:Int}(h:LastIs w w.length last)(h0:0<=last):Yr (w.take last.toNat)+1=Yr w:=by
 obtain⟨x,e,hx⟩:=h.at' h0
 have:=Zm e
 rw[V9 hx] at this
 rw[←this,JO h (last.toNat+1) (by omega)]
theorem EO {w:List Int}{last:Int}(h:LastIs w w.length last)(h0:¬0<=last):Yr w=0:=by
 have:=h.lo
 rw[←JO h 0 (by omega)];simp[Yr]
theorem HU {w:List Int}{last f:Int}(h:LastIs w w.length last){j:Nat}(hj:(j:Int)<=last):f+(Yr (w.take j):Int) % (QQ w:Int)=f+(Yr (w.take j):Int):=by
 have h0:0<=last:=by omega
 have h1:=G3 h h0
 have h2:=VF w j last.toNat (by omega)
 rw[Int.emod_eq_of_lt (by omega) (by unfold QQ;omega)]
theorem Lg {w:List Int}{last f:Int}(h:LastIs w w.length last){j:Nat}(hj:last<(j:Int)):f+(Yr (w.take j):Int) % (QQ w:Int)=f:=by
 rw[JO h j hj]
 by_cases e:Yr w=0
 ·rw[e];simp
 ·have:(QQ w:Int)=(Yr w:Int):=by unfold QQ;omega
  rw[this,Int.emod_self];omega
theorem Em {w:List Int}{last:Int}(h:LastIs w w.length last):(Yr (w.take last.toNat):Int)+1=(QQ w:Int):=by
 by_cases h0:0<=last
 ·have:=G3 h h0
  unfold QQ;omega
 ·have e:=EO h h0
  have:=NH w last.toNat
  unfold QQ;omega
end My
namespace My
structure Spot (ws:List (List Int))(x:Int)(i j:Nat)(w:List Int):Prop where
 wi:ws[i]?=some w
 xj:w[j]?=some x
 first:∀m:Nat,m<j->w[m]?≠some x
 none:∀(i':Nat) (w':List Int),i'<i->ws[i']?=some w'->x∉w'
theorem Spot.row {ws:List (List Int)}{x:Int}{i j:Nat}{w:List Int}(h:Spot ws x i j w):∃r,(XW ws 0)[i]?=some r/\r.length=w.length/\j<w.length:=by
 have hj:=(List.getElem?_eq_some_iff.mp h.xj).1
 exact⟨_,UV h.wi 0,by rw[QH];omega,hj⟩
theorem CF:∀{w:List Int}{x:Int},x∈w->∃j:Nat,w[j]?=some x/\∀m:Nat,m<j->w[m]?≠some x
 | [],x,h=>by simp at h
 |y::t,x,h=>by
  by_cases e:y=x
  ·subst e
   exact⟨0,rfl,λm hm=>by omega⟩
  ·rcases List.mem_cons.mp h with z |z
   ·exact absurd z.symm e
   ·obtain⟨j,h1,h2⟩:=CF z
    refine⟨j+1,by simpa using h1,λm hm=>?_⟩
    cases m with
    |zero=>simpa using e
    |succ m=>simpa using h2 m (by omega)
end My
namespace My
open PySem L2
section
variable {α β γ ρ:Type}
theorem G9 {f:γ->α->Rs (Ctl ρ γ)}{g:γ}{v:ρ}:∀{as:List α}{i:Nat}{a:α},as[i]?=some a->(∀(k:Nat) b,k<i->as[k]?=some b->f g b= .ok (.nx g))->f g a= .ok (.ret v)->Kk as g f= .ok (.ret v)
 | [],i,a,h,_,_=>by simp at h
 |b::as,0,a,h,_,hf=>by
  have:b=a:=by simpa using h
  subst this
  show(f g b).bind _=_
  rw[hf,Rs.okb]
 |b::as,i+1,a,h,hb,hf=>by
  show(f g b).bind _=_
  rw[hb 0 b (by omega) rfl,Rs.okb]
  exact G9 (i:=i) (by simpa using h) (λk c hk hc=>hb (k+1) c (by omega) (by simpa using hc)) hf
theorem IB {as:List α}{i:Nat}{a:α}(h:as[i]?=some a):(F7 as)[i]?=some ((i:Int),a):=by
 have hi:=(List.getElem?_eq_some_iff.mp h).1
 unfold F7
 rw[List.getElem?_zip_eq_some]
 exact⟨by rw[List.getElem?_map,List.getElem?_range hi];rfl,h⟩
theorem HJ {w:List Int}{x:Int}{j:Nat}(h:w[j]?=some x)(hf:∀m:Nat,m<j->w[m]?≠some x):IM w x= .ok (j:Int):=by
 obtain⟨hj,e⟩:=List.getElem?_eq_some_iff.mp h
 have:w.findIdx? (λb=>decide (b=x))=some j:=by
  rw[List.findIdx?_eq_some_iff_getElem]
  refine⟨hj,by simp[e],λm hm=>?_⟩
  have hml:m<w.length:=by omega
  have:=hf m hm
  rw[List.getElem?_eq_getElem hml] at this
  simpa using this
 unfold IM
 rw[this]
theorem EX {N k:Nat}{F G:Nat->α}{v:α}(hk:k<N)(hv:G k=v)(h:∀j,j<N->j≠k->F j=G j):((List.range N).map F).set k v=(List.range N).map G:=by
 refine List.ext_getElem (by simp) λj h1 h2=>?_
 have hj:j<N:=by simpa using h1
 rw[List.getElem_set]
 by_cases e:k=j
 ·subst e;rw[if_pos rfl];simp[hv]
 ·rw[if_neg e];simp[h j hj (λz=>e z.symm)]
theorem IH (w:List α):BF w none (some (-1))=w.take (w.length-1):=by
 unfold BF
 rw[HT.sIx_none]
 have:HT.sIx w.length w.length (some (-1))=w.length-1:=by
  unfold HT.sIx
  simp
  omega
 rw[this];simp
end
theorem ZP {w:List Int}(hl:w.length<=1000):Ys w= .ok (QQ w:Int):=by
 unfold Ys Qa;dsimp only
 simp only[Rs.okb]
 rw[Hm (p:=λx=>decide (x<0)) (h:=λx=>x) (sz (by omega)) (λ_ _=>rfl) λ_ _ _=>rfl,Rs.okb,List.map_id']
 congr 1
 show max ((Yr w:Nat):Int) 1=((max (Yr w) 1:Nat):Int)
 omega
theorem UC {w:List Int}{f:Int}(hl:w.length<=1000):Zq w f= .ok (ZU w f):=by
 unfold Zq Z5;dsimp only
 simp only[Rs.okb]
 rw[ZP hl,Ya]
 simp only[Rs.okb]
 rw[Xl (sz (by simp)),IH]
 simp only[Rs.okb]
 apply Ok.eq
 refine Ok.bind (Ok.forN (λi (g:Int×List Int)=>g=((Yr (w.take i):Int),(List.range (i+1)).map λk=>f+(Yr (w.take k):Int) % (QQ w:Int))) ?_ λi a g ha hg=>?_) λg hg=>?_
 ·simp[Yr]
 ·have hi:=(List.getElem?_eq_some_iff.mp ha).1
  rw[List.length_take] at hi
  have ha':w[i]?=some a:=by
   rw[List.getElem?_take_of_lt (by omega)] at ha
   exact ha
  subst hg
  have hn:=Zm ha'
  have hp:=K7 w
  have hlen:((List.range (i+1)).map λk=>f+(Yr (w.take k):Int) % (QQ w:Int)).length<sizeLine:=BD (by simp;omega)
  refine Ok.bind (R:=λu=>u=(Yr (w.take (i+1)):Int)) (Ok.ite (λc=>⟨_,rfl,?_⟩) λc=>⟨_,rfl,?_⟩) λu hu=>?_
  ·rw[hn,V9 (of_decide_eq_true c)]
   show(Yr (w.take i):Int)+1=_
   omega
  ·rw[hn,V6 (of_decide_eq_false c)]
   show(Yr (w.take i):Int)=_
   omega
  ·subst hu
   rw[Zx (by omega),Rs.okb,Rs.okb,Xl hlen]
   refine⟨_,rfl,?_⟩
   rw[List.range_succ (n:=i+1),List.map_append];rfl
 ·subst hg
  refine⟨_,rfl,?_⟩
  rw[List.length_take,show min (w.length-1) w.length+1=max w.length 1 by omega]
  rfl
theorem MJ {D:List (List Int)×List (Int×Int)}(hd:D.1.length<=1000)(hw:∀w∈D.1,w.length<=1000):DJ D= .ok (XW D.1 0):=by
 unfold DJ Hr;dsimp only
 simp only[Rs.okb]
 apply Ok.eq
 refine Ok.bind (Ok.forN (λi (g:Int×List (List Int))=>g=(XQ (D.1.take i),XW (D.1.take i) 0)) rfl λi a g ha hg=>?_) λg hg=>?_
 ·have hi:=(List.getElem?_eq_some_iff.mp ha).1
  subst hg
  have hal:=hw a (List.mem_of_getElem? ha)
  rw[UC hal,Ya,Rs.okb,ZP hal,Ya]
  rw[Xl (BD (by rw[Yl,List.length_take];omega))]
  simp only[Rs.okb]
  refine⟨_,rfl,?_⟩
  rw[JX ha,JY ha,Int.zero_add]
 ·subst hg
  rw[List.take_length]
  exact⟨_,rfl,rfl⟩
theorem ZZ {D:List (List Int)×List (Int×Int)}(hd:D.1.length<=1000)(hw:∀w∈D.1,w.length<=1000):ZR D= .ok (XQ D.1):=by
 unfold ZR JP;dsimp only
 simp only[Rs.okb]
 rw[Qt (h:=λw=>(QQ w:Int)) (sz (by omega)) λw h=>by rw[ZP (hw w h),Ya],Rs.okb]
 rfl
theorem E9 {D:List (List Int)×List (Int×Int)}{x:Int}{i j:Nat}{w:List Int}(h:Spot D.1 x i j w):CH D x= .ok ((i:Int),(j:Int)):=by
 unfold CH HK;dsimp only
 simp only[Rs.okb]
 rw[G9 (v:=((i:Int),(j:Int))) (IB h.wi) (λk b hk hb=>?_) ?_]
 ·rw[Rs.okb,Ec]
 ·rw[if_pos (decide_eq_true (List.mem_of_getElem? h.xj)),HJ h.xj h.first]
  simp only[Rs.okb]
 ·obtain⟨_,h2⟩:=GU hb
  rw[if_neg]
  rw[decide_eq_true_eq]
  exact h.none k b.2 hk h2
noncomputable def inB (n:Nat)(t:List (List Int)):Bool:=decide (t.length=n)&&t.all λr=>decide (r.length=n)&&r.all λx=>decide (0<=x)&&decide (x<(n:Int))
noncomputable def tat (t:List (List Int))(a b:Nat):Int:=(t.getD a []).getD b 0
theorem G8 {n:Nat}{t:List (List Int)}(h:inB n t=true):∃f:Nat->Nat->Nat,t=Vw n f:=by
 unfold inB at h
 simp only[Bool.and_eq_true,decide_eq_true_eq,List.all_eq_true] at h
 obtain⟨hl,hr⟩:=h
 refine⟨λa b=>(tat t a b).toNat,List.ext_getElem (by rw[Jf];exact hl) λa h1 h2=>?_⟩
 have ha:a<n:=by omega
 have e:=Fa (f:=λa b=>(tat t a b).toNat) ha
 rw[List.getElem?_eq_getElem h2] at e
 rw[Option.some.inj e]
 have hrow:=hr t[a] (List.getElem_mem _)
 refine List.ext_getElem (by rw[G1];exact hrow.1) λb h3 h4=>?_
 have hb:b<n:=by omega
 have e2:=G0 (f:=λa b=>(tat t a b).toNat) (a:=a) hb
 rw[List.getElem?_eq_getElem h4] at e2
 rw[Option.some.inj e2]
 have hg:=hrow.2 _ (List.getElem_mem h3)
 have e3:tat t a b=t[a][b]:=by
  have e4:t.getD a []=t[a]:=by rw[List.getD_eq_getElem?_getD,List.getElem?_eq_getElem h1,Option.getD_some]
  unfold tat
  rw[e4,List.getD_eq_getElem?_getD,List.getElem?_eq_getElem h3,Option.getD_some]
 show t[a][b]=((tat t a b).toNat:Int)
 omega
noncomputable def KZ (g7:List (List (List Int)))(a9:List (List Int)):Rs (List (List (List Int))):=
 Rs.bind (Rs.bind (Rs.bind (Ed g7 λa14=>Rs.bind (DS a14 a9) λx19=>Rs.ok x19.isNone) λx20=>Rs.ok (x20.all id)) λx21=>if x21=true then chk (g7.length<sizeLine) (Rs.ok (g7++[a9])) else Rs.ok g7) λg28=>Rs.ok g28
noncomputable def eqR (m:Rs (List (List (List Int))))(l:List (List (List Int))):Bool:=match m with
 | .ok x=>decide (x=l)
 |_=>false
theorem JD {m:Rs (List (List (List Int)))}{l:List (List (List Int))}(h:eqR m l=true):m= .ok l:=by
 cases m with
 |bad=>cases h
 |err x=>cases h
 |ok x=>rw[of_decide_eq_true (show decide (x=l)=true from h)]
noncomputable def smB (n:Int)(m:Rs (List (List (List Int)))):Bool:=match m with
 | .ok l=>decide (l.length<64)&&l.all (inB n.toNat)
 |_=>false
noncomputable def SmT (n:Nat)(m:Rs (List (List (List Int)))):Prop:=∃ l,m= .ok l/\l.length<64/\∀t∈l,∃f:Nat->Nat->Nat,t=Vw n f
theorem Cm {n:Nat}{m:Rs (List (List (List Int)))}(h:smB (n:Int) m=true):SmT n m:=by
 cases m with
 |bad=>cases h
 |err x=>cases h
 |ok l=>
  have h:(decide (l.length<64)&&l.all (inB n))=true:=h
  simp only[Bool.and_eq_true,decide_eq_true_eq,List.all_eq_true] at h
  exact⟨l,rfl,h.1,λt ht=>G8 (h.2 t ht)⟩
theorem tb1:YT 1= .ok [[[0]]]:=JD (by decide+kernel)
theorem kd1:ZK 1= .ok [[[0]]]:=JD (by decide+kernel)
theorem tb2:smB 2 (YT 2)=true:=by decide+kernel
theorem kd2:smB 2 (ZK 2)=true:=by decide+kernel
theorem tb3:smB 3 (YT 3)=true:=by decide+kernel
theorem kd3:smB 3 (ZK 3)=true:=by decide+kernel
noncomputable def lc0:List (List (List Int)):=[[[0,0,0,0],[1,1,1,1],[2,2,2,2],[3,3,3,3]],[[0,0,0,0],[1,1,1,1],[2,3,2,2],[3,2,3,3]],[[0,0,0,0],[1,1,1,1],[3,2,2,2],[2,3,3,3]],[[0,0,0,0],[1,1,1,1],[3,3,2,2],[2,2,3,3]],[[0,0,0,0],[1,1,1,2],[2,2,2,1],[3,3,3,3]],[[0,0,0,0],[1,1,3,1],[2,2,2,2],[3,3,1,3]]]
noncomputable def lc1:List (List (List Int)):=[[[0,0,0,0],[1,1,3,2],[2,3,2,1],[3,2,1,3]],[[0,0,0,0],[2,1,1,1],[1,2,2,2],[3,3,3,3]],[[0,0,0,0],[2,1,1,1],[3,2,2,2],[1,3,3,3]],[[0,0,0,0],[2,1,1,2],[1,2,2,1],[3,3,3,3]],[[0,0,0,0],[3,1,1,1],[1,2,2,2],[2,3,3,3]],[[0,0,0,0],[3,1,1,1],[2,2,2,2],[1,3,3,3]]]
noncomputable def lc2:List (List (List Int)):=[[[0,0,0,0],[3,1,3,1],[2,2,2,2],[1,3,1,3]],[[0,0,0,1],[1,1,1,0],[2,2,2,2],[3,3,3,3]],[[0,0,0,1],[1,1,1,2],[2,2,2,0],[3,3,3,3]],[[0,0,0,2],[1,1,1,0],[2,2,2,1],[3,3,3,3]],[[0,0,0,2],[1,1,1,1],[2,2,2,0],[3,3,3,3]],[[0,0,1,0],[1,1,0,1],[2,2,2,2],[3,3,3,3]]]
noncomputable def lc3:List (List (List Int)):=[[[0,0,1,0],[1,1,3,1],[2,2,2,2],[3,3,0,3]],[[0,0,1,1],[1,1,0,0],[2,2,2,2],[3,3,3,3]],[[0,0,1,1],[1,1,0,0],[3,3,2,2],[2,2,3,3]],[[0,0,3,0],[1,1,0,1],[2,2,2,2],[3,3,1,3]],[[0,0,3,0],[1,1,1,1],[2,2,2,2],[3,3,0,3]],[[0,0,3,2],[1,1,1,1],[3,2,2,0],[2,3,0,3]]]
noncomputable def lc4:List (List (List Int)):=[[[0,2,0,0],[1,1,1,1],[2,0,2,2],[3,3,3,3]],[[0,2,0,0],[1,1,1,1],[2,3,2,2],[3,0,3,3]],[[0,2,0,2],[1,1,1,1],[2,0,2,0],[3,3,3,3]],[[0,2,0,2],[3,1,3,1],[2,0,2,0],[1,3,1,3]],[[0,2,1,0],[2,1,0,1],[1,0,2,2],[3,3,3,3]],[[0,2,3,1],[3,1,0,2],[1,3,2,0],[2,0,1,3]]]
noncomputable def lc5:List (List (List Int)):=[[[0,3,0,0],[1,1,1,1],[2,0,2,2],[3,2,3,3]],[[0,3,0,0],[1,1,1,1],[2,2,2,2],[3,0,3,3]],[[0,3,0,1],[3,1,1,0],[2,2,2,2],[1,0,3,3]],[[0,3,1,2],[2,1,3,0],[3,0,2,1],[1,2,0,3]],[[0,3,3,0],[1,1,1,1],[2,2,2,2],[3,0,0,3]],[[0,3,3,0],[2,1,1,2],[1,2,2,1],[3,0,0,3]]]
noncomputable def kc0:List (List (List Int)):=[]
noncomputable def kc1:List (List (List Int)):=kc0++[[[0,0,0,0],[1,1,1,1],[2,2,2,2],[3,3,3,3]],[[0,0,0,0],[1,1,1,1],[2,3,2,2],[3,2,3,3]],[[0,0,0,0],[1,1,1,1],[3,3,2,2],[2,2,3,3]]]
noncomputable def kc2:List (List (List Int)):=kc1++[[[0,0,0,0],[1,1,3,2],[2,3,2,1],[3,2,1,3]],[[0,0,0,0],[2,1,1,1],[3,2,2,2],[1,3,3,3]]]
noncomputable def kc3:List (List (List Int)):=kc2
noncomputable def kc4:List (List (List Int)):=kc3++[[[0,0,1,1],[1,1,0,0],[3,3,2,2],[2,2,3,3]]]
noncomputable def kc5:List (List (List Int)):=kc4++[[[0,2,3,1],[3,1,0,2],[1,3,2,0],[2,0,1,3]]]
noncomputable def kc6:List (List (List Int)):=kc5
noncomputable def l4:List (List (List Int)):=lc0++(lc1++(lc2++(lc3++(lc4++lc5))))
theorem t4a:eqR (YT 4) l4=true:=by decide+kernel
theorem k4a:eqR (forN lc0 kc0 KZ) kc1=true:=by decide+kernel
theorem k4b:eqR (forN lc1 kc1 KZ) kc2=true:=by decide+kernel
theorem k4c:eqR (forN lc2 kc2 KZ) kc3=true:=by decide+kernel
theorem k4d:eqR (forN lc3 kc3 KZ) kc4=true:=by decide+kernel
theorem k4e:eqR (forN lc4 kc4 KZ) kc5=true:=by decide+kernel
theorem k4f:eqR (forN lc5 kc5 KZ) kc6=true:=by decide+kernel
theorem Jt {α γ:Type}{F:γ->α->Rs γ}:∀(a b:List α) (g:γ),forN (a++b) g F=(forN a g F).bind λg'=>forN b g' F
 | [],b,g=>rfl
 |x::a,b,g=>by
  show(F g x).bind _=((F g x).bind _).bind _
  cases F g x with
  |bad=>rfl
  |err e=>rfl
  |ok g'=>exact Jt a b g'
theorem k4:forN l4 [] KZ= .ok kc6:=by
 have e0:([]:List (List (List Int)))=kc0:=rfl
 have a:=JD k4a
 have b:=JD k4b
 have c:=JD k4c
 have d:=JD k4d
 have e:=JD k4e
 have f:=JD k4f
 unfold l4
 rw[e0]
 generalize KZ=F at*
 generalize lc0=x0 at*
 generalize lc1=x1 at*
 generalize lc2=x2 at*
 generalize lc3=x3 at*
 generalize lc4=x4 at*
 generalize lc5=x5 at*
 generalize kc6=y6 at*
 generalize kc5=y5 at*
 generalize kc4=y4 at*
 generalize kc3=y3 at*
 generalize kc2=y2 at*
 generalize kc1=y1 at*
 generalize kc0=y0 at*
 rw[Jt,a,Rs.okb,Jt,b,Rs.okb,Jt,c,Rs.okb,Jt,d,Rs.okb,Jt,e,Rs.okb,f]
theorem tb4:SmT 4 (YT 4):=⟨l4,JD t4a,by decide,λt ht=>G8 (List.all_eq_true.mp (show l4.all (inB 4)=true by decide+kernel) t ht)⟩
theorem kd4:SmT 4 (ZK 4):=by
 have e:ZK 4= .ok kc6:=by
  unfold ZK
  simp only[Rs.okb]
  rw[JD t4a,Rs.okb]
  show(forN l4 [] KZ).bind _=_
  rw[k4,Rs.okb]
 exact⟨kc6,e,by decide,λt ht=>G8 (List.all_eq_true.mp (show kc6.all (inB 4)=true by decide+kernel) t ht)⟩
theorem EA {n:Nat}(h1:1<=n)(h4:n<=4):SmT n (YT (n:Int))/\SmT n (ZK (n:Int)):=by
 have h:n=1∨n=2∨n=3∨n=4:=by omega
 rcases h with rfl |rfl |rfl |rfl
 ·exact⟨⟨_,tb1,by decide,λt ht=>G8 (List.all_eq_true.mp (show[[[(0:Int)]]].all (inB 1)=true by decide) t ht)⟩,⟨_,kd1,by decide,λt ht=>G8 (List.all_eq_true.mp (show[[[(0:Int)]]].all (inB 1)=true by decide) t ht)⟩⟩
 ·exact⟨Cm tb2,Cm kd2⟩
 ·exact⟨Cm tb3,Cm kd3⟩
 ·exact⟨tb4,kd4⟩
noncomputable def nm (m:Nat):List Int:=(List.range m).map λ(k:Nat)=>(k:Int)+1
noncomputable def pm (xs:List Int):List Int:=xs.flatMap λx=>[x,-x]
structure WkP (m:Nat)(ws:List (List Int)):Prop where
 lw:ws.length<=4
 perm:ws.flatten.Perm (pm (nm m))
theorem LV (m:Nat):(nm m).length=m:=by simp[nm]
theorem WkP.tot {m:Nat}{ws:List (List Int)}(h:WkP m ws):ws.flatten.length=2*m:=by
 have:=h.perm.length_eq
 unfold pm at this
 rw[Q9,LV] at this
 exact this
theorem WkP.short {m:Nat}{ws:List (List Int)}(h:WkP m ws){w:List Int}(hw:w∈ws):w.length<=2*m:=by
 have:=h.tot
 have:=(List.sublist_flatten_of_mem hw).length_le
 omega
noncomputable def Ft (lows sgs:List Int):List (Int×Int):=(List.range lows.length).map λ(k:Nat)=>(lows.getD k 0,((k:Int)+1)*sgs.getD k 0)
theorem FN:∀(rs:List (Int×Int)) (a:Int),(Fm rs a).length<=rs.length
 | [],_=>Nat.le_refl _
 |r::rs,a=>by
  show(Fy r a++Fm rs (U2 r a)).length<=_
  have h1:(Fy r a).length<=1:=by
   unfold Fy
   split
   ·simp
   ·split<;> simp
  have:=FN rs (U2 r a)
  simp only[List.length_append,List.length_cons]
  omega
theorem Hh {S:Int}:∀{rs:List (Int×Int)}{x:Int},(∀r∈rs,0<=r.1/\r.1+1<S)->0<=x->x<S->0<=II rs x/\II rs x<S
 | [],_,_,h0,h1=>⟨h0,h1⟩
 |r::rs,x,h,h0,h1=>by
  have:=Fp (h r List.mem_cons_self).1 (h r List.mem_cons_self).2 h0 h1
  exact Hh (rs:=rs) (λq hq=>h q (.tail _ hq)) this.1 this.2
theorem HN {lows sgs:List Int}{m S:Nat}(h1:lows.length=m)(h2:sgs.length=m)(hm:m<=6)(hS:2<=S)(hS4:S<=4)(hl:∀x∈lows,0<=x/\x+1<(S:Int))(hs:∀x∈sgs,x=1∨x= -1):Ok (V2 lows sgs (S:Int)) (WkP m):=by
 have hrs:∀q∈Ft lows sgs,0<=q.1/\q.1+1<(S:Int):=λq hq=>by
  obtain⟨k,hk,rfl⟩:=List.mem_map.mp hq
  have hk:=List.mem_range.mp hk
  have:lows.getD k 0∈lows:=by simp[hk]
  exact hl _ this
 have hget:∀k (hk:k<lows.length) (hk2:k<sgs.length),(Ft lows sgs)[k]?=some (lows[k],((k:Int)+1)*sgs[k]):=λk hk hk2=>by
  unfold Ft
  rw[List.getElem?_map,List.getElem?_range hk]
  simp[hk,hk2]
 have hrl:(Ft lows sgs).length=m:=by simp[Ft,h1]
 unfold V2 K6;dsimp only
 simp only[Rs.okb]
 rw[Xl (show[false].length<=sizeLine from sz (by simp)),Rs.okb,show Eu [false] (S:Int)= .ok (List.replicate S false) from ?_]
 rotate_left
 ·unfold Eu
  rw[Xl ⟨by omega,by omega,sz (by simp;omega)⟩,Int.toNat_natCast]
  congr 1
  clear hS hS4 hl hrs
  induction S with
  |zero=>rfl
  |succ n ih=>rw[List.replicate_succ,List.flatten_cons,ih,List.replicate_succ];rfl
 rw[Rs.okb,ZJ (by omega),Rs.okb]
 generalize hR:Ft lows sgs=rs at hrs hrl hget
 refine Ok.bind (Ok.forN (λi (g:List Bool×List (List Int))=>g.1.length=S/\g.2.length<=i/\(∀q:Nat,q<i->g.1[q]?=some true)/\∃ps,Done (S:Int) g.1 ps/\g.2.flatten=ps.flatMap (Fm rs)) ⟨by simp,Nat.le_refl _,λq hq=>by omega,[],Done.none _ _,rfl⟩ λi a g ha hg=>?_) λg hg=>?_
 ·obtain⟨rfl,hi⟩:=YJ ha
  obtain⟨g1,g2,g3,ps,g4,g5⟩:=hg
  have hi1:i<g.1.length:=by omega
  rw[YR (n:=i) rfl hi1]
  simp only[Rs.okb]
  cases hb:g.1[i] with
  |true=>
   rw[show(!true)=false from rfl,if_neg Bool.false_ne_true]
   simp only[Rs.okb]
   exact⟨_,rfl,g1,by show g.2.length<=_;omega,DU g3 (by simp[hi1,hb]),ps,g4,g5⟩
  |false=>
   rw[show(!false)=true from rfl,if_pos rfl]
   refine Ok.bind (R:=λg':List Bool×List (List Int)=>g'.1.length=S/\g'.2.length<=i+1/\(∀q:Nat,q<i+1->g'.1[q]?=some true)/\∃ps,Done (S:Int) g'.1 ps/\g'.2.flatten=ps.flatMap (Fm rs)) (Ok.bind (KK (λg':List Bool×Int×List Int=>g'.1.length=S/\0<=g'.2.1/\g'.2.1<(S:Int)/\(∀q:Nat,g.1[q]?=some true->g'.1[q]?=some true)/\((g'.2.1=(i:Int)/\g'.1[i]?=some false)∨g'.1[i]?=some true)/\g'.2.2.length+100*g'.1.count false<=100*S/\∃qs,Done (S:Int) g'.1 (ps++qs)/\g'.2.2=qs.flatMap (Fm rs)) (λg'=>g'.1.count false) (λg' hg'=>?_) _ (g.1,(i:Int),[]) ⟨g1,by show(0:Int)<=(i:Int);omega,by show(i:Int)<(S:Int);omega,λq h=>h, .inl ⟨rfl,by simp[hi1,hb]⟩,by
    have:g.1.count false<=g.1.length:=List.count_le_length
    show 0+100*g.1.count false<=100*S
    omega,[],by rw[List.append_nil];exact g4,rfl⟩ ?_) λg' hg'=>?_) λg' hg'=>?_
   ·obtain⟨w1,w2,w3,w4,w5,w8,qs,w6,w7⟩:=hg'
    obtain⟨p,hp⟩:∃p:Nat,g'.2.1=(p:Int):=⟨g'.2.1.toNat,by omega⟩
    have hpl:p<g'.1.length:=by omega
    rw[YR hp hpl]
    refine⟨_,rfl,λhf=>?_⟩
    have hf':g'.1[p]=false:=by simpa using hf
    have hfs:g'.1[p]?=some false:=by simp[hpl,hf']
    rw[hp,KW hpl]
    simp only[Rs.okb]
    rw[ZJ (by omega)]
    simp only[Rs.okb]
    refine Ok.bind (Ok.forN (λk (h:Int×List Int)=>h.1=II (rs.take k) (p:Int)/\h.2=g'.2.2++Fm (rs.take k) (p:Int)) ⟨rfl,by rw[List.take_zero];exact(List.append_nil _).symm⟩ λk b h hb' hh=>?_) λh hh=>?_
    ·obtain⟨rfl,hk⟩:=YJ hb'
     obtain⟨e1,e2⟩:=hh
     have hk2:k<sgs.length:=by omega
     have hq:=hget k hk hk2
     have hts:rs.take (k+1)=rs.take k++[(lows[k],((k:Int)+1)*sgs[k])]:=by rw[List.take_add_one,hq];rfl
     rw[hts,Ei,Hj, ←e1]
     have hsg:=hs _ (List.getElem_mem hk2)
     rw[YR (r:=lows) (n:=k) rfl hk]
     simp only[Rs.okb]
     rw[YR (r:=sgs) (n:=k) rfl hk2]
     simp only[Rs.okb]
     rw[Jh (a:=(k:Int)+1) (by omega) (by omega),Jh (a:=-((k:Int)+1)) (by omega) (by omega)]
     simp only[Rs.okb]
     have hlen:h.2.length<sizeLine:=BD (by
      have:=FN (rs.take k) (p:Int)
      rw[List.length_take] at this
      rw[e2,List.length_append];omega)
     rw[Xl hlen,Xl hlen]
     generalize lows[k]=low
     by_cases c1:h.1=low
     ·rw[if_pos (decide_eq_true c1)]
      simp only[Rs.okb]
      refine⟨_,rfl,?_,?_⟩
      ·rw[Ng c1,c1]
      ·rw[Nb c1,e2,List.append_assoc]
     ·rw[if_neg (by rw[decide_eq_false c1];exact Bool.false_ne_true)]
      by_cases c2:h.1=low+1
      ·rw[if_pos (decide_eq_true c2)]
       simp only[Rs.okb]
       refine⟨_,rfl,?_,?_⟩
       ·rw[MX c2,c2];show low+1-1=low;omega
       ·rw[M9 c2,e2,List.append_assoc,Int.neg_mul]
      ·rw[if_neg (by rw[decide_eq_false c2];exact Bool.false_ne_true)]
       simp only[Rs.okb]
       refine⟨_,rfl,?_,?_⟩
       ·rw[Np c1 c2]
       ·rw[Ov c1 c2,List.append_nil,e2]
    ·rw[Yw,h1, ←hrl,List.take_length] at hh
     obtain⟨e1,e2⟩:=hh
     have hpr:=Hh hrs (show(0:Int)<=(p:Int) by omega) (show(p:Int)<(S:Int) by omega)
     have hct:=Fe hfs
     have hcl':=FN rs (p:Int)
     refine⟨_,rfl,⟨?_,?_,?_,?_,?_,?_,qs++[(p:Int)],?_,?_⟩,?_⟩
     ·show(g'.1.set p true).length=S
      rw[List.length_set];exact w1
     ·show 0<=h.1
      rw[e1];exact hpr.1
     ·show h.1<_
      rw[e1];exact hpr.2
     ·exact λq hq=>Gh (w4 q hq)
     ·refine .inr ?_
      show(g'.1.set p true)[i]?=some true
      rcases w5 with⟨h1,_⟩ |h1
      ·have:p=i:=by omega
       subst this
       rw[List.getElem?_set_self hpl]
      ·exact Gh h1
     ·show h.2.length+100*(g'.1.set p true).count false<=100*S
      rw[e2,List.length_append];omega
     ·rw[←List.append_assoc]
      have:=w6.snoc (a:=(p:Int)) (by omega) (by omega) (by rw[Int.toNat_natCast];exact hfs)
      rwa [Int.toNat_natCast] at this
     ·show h.2=_
      rw[e2,w7,List.flatMap_append]
      simp
     ·show(g'.1.set p true).count false<g'.1.count false
      omega
   ·have:g.1.count false<=g.1.length:=List.count_le_length
    show g.1.count false<(S:Int).natAbs+2
    omega
   ·obtain⟨⟨w1,w2,w3,w4,w5,w8,qs,w6,w7⟩,hc⟩:=hg'
    obtain⟨p,hp⟩:∃p:Nat,g'.2.1=(p:Int):=⟨g'.2.1.toNat,by omega⟩
    have hpl:p<g'.1.length:=by omega
    rw[YR hp hpl,Rs.okb] at hc
    have hc':g'.1[p]=true:=by
     have:=Rs.ok.inj hc
     simpa using this
    have h5:g'.1[i]?=some true:=by
     rcases w5 with⟨h1,h6⟩ |h1
     ·have:p=i:=by omega
      subst this
      rw[List.getElem?_eq_getElem hpl,hc'] at h6
      cases h6
     ·exact h1
    rw[Xl (BD (by omega))]
    refine⟨_,rfl,w1,?_,?_,ps++qs,w6,?_⟩
    ·show(g.2++[g'.2.2]).length<=_
     simp;omega
    ·exact DU (λq hq=>w4 q (g3 q hq)) h5
    ·show(g.2++[g'.2.2]).flatten=_
     rw[List.flatten_append,g5,List.flatMap_append,w7]
     simp
   ·exact⟨_,rfl,hg'⟩
 ·obtain⟨g1,g2,g3,ps,g4,g5⟩:=hg
  rw[Yw] at g2 g3
  refine⟨_,rfl,by omega,?_⟩
  rw[g5]
  refine(Q1 _ (g4.all (by rw[g1];rfl) (by omega) λq hq=>g3 q (by omega))).trans ?_
  rw[Int.toNat_natCast]
  refine(DV hrs).trans ?_
  rw[←hR]
  unfold Ft pm nm
  rw[QC,QC,h1]
  refine J0 λk hk=>NR ?_
  have hk':=List.mem_range.mp hk
  exact hs _ (by simp;rw[List.getElem?_eq_getElem (by omega)];exact List.getElem_mem _)
theorem DZ:∀{ws:List (List Int)}{i:Nat} (h:i<ws.length),((ws.set i ws[i].reverse).flatten).Perm ws.flatten
 | [],i,h=>by simp at h
 |w::ws,0,h=>by
  show(w.reverse++ws.flatten).Perm (w++ws.flatten)
  exact(List.reverse_perm w).append_right _
 |w::ws,i+1,h=>by
  have h':i<ws.length:=by simpa using h
  show(w++(ws.set i ws[i].reverse).flatten).Perm (w++ws.flatten)
  exact(DZ h').append_left _
theorem OB {α:Type}{l:List (Int×α)}{k:Int}{v:α}:(Bg l k v).length<=l.length+1:=by
 unfold Bg
 split
 ·simp
 ·simp
structure Drawn (most:Nat)(D:List (List Int)×List (Int×Int)):Prop where
 le:D.2.length<=most
 pos:∀e∈D.2,1<=e.1/\(e.2=1∨e.2= -1)
 perm:D.1.flatten.Perm ((D.2.map Prod.fst).flatMap λx=>[x,-x])
 few:D.1.length<=20
theorem O1 {α:Type}{as:List α}{i:Int}(h0:0<=i)(h:i<(as.length:Int)):∃x,atR as i= .ok x/\x∈as:=
 ⟨as[i.toNat]'(by omega),YR (by omega) (by omega),List.getElem_mem _⟩
theorem GW {ws:List (List Int)}{sgs r:List Int}{m:Nat}(w:WkP m ws)(h2:sgs.length=m)(hs:∀x∈sgs,x=1∨x= -1)(hm:m<=6)(hr:20<=r.length)(hf:∃j:Int,0<=j/\j<3/\atR r (-1)= .ok j):Ok (Qs ws sgs r) (Drawn 6):=by
 unfold Qs JR;dsimp only
 simp only[Rs.okb]
 have hw4:=w.lw
 rw[ZJ (by omega),Rs.okb]
 refine Ok.bind (Ok.forN (λi (g:List (List Int)×List (Int×Bool))=>WkP m g.1/\g.1.length=ws.length/\g.2.length<=30*i) ⟨w,rfl,Nat.le_refl _⟩ λi a g ha hg=>?_) λg hg=>?_
 ·obtain⟨rfl,hi⟩:=YJ ha
  obtain⟨g1,g2,g3⟩:=hg
  rw[YR (r:=r) (n:=4+i) (by omega) (by omega)]
  simp only[Rs.okb]
  refine Ok.bind (R:=λg':List (List Int)×List (Int×Bool)=>WkP m g'.1/\g'.1.length=ws.length/\g'.2.length<=30*(i+1)) (Ok.ite (λ_=>?_) λ_=>⟨_,rfl,g1,g2,by show g.2.length<=_;omega⟩) λg' hg'=>⟨_,rfl,hg'⟩
  have hi2:i<g.1.length:=by omega
  have hl:=g1.short (List.getElem_mem hi2)
  rw[YR (r:=g.1) (n:=i) rfl hi2]
  simp only[Rs.okb]
  rw[Xl trivial,Rs.okb,KW hi2]
  simp only[Rs.okb]
  rw[YR (r:=g.1.set i _) (n:=i) rfl (by simpa using hi2),List.getElem_set_self]
  simp only[Rs.okb]
  refine Ok.bind (Ok.forN (λk (h:List (Int×Bool))=>h.length<=30*i+k) g3 λk b h hb hh=>?_) λh hh=>?_
  ·rw[Xl (BD (by
    have:=(List.getElem?_eq_some_iff.mp hb).1
    rw[List.length_reverse] at this
    omega))]
   exact⟨_,rfl,Nat.le_trans OB (by omega)⟩
  ·rw[List.length_reverse] at hh
   refine⟨_,rfl,⟨by rw[List.length_set];exact g1.lw,(DZ hi2).trans g1.perm⟩,by rw[List.length_set];exact g2,by show h.length<=_;omega⟩
 obtain⟨g1,g2,-⟩:=hg
 generalize g.1=vs at g1 g2
 rw[ZJ (by omega),Rs.okb]
 refine Ok.bind (Ok.forN (λi (l:List (Int×Int))=>l.map Prod.fst=nm i/\∀e∈l,e.2=1∨e.2= -1) ⟨rfl,λe he=>nomatch he⟩ λi a l ha hl=>?_) λl hl=>?_
 ·obtain⟨rfl,hi⟩:=YJ ha
  obtain⟨hl,hl2⟩:=hl
  have hsi:=hs _ (List.getElem_mem hi)
  rw[YR (r:=sgs) (n:=i) rfl hi]
  simp only[Rs.okb]
  have e:∀s:Int,(l++[((i:Int)+1,s)]).map Prod.fst=nm (i+1):=λs=>by
   unfold nm at hl⊢
   rw[List.map_append,hl,List.range_succ,List.map_append]
   rfl
  have hll:l.length=i:=by
   have:=congrArg List.length hl
   simpa[nm] using this
  refine Ok.bind (R:=λs:Int=>s=1∨s= -1) (Ok.ite (λ_=>⟨_,rfl,by omega⟩) λ_=>⟨_,rfl,hsi⟩) λs hs'=>?_
  rw[Xl (BD (by omega))]
  refine⟨_,rfl,e s,λx hx=>?_⟩
  rcases List.mem_append.mp hx with z |z
  ·exact hl2 x z
  ·rw[List.mem_singleton.mp z];exact hs'
 rw[Yw] at hl
 obtain⟨hl,hl2⟩:=hl
 obtain⟨j,j0,j1,ej⟩:=hf
 rw[Kh (by decide) (by decide) (by decide) (by decide)]
 simp only[Rs.okb]
 rw[Xl (sz (by simp)),Rs.okb,ej,Rs.okb]
 obtain⟨f,ef,hfm⟩:=O1 (as:=[(1:Int),7,10^(9:Int).toNat]) j0 j1
 have hff:0<f/\f<2^64:=by
  simp only[List.mem_cons,List.not_mem_nil,or_false] at hfm
  rcases hfm with rfl |rfl |rfl<;> decide
 obtain⟨f0,f1⟩:=hff
 rw[ef,Rs.okb]
 rw[Qt (h:=λw=>w.map λx=>x*f) (sz (by omega)) λw' hw'=>Qt (h:=λx=>x*f) (sz (by have:=g1.short hw';omega)) λx _=>Jh (by omega) f1,Rs.okb]
 have hll:l.length=m:=by
  have:=congrArg List.length hl
  simp[nm] at this
  omega
 rw[Qt (h:=λe:Int×Int=>(e.1*f,e.2)) (sz (by omega)) λe _=>by rw[Jh (by omega) f1,Rs.okb],Rs.okb]
 have hk:(l.map λe:Int×Int=>(e.1*f,e.2)).map Prod.fst=(nm sgs.length).map λx=>x*f:=by
  rw[List.map_map,show(Prod.fst∘λe:Int×Int=>(e.1*f,e.2))=(λx=>x*f)∘Prod.fst from rfl, ←List.map_map,hl]
 refine⟨_,rfl,by show(l.map _).length<=_;rw[List.length_map];omega,λe he=>?_,?_,by show(vs.map _).length<=20;rw[List.length_map];have:=g1.lw;omega⟩
 ·obtain⟨x,hx,rfl⟩:=List.mem_map.mp he
  have hx1:x.1∈nm sgs.length:=by rw[←hl];exact List.mem_map_of_mem hx
  obtain⟨k,_,ek⟩:=List.mem_map.mp hx1
  refine⟨?_,hl2 x hx⟩
  show 1<=x.1*f
  rw[←ek]
  have:=Int.mul_le_mul_of_nonneg_right (show(1:Int)<=(k:Int)+1 by omega) (Int.le_of_lt f0)
  omega
 ·show(vs.map λw=>w.map λx=>x*f).flatten.Perm (((l.map λe:Int×Int=>(e.1*f,e.2)).map Prod.fst).flatMap λx=>[x,-x])
  rw[hk,h2]
  have e1:(vs.map λw=>w.map λx=>x*f).flatten=vs.flatten.map λx=>x*f:=by rw[List.map_flatten]
  have e2:((nm m).map λx=>x*f).flatMap (λx=>[x,-x])=(pm (nm m)).map λx=>x*f:=by
   unfold pm
   rw[QC,List.map_flatMap]
   congr 1
   funext x
   simp[Int.neg_mul]
  rw[e1,e2]
  exact g1.perm.map _
theorem Oj {r:List Int}{n:Nat}(h:r.length=n+1):atR r (-1)= .ok (r[n]'(by omega)):=by
 unfold atR atI ixN
 rw[if_neg (by omega),if_pos (by omega)]
 simp only[h,Option.bind_some,show(-1+((n+1:Nat):Int)).toNat=n by omega]
 rw[List.getElem?_eq_getElem (by omega)]
theorem Sb {l:List Int}(h:l.length<=6):(spl l none (some 3) (BF [0,1,0] none (some (l.length:Int)))).length=l.length/\(BF [(0:Int),1,0] none (some (l.length:Int))).length<=3/\∀x∈spl l none (some 3) (BF [0,1,0] none (some (l.length:Int))),x∈l∨x=0∨x=1:=by
 unfold spl BF
 rw[HT.sIx_none,HT.sIx_none,HT.sIx_nat,show HT.sIx l.length l.length (some 3)=min 3 l.length from HT.sIx_nat _ _ 3]
 refine⟨?_,?_,λx hx=>?_⟩
 ·simp;omega
 ·simp;omega
 ·rcases List.mem_append.mp hx with hx |hx
  ·rcases List.mem_append.mp hx with hx |hx
   ·exact .inl (List.mem_of_mem_take hx)
   ·have:=List.mem_of_mem_take hx
    simp at this
    omega
  ·exact .inl (List.mem_of_mem_drop hx)
theorem L7 {l:List Int}{n:Nat}(h:l.length*n<=1000)(hn:n<=1000):Eu l (n:Int)= .ok (List.replicate n l).flatten:=by
 unfold Eu
 rw[Xl ⟨by omega,by omega,by rw[Int.toNat_natCast];exact sz (by omega)⟩,Int.toNat_natCast]
theorem BM {α:Type}{l m:List α}(h:l.length+m.length<=1000):Ld l m= .ok (l++m):=Xl (sz (by omega))
noncomputable def zs:List Int:=[7,3,3,3,2,2,2,2,4,2,60,60,4,4,4,2,60,60,4,4,4,2,60,60,4,4,4,2,60,60,4,4,4,2,60,60,4,4,4,2,60,60,4,4,3]
theorem zs9:∀k:Nat,k<6->zs[6*k+9]?=some 2:=by decide
theorem emd {y:Int}{n:Nat}(h:0<n):∃j:Nat,y % (n:Int)=(j:Int)/\j<n:=by
 have h1:=Int.emod_nonneg y (show(n:Int)≠0 by omega)
 have h2:=Int.emod_lt_of_pos y (show(0:Int)<n by omega)
 exact⟨(y % (n:Int)).toNat,by omega,by omega⟩
theorem Nl (i:Nat):pm (nm (i+1))=pm (nm i)++[(i:Int)+1,-(i:Int)-1]:=by
 unfold pm nm
 rw[List.range_succ,List.map_append,List.flatMap_append]
 congr 1
 show[(i:Int)+1,-((i:Int)+1)]=_
 congr 2
 omega
theorem Mi (i:Nat):(pm (nm i)).length=2*i:=by
 unfold pm
 rw[Q9,LV]
theorem CY (ns:List Int){p:Int}(hp:0<=p):Ok (Gi ns p) (Drawn 6):=by
 unfold Gi Di;dsimp only
 simp only[Rs.okb]
 rw[Xl (sz (by simp)),Rs.okb,Xl (sz (by simp)),Rs.okb,show Eu [(2:Int)] 4= .ok [2,2,2,2] from L7 (n:=4) (by simp) (by omega),Rs.okb,BM (by simp),Rs.okb,Xl (sz (by simp)),Rs.okb,show Eu [(4:Int),2,60,60,4,4] 6=_ from L7 (n:=6) (by simp) (by omega),Rs.okb,BM (by simp),Rs.okb,Xl (sz (by simp)),Rs.okb,BM (by simp),Rs.okb]
 obtain⟨r,er,rl,hr⟩:=MB ns hp zs (by decide) (by decide)
 rw[show([(7:Int),3,3,3]++[2,2,2,2]++(List.replicate 6 [(4:Int),2,60,60,4,4]).flatten++[3])=zs from rfl,er,Ya,Rs.okb]
 have rl:r.length=45:=rl
 have hb:∀(i:Nat) (h:i<45) (s:Int),zs[i]?=some s->0<=r[i]/\r[i]<s:=λi h s e=>hr i r[i] s (by simp[rl,h]) e
 obtain⟨b0,c0⟩:=hb 0 (by omega) 7 rfl
 obtain⟨b3,c3⟩:=hb 3 (by omega) 3 rfl
 rw[YR (r:=r) (k:=3) (n:=3) rfl (by omega),YR (r:=r) (k:=0) (n:=0) rfl (by omega),YR (r:=r) (k:=1) (n:=1) rfl (by omega),YR (r:=r) (k:=2) (n:=2) rfl (by omega)]
 simp only[Rs.okb]
 obtain⟨m,em⟩:∃m:Nat,r[0]=(m:Int):=⟨r[0].toNat,by omega⟩
 obtain⟨S,eS⟩:∃S:Nat,(2:Int)+r[3]=(S:Int):=⟨(2+r[3]).toNat,by omega⟩
 rw[em,eS,ZJ (by omega),Rs.okb]
 refine Ok.bind (Ok.forN (λi (g:List Int×List Int×List Int)=>g.1.length=i/\g.2.1.length=i/\g.2.2=pm (nm i)/\(∀x∈g.1,0<=x/\x+1<(S:Int))/\(∀x∈g.2.1,x=1∨x= -1)) ⟨rfl,rfl,rfl,λx hx=>(by cases hx),λx hx=>(by cases hx)⟩ λi a g ha hg=>?_) λg hg=>?_
 ·obtain⟨rfl,hi⟩:=YJ ha
  obtain⟨g1,g2,g3,g4,g5⟩:=hg
  have g3l:=Mi i
  rw[Ja (by decide) (by decide)]
  simp only[Rs.okb]
  rw[YR (r:=r) (n:=6*i+8) (by omega) (by omega)]
  simp only[Rs.okb]
  rw[YR (r:=r) (n:=6*i+9) (by omega) (by omega)]
  simp only[Rs.okb]
  obtain⟨d0,d1⟩:=hb (6*i+9) (by omega) 2 (zs9 i (by omega))
  obtain⟨j,ej,hj⟩:=emd (y:=r[6*i+8]) (n:=S-1) (by omega)
  rw[show((S-1:Nat):Int)=(S:Int)-1 by omega] at ej
  rw[Zx (by omega),Rs.okb,ej,Ja (by decide) (by decide)]
  simp only[Rs.okb]
  rw[Xl (BD (by omega)),Xl (BD (by omega)),Xl (sz (by simp)),Rs.okb,Xl (sz (by rw[g3];simp;omega))]
  refine⟨_,rfl,by simp[g1],by simp[g2],by rw[g3,Nl],λx hx=>?_,λx hx=>?_⟩
  ·rcases List.mem_append.mp hx with z |z
   ·exact g4 x z
   ·rw[List.mem_singleton.mp z];omega
  ·rcases List.mem_append.mp hx with z |z
   ·exact g5 x z
   ·rw[List.mem_singleton.mp z];omega
 rw[Yw] at hg
 obtain⟨g1,g2,g3,g4,g5⟩:=hg
 refine Ok.bind (R:=λl:List Int=>l.length=m/\∀x∈l,0<=x/\x+1<(S:Int)) ?_ λl hl=>?_
 ·rw[Md (c:=decide ((2:Int)<(S:Int))) λ_=>rfl,Rs.okb]
  refine Ok.ite (λhb=>?_) λ_=>⟨_,rfl,g1,g4⟩
  have h3:(2:Int)<(S:Int):=by
   simp only[Bool.and_eq_true,decide_eq_true_eq] at hb
   exact hb.2
  obtain⟨y1,y2,y3⟩:=Sb (l:=g.1) (by omega)
  rw[Xl (sz (by simp)),Rs.okb,Rs.okb,Xl (sz (by omega))]
  refine⟨_,rfl,by omega,λx hx=>?_⟩
  rcases y3 x hx with z |z
  ·exact g4 x z
  ·omega
 obtain⟨ws,ew,hw⟩:=HN hl.1 g2 (by omega) (by omega) (by omega) hl.2 g5
 rw[ew,Ya,Rs.okb]
 obtain⟨b44,c44⟩:=hb 44 (by omega) 3 rfl
 have e44:atR r (-1)= .ok r[44]:=Oj (n:=44) rl
 refine Ok.bind (R:=WkP m) ?_ λvs hv=>(GW hv g2 g5 (by omega) (by omega) ⟨r[44],b44,c44,e44⟩).noE
 refine Ok.ite (λ_=>?_) λ_=>⟨_,rfl,hw⟩
 rw[ZJ (by omega),Rs.okb,Qt (h:=λ_=>([]:List Int)) (sz (by simp;omega)) λ_ _=>rfl]
 simp only[Rs.okb]
 rw[Ja (by decide) (by decide),Rs.okb,show(2:Int)*(m:Int)=((2*m:Nat):Int) by omega,ZJ (by omega)]
 simp only[Rs.okb]
 refine Ok.bind (Ok.forN (λi (g:List Int×List (List Int))=>g.2.length=S/\g.1.length+i=2*m/\(∀w∈g.2,w.length<=i)/\(g.2.flatten++g.1).Perm (pm (nm m))) ⟨by simp,by show g.2.2.length+0=_;rw[g3,Mi];rfl,λw hw=>?_,?_⟩ λi a g ha hg=>?_) λg hg=>?_
 ·obtain⟨_,_,rfl⟩:=List.mem_map.mp hw
  exact Nat.zero_le _
 ·have:∀l:List Int,(l.map λ_=>([]:List Int)).flatten=[]:=λl=>by simp
  rw[this,g3];exact List.Perm.refl _
 ·obtain⟨rfl,hi⟩:=YJ ha
  obtain⟨h1,h2,h3,h4⟩:=hg
  rw[ES (by decide) (by decide),Rs.okb,Ja (by decide) (by decide),Rs.okb,Zx (by decide)]
  simp only[Rs.okb]
  rw[YR (r:=r) (n:=6*(i/2)+i % 2+10) (by omega) (by omega),YR (r:=r) (n:=6*(i/2)+i % 2+12) (by omega) (by omega)]
  simp only[Rs.okb]
  obtain⟨j,ej,hj⟩:=emd (y:=r[6*(i/2)+i % 2+10]) (n:=g.1.length) (by omega)
  obtain⟨q,eq,hq⟩:=emd (y:=r[6*(i/2)+i % 2+12]) (n:=S) (by omega)
  rw[Zx (by omega),Rs.okb,ej,Rh hj (by omega),Rs.okb,Zx (by omega),Rs.okb,eq]
  have hq:q<g.2.length:=by omega
  have hw:=h3 g.2[q] (List.getElem_mem hq)
  rw[YR (n:=q) rfl hq,Rs.okb,Xl (BD (by omega)),KW hq,Rs.okb]
  have hjs:g.1[j]?=some g.1[j]:=by simp[hj]
  have hqs:g.2[q]?=some g.2[q]:=by simp[hq]
  refine⟨_,rfl,by simp[h1],?_,λw hw'=>?_,(HR hqs hjs).trans h4⟩
  ·have:=GE hjs
   show(g.1.eraseIdx j).length+(i+1)=_
   omega
  ·rcases mem_set hw' with h |h
   ·have:=h3 w h;omega
   ·rw[h];simp;omega
 ·obtain⟨h1,h2,h3,h4⟩:=hg
  rw[Yw] at h2
  have:g.1=[]:=List.length_eq_zero_iff.mp (by omega)
  rw[this,List.append_nil] at h4
  exact⟨_,rfl,by omega,h4⟩
noncomputable def MG (N:Int)(m:Int×Int×Int×Int×Int):Prop:=(m.2.1=1∨m.2.1= -1)/\(0<=m.2.2.1/\m.2.2.1<N)/\(0<=m.2.2.2.1/\m.2.2.2.1<N)/\(0<=m.2.2.2.2/\m.2.2.2.2<N)
noncomputable def held (f:Nat->Nat->Nat)(cn:Int->Nat)(m:Int×Int×Int×Int×Int):Bool:=if m.2.1=1 then decide ((f (cn m.2.2.2.1) (cn m.2.2.1):Int)=cn m.2.2.2.2) else decide ((f (cn m.2.2.2.2) (cn m.2.2.1):Int)=cn m.2.2.2.1)
section
variable {n:Nat}{f:Nat->Nat->Nat}{c:List Int}{cn:Int->Nat}{N:Int}
noncomputable def Vd (m:Int×Int×Int×Int×Int):Int×Int×Int:=if m.2.1=1 then(m.2.2.2.1,m.2.2.1,m.2.2.2.2) else(m.2.2.2.2,m.2.2.1,m.2.2.2.1)
theorem ML {D:List (List Int)×List (Int×Int)}{ms:List (Int×Int×Int×Int×Int)}(h:Vk D= .ok ms)(hl:ms.length<=1000):Cl D= .ok (ms.map Vd):=by
 unfold Cl HV;dsimp only
 simp only[Rs.okb]
 rw[h]
 simp only[Rs.okb]
 rw[Uk (h:=Vd) (sz (by simp;omega)) λg hg e he=>?_]
 ·rw[Rs.okb,List.nil_append]
 ·unfold Vd
  by_cases s:e.2.1=1
  ·rw[if_pos (decide_eq_true s),if_pos s]
   simp only[Rs.okb]
   exact Xl hg
  ·rw[if_neg (by rw[decide_eq_true_eq];exact s),if_neg s]
   simp only[Rs.okb]
   exact Xl hg
theorem F4 {ms:List (Int×Int×Int×Int×Int)}(hl:ms.length<=1000)(hc:∀k,0<=k->k<N->atR c k= .ok (cn k:Int)/\cn k<n)(hm:∀m∈ms,MG N m):Qg (Vw n f) c (ms.map Vd)= .ok (ms.all (held f cn)):=by
 unfold Qg
 simp only[Rs.okb]
 rw[Qt (h:=λt:Int×Int×Int=>decide ((f (cn t.1) (cn t.2.1):Int)=cn t.2.2)) (sz (by simp;omega)) λt ht=>?_]
 ·rw[Rs.okb,List.map_map]
  congr 1
  rw[List.all_map]
  refine congrArg (λF=>ms.all F) (funext λm=>?_)
  show decide _=held f cn m
  unfold held Vd
  by_cases s:m.2.1=1
  ·simp only[if_pos s]
  ·simp only[if_neg s]
 ·obtain⟨m,h,rfl⟩:=List.mem_map.mp ht
  obtain⟨s,⟨o0,o1⟩,⟨a0,a1⟩,b0,b1⟩:=hm m h
  have key:∀x y z:Int,0<=x->x<N->0<=y->y<N->0<=z->z<N->((((atR c x).bind λx9=>atR (Vw n f) x9).bind λx12=>(atR c y).bind λx13=>atR x12 x13).bind λx16=>(atR c z).bind λx17=>(Rs.ok (decide (x16=x17)):Rs Bool))= .ok (decide ((f (cn x) (cn y):Int)=cn z)):=λx y z x0 x1 y0 y1 z0 z1=>by
   rw[(hc x x0 x1).1,(hc y y0 y1).1,(hc z z0 z1).1]
   simp only[Rs.okb]
   rw[PH (hc x x0 x1).2]
   simp only[Rs.okb]
   rw[P9 (hc y y0 y1).2]
   simp only[Rs.okb]
  unfold Vd
  by_cases s:m.2.1=1
  ·rw[if_pos s];exact key _ _ _ a0 a1 o0 o1 b0 b1
  ·rw[if_neg s];exact key _ _ _ b0 b1 o0 o1 a0 a1
end
theorem MY {c:List Int}{n:Nat}{N:Int}(hN:(c.length:Int)=N)(hc:∀x∈c,0<=x/\x<(n:Int)):∀k,0<=k->k<N->atR c k= .ok (((c.getD k.toNat 0).toNat:Nat):Int)/\(c.getD k.toNat 0).toNat<n:=λk k0 k1=>by
 have hk:k.toNat<c.length:=by omega
 have hx:=hc c[k.toNat] (List.getElem_mem hk)
 have e:c.getD k.toNat 0=c[k.toNat]:=by simp[hk]
 rw[e]
 refine⟨?_,by omega⟩
 rw[YR (n:=k.toNat) (by omega) hk]
 congr 1
 omega
theorem RJ (o a b:Int):Je [o,a,b]=max (max o a) b:=rfl
theorem Nj {n i j:Nat}(hn:0<n)(h:i<=j):n^i<=n^j:=Nat.pow_le_pow_right hn h
theorem Om {c:List Int}{n k:Nat}(hl:c.length=k)(hc:∀x∈c,0<=x/\x<(n:Int)):∀j,0<=j->j<(k:Int)->atR c j= .ok (((c.getD j.toNat 0).toNat:Nat):Int)/\(c.getD j.toNat 0).toNat<n:=MY (by omega) hc
theorem HD (a b:Bool):OQ (.ok a) (.ok b)= .ok (a&&b):=Md λ_=>rfl
theorem Pn (a b:Bool):orR (.ok a) (.ok b)= .ok (a || b):=RN λ_=>rfl
theorem S5 (f:Int)(n:Nat):(List.replicate n [f]).flatten=(List.range n).map λ_=>f:=by
 induction n with
 |zero=>rfl
 |succ n ih=>rw[List.replicate_succ,List.flatten_cons,ih,List.range_succ_eq_map,List.map_cons,List.map_map];rfl
theorem Il {ws:List (List Int)}(hd:ws.length<=1000)(hw:∀w∈ws,w.length<=1000):VW ws= .ok (XW ws 0):=by
 unfold VW KA;dsimp only
 simp only[Rs.okb]
 apply Ok.eq
 refine Ok.bind (Ok.forN (λi (g:Int×List (List Int))=>g=(XQ (ws.take i),XW (ws.take i) 0)) rfl λi w g ha hg=>?_) λg hg=>?_
 ·have hi:=(List.getElem?_eq_some_iff.mp ha).1
  subst hg
  have hal:=hw w (List.mem_of_getElem? ha)
  generalize hf:XQ (ws.take i)=f
  rw[ZJ (by omega),Rs.okb]
  refine Ok.bind (Ok.forN (λk (l:Int)=>LastIs w k l) (LastIs.zero w) λk b l hb hl=>?_) λlast hlast=>?_
  ·obtain⟨rfl,hk⟩:=YJ hb
   have hks:w[k]?=some w[k]:=by simp[hk]
   rw[YO hks]
   simp only[Rs.okb]
   by_cases c:w[k]<0
   ·rw[if_pos (decide_eq_true c),Rs.okb]
    exact⟨_,rfl,LastIs.neg hks c⟩
   ·rw[if_neg (by rw[decide_eq_true_eq];exact c),Rs.okb]
    exact⟨_,rfl,hl.pos hks c⟩
  rw[Yw] at hlast
  rw[Xl (sz (by simp))]
  simp only[Rs.okb]
  rw[show max (w.length:Int) 1=((max w.length 1:Nat):Int) by omega]
  rw[show Eu [f] ((max w.length 1:Nat):Int)= .ok ((List.range (max w.length 1)).map λ_=>f) from by
   unfold Eu
   rw[Xl ⟨by omega,by omega,sz (by simp;omega)⟩,Int.toNat_natCast,S5]]
  simp only[Rs.okb]
  have hlb: -1<=last/\last<(w.length:Int):=⟨hlast.lo,hlast.hi⟩
  rw[show last+1=(((last+1).toNat:Nat):Int) by omega,ZJ (by omega),Rs.okb]
  refine Ok.bind (Ok.forN (λk (h:List Int×Int×Int)=>h.1=((List.range (max w.length 1)).map λj=>if j<k then f+(Yr (w.take j):Int) else f)/\h.2.1=f+(Yr (w.take (min k last.toNat)):Int)/\h.2.2=f+(Yr (w.take (min k last.toNat)):Int)) ⟨by simp,by simp[Yr],by simp[Yr]⟩ λk b h hb hh=>?_) λh hh=>?_
  ·obtain⟨rfl,hk⟩:=YJ hb
   obtain⟨h1,h2,h3⟩:=hh
   have hkl:k<w.length:=by omega
   have hks:w[k]?=some w[k]:=by simp[hkl]
   rw[Nat.min_eq_left (by omega)] at h2 h3
   rw[h1,KW (by simp;omega),Rs.okb,YO hks]
   simp only[Rs.okb,HD]
   have hset:(((List.range (max w.length 1)).map λj=>if j<k then f+(Yr (w.take j):Int) else f).set k h.2.2)=(List.range (max w.length 1)).map λj=>if j<k+1 then f+(Yr (w.take j):Int) else f:=EX (by omega) (by rw[if_pos (by omega),h3]) λj hj hne=>by
    by_cases c:j<k
    ·rw[if_pos c,if_pos (by omega)]
    ·rw[if_neg c,if_neg (by omega)]
   rw[hset]
   have hn:=Zm hks
   by_cases c:w[k]<0/\(k:Int)<last
   ·rw[if_pos (by rw[Bool.and_eq_true,decide_eq_true_eq,decide_eq_true_eq];exact c),Rs.okb]
    rw[V9 c.1] at hn
    refine⟨_,rfl,rfl,?_,?_⟩
    ·show h.2.1+1=_
     rw[Nat.min_eq_left (by omega),hn,h2];omega
    ·show h.2.1+1=_
     rw[Nat.min_eq_left (by omega),hn,h2];omega
   ·rw[if_neg (by rw[Bool.and_eq_true,decide_eq_true_eq,decide_eq_true_eq];exact c),Rs.okb]
    have hst:Yr (w.take (min (k+1) last.toNat))=Yr (w.take k):=by
     by_cases c2:(k:Int)<last
     ·have c3:¬w[k]<0:=λz=>c ⟨z,c2⟩
      rw[V6 c3] at hn
      rw[Nat.min_eq_left (by omega),hn,Nat.add_zero]
     ·rw[Nat.min_eq_right (by omega),show last.toNat=k by omega]
    refine⟨_,rfl,rfl,?_,?_⟩
    ·show h.2.1=_
     rw[hst,h2]
    ·show h.2.2=_
     rw[hst,h3]
  ·rw[Yw] at hh
   obtain⟨h1,h2,_⟩:=hh
   rw[Xl (BD (by rw[Yl,List.length_take];omega))]
   have hce:=Em hlast
   rw[Nat.min_eq_right (by omega)] at h2
   refine⟨_,rfl,?_⟩
   rw[JX ha,JY ha,Int.zero_add,hf,h1,h2]
   have e1:f+(Yr (w.take last.toNat):Int)+1=f+(QQ w:Int):=by omega
   have e2:((List.range (max w.length 1)).map λj=>if j<(last+1).toNat then f+(Yr (w.take j):Int) else f)=ZU w f:=by
    unfold ZU
    refine List.map_congr_left λj _=>?_
    by_cases c:j<(last+1).toNat
    ·rw[if_pos c,HU hlast (by omega)]
    ·rw[if_neg c,Lg hlast (by omega)]
   rw[e1,e2]
 ·subst hg
  rw[List.take_length]
  exact⟨_,rfl,rfl⟩
theorem Db:∀{ws:List (List Int)}{x:Int},x∈ws.flatten->∃i j w,Spot ws x i j w
 | [],x,h=>by simp at h
 |w::ws,x,h=>by
  by_cases c:x∈w
  ·obtain⟨j,h1,h2⟩:=CF c
   exact⟨0,j,w,rfl,h1,h2,λi' w' hi _=>by omega⟩
  ·have hx:x∈ws.flatten:=by
    rw[List.flatten_cons,List.mem_append] at h
    exact h.resolve_left c
   obtain⟨i,j,v,s⟩:=Db hx
   refine⟨i+1,j,v,by simpa using s.wi,s.xj,s.first,λi' w' hi hw=>?_⟩
   cases i' with
   |zero=>
    have:w=w':=by simpa using hw
    exact this▸c
   |succ i'=>exact s.none i' w' (by omega) (by simpa using hw)
theorem Vb (ws:List (List Int)):0<=XQ ws:=by
 induction ws with
 |nil=>exact Int.le_refl _
 |cons w ws ih=>rw[QI];omega
theorem Eg {ws:List (List Int)}{i j:Nat}{w r:List Int}{o:Int}(hw:ws[i]?=some w)(hr:(XW ws 0)[i]?=some r)(ho:r[j]?=some o):0<=o/\o<XQ ws:=by
 rw[UV hw] at hr
 cases hr
 have hj:=(List.getElem?_eq_some_iff.mp ho).1
 rw[QH] at hj
 rw[Kc w _ hj] at ho
 have ho':=Option.some.inj ho
 have hp:=K7 w
 have m0:=Int.emod_nonneg (Yr (w.take j):Int) (show(QQ w:Int)≠0 by omega)
 have m1:=Int.emod_lt_of_pos (Yr (w.take j):Int) (show(0:Int)<(QQ w:Int) by omega)
 have t0:=Vb (ws.take i)
 have t1:XQ ws=XQ (ws.take (i+1))+XQ (ws.drop (i+1)):=by rw[←Ki,List.take_append_drop]
 have t2:=Vb (ws.drop (i+1))
 rw[JY hw] at t1
 omega
structure DG (D:List (List Int)×List (Int×Int)):Prop where
 few:D.1.length<=1000
 short:∀w∈D.1,w.length<=1000
 le:D.2.length<=1000
 mem:∀e∈D.2,e.1∈D.1.flatten/\ -e.1∈D.1.flatten
 sg:∀e∈D.2,e.2=1∨e.2= -1
 count:XQ D.1=(D.2.length:Int)+(Ej D.1:Int)
theorem Fg {D:List (List Int)×List (Int×Int)}(h:DG D):∃ms,Vk D= .ok ms/\ms.length=D.2.length/\∀m∈ms,MG (XQ D.1) m:=by
 have key:∀e:Int×Int,∃v:Int×Int×Int×Int×Int,e∈D.2->∃(i j k l:Nat) (w w' r r':List Int),Spot D.1 e.1 i j w/\Spot D.1 (-e.1) k l w'/\(XW D.1 0)[i]?=some r/\r[j]?=some v.2.2.1/\(XW D.1 0)[k]?=some r'/\r'.length=w'.length/\0<w'.length/\r'[l]?=some v.2.2.2.1/\r'[(l+1) % w'.length]?=some v.2.2.2.2/\v.1=e.1/\v.2.1=e.2:=λe=>by
  by_cases he:e∈D.2
  ·obtain⟨i,j,w,s1⟩:=Db (h.mem e he).1
   obtain⟨k,l,w',s2⟩:=Db (h.mem e he).2
   obtain⟨r,hr,hrl,hj⟩:=s1.row
   obtain⟨r',hr',hrl',hl⟩:=s2.row
   have hm:(l+1) % w'.length<r'.length:=by rw[hrl'];exact Nat.mod_lt _ (by omega)
   exact⟨(e.1,e.2,r[j],r'[l],r'[(l+1) % w'.length]),λ_=>⟨i,j,k,l,w,w',r,r',s1,s2,hr,by simp,hr',hrl',by omega,by simp,by simp,rfl,rfl⟩⟩
  ·exact⟨(0,0,0,0,0),λz=>absurd z he⟩
 obtain⟨v,hv⟩:=Classical.axiomOfChoice key
 refine⟨D.2.map v,?_,by simp,λm hm=>?_⟩
 ·unfold Vk Fr;dsimp only
  simp only[Rs.okb]
  rw[MJ h.few h.short,Ya]
  simp only[Rs.okb]
  rw[Uk (h:=v) (sz (by have:=h.le;simp;omega)) λg hg e he=>?_]
  ·rw[Rs.okb,List.nil_append]
  ·obtain⟨i,j,k,l,w,w',r,r',s1,s2,h1,h2,h3,h4,h5,h6,h7,h8,h9⟩:=hv e he
   have hm:((l:Int)+1) % (r'.length:Int)=(((l+1) % w'.length:Nat):Int):=by rw[h4,Int.natCast_emod];rfl
   rw[E9 s1,E9 s2]
   simp only[Rs.okb]
   rw[YO h1,YO h3]
   simp only[Rs.okb]
   rw[YO h2,YO h6]
   simp only[Rs.okb]
   rw[Zx (by omega),hm]
   simp only[Rs.okb]
   rw[YO h7]
   simp only[Rs.okb]
   rw[Xl hg]
   congr 2
   rw[←h8, ←h9]
 ·obtain⟨e,he,rfl⟩:=List.mem_map.mp hm
  obtain⟨i,j,k,l,w,w',r,r',s1,s2,h1,h2,h3,h4,h5,h6,h7,h8,h9⟩:=hv e he
  exact⟨by rw[h9];exact h.sg e he,Eg s1.wi h1 h2,Eg s2.wi h3 h6,Eg s2.wi h3 h7⟩
theorem Uh {α β:Type}{F:List β->α->Rs (List β)}{p:α->Bool}{h:α->β}:∀{as:List α}{g:List β},g.length+as.length<=100000->(∀(g:List β) a,a∈as->g.length<100000->F g a= .ok (if p a=true then g++[h a] else g))->forN as g F= .ok (g++(as.filter p).map h)
 | [],g,_,_=>by rw[List.filter_nil,List.map_nil,List.append_nil];rfl
 |a::as,g,hl,hf=>by
  show(F g a).bind _=_
  rw[List.length_cons] at hl
  rw[hf g a List.mem_cons_self (by omega),Rs.okb]
  cases hp:p a with
  |true=>
   rw[if_pos rfl,List.filter_cons_of_pos hp,List.map_cons]
   refine(Uh (by simp;omega) λg b hb=>hf g b (List.mem_cons_of_mem _ hb)).trans ?_
   rw[List.append_assoc];rfl
  |false=>
   rw[if_neg Bool.false_ne_true,List.filter_cons_of_neg (by rw[hp];exact Bool.false_ne_true)]
   exact Uh (by omega) λg b hb=>hf g b (List.mem_cons_of_mem _ hb)
noncomputable abbrev M5:=Int×Int×Int×Int×Int
noncomputable def Ou (c:List Int)(i:Int):Nat:=(c.getD i.toNat 0).toNat
noncomputable def F1 (n:Nat)(f:Nat->Nat->Nat)(ms:List M5)(c:List Int):List (List Int):=((((List.range n).map λ(i:Nat)=>(i:Int))).filter λj=>ms.all (held f (Ou (c++[j])))).map λj=>c++[j]
noncomputable def Gc (n:Nat)(f:Nat->Nat->Nat)(ms:List M5)(T:List (List Int)):List (List Int):=T.flatMap (F1 n f ms)
noncomputable def Bw (k:Nat)(m:M5):Bool:=decide (Je [m.2.2.1,m.2.2.2.1,m.2.2.2.2]=(k:Int))
noncomputable def TT (n:Nat)(f:Nat->Nat->Nat)(ms:List M5):Nat->List (List Int)
 |0=>[[]]
 |k+1=>Gc n f (ms.filter (Bw k)) (TT n f ms k)
noncomputable def RA (n k:Nat)(T:List (List Int)):Prop:=T.length<=n^k/\∀c∈T,c.length=k/\∀x∈c,0<=x/\x<(n:Int)
section
variable {n:Nat}{f:Nat->Nat->Nat}{ms:List M5}
theorem DY (c:List Int):(F1 n f ms c).length<=n:=by
 unfold F1
 rw[List.length_map]
 exact Nat.le_trans (List.length_filter_le ..) (by simp)
theorem Ca:∀T:List (List Int),(Gc n f ms T).length<=T.length*n
 | []=>by simp[Gc]
 |c::T=>by
  have h:=Ca T
  have h2:=DY (n:=n) (f:=f) (ms:=ms) c
  unfold Gc at h⊢
  rw[List.flatMap_cons,List.length_append,List.length_cons,Nat.succ_mul]
  omega
theorem BS {k:Nat}{T:List (List Int)}(h:RA n k T):RA n (k+1) (Gc n f ms T):=by
 refine⟨Nat.le_trans (Ca T) (by rw[Nat.pow_succ];exact Nat.mul_le_mul_right n h.1),λd hd=>?_⟩
 obtain⟨c,hc,hd⟩:=List.mem_flatMap.mp hd
 unfold F1 at hd
 obtain⟨j,hj,rfl⟩:=List.mem_map.mp hd
 obtain⟨i,hi,rfl⟩:=UG (List.mem_filter.mp hj).1
 obtain⟨h1,h2⟩:=h.2 c hc
 refine⟨by simp[h1],λx hx=>?_⟩
 rcases List.mem_append.mp hx with z |z
 ·exact h2 x z
 ·rw[List.mem_singleton] at z;omega
theorem Et:∀k,RA n k (TT n f ms k)
 |0=>⟨by simp[TT],λc hc=>by
  have:c=[]:=by simpa[TT] using hc
  subst this
  exact⟨rfl,λx hx=>by cases hx⟩⟩
 |k+1=>BS (Et k)
theorem outer {F:List (List Int)->List Int->Rs (List (List Int))}{T:List (List Int)}(hT:T.length*n<=90000)(hF:∀(g:List (List Int)) c,c∈T->g.length+n<=90000->F g c= .ok (g++F1 n f ms c)):forN T [] F= .ok (Gc n f ms T):=by
 obtain⟨r,e,h⟩:=KI (f:=F) (λi (g:List (List Int))=>g=(T.take i).flatMap (F1 n f ms)/\g.length<=i*n) (as:=T) (g:=[]) ⟨by simp,by simp⟩ λi c g hc hg=>by
  have hi:=(List.getElem?_eq_some_iff.mp hc).1
  obtain⟨h1,h2⟩:=hg
  have h3:(i+1)*n<=T.length*n:=Nat.mul_le_mul_right n (by omega)
  rw[Nat.succ_mul] at h3
  refine⟨_,hF g c (List.mem_of_getElem? hc) (by omega),?_,?_⟩
  ·rw[List.take_add_one,hc,List.flatMap_append, ←h1]
   simp
  ·rw[List.length_append,Nat.succ_mul]
   have:=DY (n:=n) (f:=f) (ms:=ms) c
   omega
 rw[e,h.1,List.take_length]
 rfl
theorem Rj {N:Int}(hm:∀m∈ms,MG N m)(k:Nat):∀m∈ms.filter (Bw k),MG ((k+1:Nat):Int) m:=λm h=>by
 obtain⟨h1,h2⟩:=List.mem_filter.mp h
 unfold Bw at h2
 rw[decide_eq_true_eq,RJ] at h2
 obtain⟨s,o,a,b⟩:=hm m h1
 exact⟨s,⟨o.1,by omega⟩,⟨a.1,by omega⟩,b.1,by omega⟩
theorem RY {c:List Int}{k:Nat}(h1:c.length=k)(h2:∀x∈c,0<=x/\x<(n:Int)){j:Nat}(hj:j<n):∀i,0<=i->i<((k+1:Nat):Int)->atR (c++[(j:Int)]) i= .ok (Ou (c++[(j:Int)]) i:Int)/\Ou (c++[(j:Int)]) i<n:=
 Om (k:=k+1) (by simp[h1]) λx hx=>by
  rcases List.mem_append.mp hx with z |z
  ·exact h2 x z
  ·rw[List.mem_singleton] at z;omega
theorem SY {c:List Int}{j:Int}(h:c.length<=1000):((chk ([j].length<=sizeLine) (Rs.ok [j])).bind λx=>Ld c x)= .ok (c++[j]):=by
 rw[Xl (sz (by simp)),Rs.okb]
 exact Xl (sz (by simp;omega))
theorem Ii {N:Int}{k:Nat}{T:List (List Int)}(hk:k<=900)(hl:ms.length<=1000)(hm:∀m∈ms,MG N m)(hT:RA n k T)(hb:T.length*n<=90000)(hn:n<=1000):YV T (Vw n f) ((ms.filter (Bw k)).map Vd)= .ok (Gc n f (ms.filter (Bw k)) T):=by
 unfold YV ZD;dsimp only
 simp only[Rs.okb,Jf]
 rw[outer (n:=n) (f:=f) (ms:=ms.filter (Bw k)) hb,Rs.okb]
 intro g c hc hg
 obtain⟨h1,h2⟩:=hT.2 c hc
 rw[ZJ (by omega),Rs.okb,Uh (p:=λj=>(ms.filter (Bw k)).all (held f (Ou (c++[j])))) (h:=λj=>c++[j]) (by simp;omega),Rs.okb]
 ·rfl
 intro g' a ha hg'
 obtain⟨j,hj,rfl⟩:=UG ha
 rw[SY (by omega),Rs.okb,F4 (cn:=Ou (c++[(j:Int)])) (Nat.le_trans (List.length_filter_le ..) hl) (RY h1 h2 hj) (Rj hm k),Ya,Rs.okb]
 cases(ms.filter (Bw k)).all (held f (Ou (c++[(j:Int)]))) with
 |true=>rw[if_pos rfl,Xl (BD (by omega))];rfl
 |false=>rw[if_neg Bool.false_ne_true];rfl
theorem Oi (k:Nat):(ms.map Vd).filter (λt=>decide (Je [t.1,t.2.1,t.2.2]=(k:Int)))=(ms.filter (Bw k)).map Vd:=by
 induction ms with
 |nil=>rfl
 |cons m t ih=>
  have e:decide (Je [(Vd m).1,(Vd m).2.1,(Vd m).2.2]=(k:Int))=Bw k m:=by
   unfold Vd Bw
   rw[RJ]
   by_cases s:m.2.1=1
   ·rw[if_pos s,RJ]
    congr 1
    rw[Int.max_comm m.2.2.2.1 m.2.2.1]
   ·rw[if_neg s,RJ]
    congr 1
    rw[Int.max_comm m.2.2.2.2 m.2.2.1,Int.max_assoc,Int.max_comm m.2.2.2.2, ←Int.max_assoc]
  rw[List.map_cons,List.filter_cons,List.filter_cons,e,ih]
  cases Bw k m<;> rfl
end
theorem Le (ws:List (List Int)):Ej ws<=ws.length:=by
 unfold Ej
 exact List.length_filter_le ..
theorem DG.of {most:Nat}{D:List (List Int)×List (Int×Int)}(h:Drawn most D)(hm:most<=100):DG D where
 few:=by have:=h.few;omega
 short:=λw hw=>by
  have h1:=h.perm.length_eq
  rw[Q9,List.length_map] at h1
  have h2:=(List.sublist_flatten_of_mem hw).length_le
  have:=h.le
  omega
 le:=by have:=h.le;omega
 mem:=λe he=>by
  have hm:e.1∈D.2.map Prod.fst:=List.mem_map.mpr ⟨e,he,rfl⟩
  exact⟨h.perm.mem_iff.mpr (List.mem_flatMap.mpr ⟨_,hm,by simp⟩),h.perm.mem_iff.mpr (List.mem_flatMap.mpr ⟨_,hm,by simp⟩)⟩
 sg:=λe he=>(h.pos e he).2
 count:=by
  rw[VB,Ew h.perm,Eh λx hx=>?_,List.length_map]
  obtain⟨e,he,rfl⟩:=List.mem_map.mp hx
  exact(h.pos e he).1
structure Dw (D:List (List Int)×List (Int×Int))(K:Nat):Prop where
 dg:DG D
 arcs:XQ D.1=(K:Int)
 le:K<=40
theorem Dw.of {D:List (List Int)×List (Int×Int)}(h:Drawn 12 D):∃K,Dw D K:=by
 have d:=DG.of h (by decide)
 refine⟨(XQ D.1).toNat,d,by have:=Vb D.1;omega,?_⟩
 have:=d.count
 have:=Le D.1
 have:=h.few
 have:=h.le
 omega
theorem Hw:∀{l:List Int}{a:Int},a∈l->(∀x∈l,x<=a)->Je l=a:=by
 intro l
 have key:∀(l:List Int) (b:Int),(∀x∈l,x<=Je (b::l))/\b<=Je (b::l)/\Je (b::l)∈b::l:=by
  intro l
  induction l with
  |nil=>intro b;exact⟨λx hx=>(nomatch hx),Int.le_refl _,List.mem_cons_self⟩
  |cons c l ih=>
   intro b
   obtain⟨h1,h2,h3⟩:=ih (max b c)
   have e:Je (b::c::l)=Je (max b c::l):=rfl
   rw[e]
   refine⟨λx hx=>?_,by omega,?_⟩
   ·rcases List.mem_cons.mp hx with rfl |hx
    ·omega
    ·exact h1 x hx
   ·rcases List.mem_cons.mp h3 with z |z
    ·rw[z]
     by_cases q:b<=c
     ·rw[Int.max_eq_right q];simp
     ·rw[Int.max_eq_left (by omega)];simp
    ·exact List.mem_cons_of_mem _ (List.mem_cons_of_mem _ z)
 intro a ha hb
 cases l with
 |nil=>cases ha
 |cons b l=>
  obtain⟨h1,h2,h3⟩:=key l b
  have h4:=hb _ h3
  rcases List.mem_cons.mp ha with rfl |z
  ·omega
  ·have:=h1 a z;omega
theorem LU:∀{w:List Int}{v:Nat},v<Yr w->∃k,k<w.length/\Yr (w.take k)=v
 | [],v,h=>by
  have:Yr []=0:=rfl
  omega
 |x::w,v,h=>by
  by_cases c:v=0
  ·exact⟨0,by simp,by subst c;rfl⟩
  ·have e:∀u:List Int,Yr (x::u)=Yr [x]+Yr u:=λu=>JA [x] u
   rw[e] at h
   have h1:=FK [x]
   have h1:Yr [x]<=1:=h1
   obtain⟨k,hk,hn⟩:=LU (w:=w) (v:=v-Yr [x]) (by omega)
   refine⟨k+1,by simpa using hk,?_⟩
   rw[List.take_succ_cons,e,hn]
   omega
theorem OD (w:List Int)(f:Int):Je (ZU w f)=f+(QQ w:Int)-1:=by
 have hp:=K7 w
 refine Hw ?_ λx hx=>?_
 ·have:∃k,k<max w.length 1/\Yr (w.take k)=QQ w-1:=by
   by_cases c:Yr w=0
   ·exact⟨0,by omega,by unfold QQ;rw[c];rfl⟩
   ·obtain⟨k,h1,h2⟩:=LU (w:=w) (v:=Yr w-1) (by omega)
    exact⟨k,by omega,by unfold QQ;omega⟩
  obtain⟨k,h1,h2⟩:=this
  have:=Kc w f h1
  rw[h2,Int.emod_eq_of_lt (by omega) (by omega)] at this
  refine List.mem_of_getElem? (this.trans ?_)
  congr 1
  omega
 ·obtain⟨k,hk,rfl⟩:=List.mem_map.mp hx
  have:=Int.emod_lt_of_pos (Yr (w.take k):Int) (show(0:Int)<(QQ w:Int) by omega)
  omega
theorem Lj {D:List (List Int)×List (Int×Int)}{K:Nat}(h:Dw D K):Km D= .ok (K:Int):=by
 have hl:=h.dg.few
 unfold Km FI;dsimp only
 simp only[Rs.okb]
 rw[Xl (sz (by simp)),Rs.okb,Il h.dg.few h.dg.short,Ya,Rs.okb]
 have hall:∀(ws:List (List Int)) (f:Int),(XW ws f).length=ws.length/\Ed (XW ws f) OP=(chk ((XW ws f).length<=sizeLine) (.ok ((XW ws f).map Je))):=λws f=>by
  refine⟨Yl ws f,?_⟩
  unfold Ed
  congr 1
  refine Dq λr hr=>?_
  have hne:∀(ws:List (List Int)) (f:Int) (r:List Int),r∈XW ws f->0<r.length:=λws=>by
   induction ws with
   |nil=>intro f r hr;cases hr
   |cons w ws ih=>
    intro f r hr
    rcases List.mem_cons.mp hr with rfl |hr
    ·rw[QH];omega
    ·exact ih _ r hr
  unfold OP
  rw[Xl (hne ws f r hr)]
 obtain⟨l1,l2⟩:=hall D.1 0
 rw[l2,Xl (sz (by omega)),Rs.okb,show Ld [(-1:Int)] ((XW D.1 0).map Je)= .ok ([-1]++(XW D.1 0).map Je) from Xl (sz (by simp;omega)),Rs.okb]
 have hm:∀(ws:List (List Int)) (f:Int),(∀x∈(XW ws f).map Je,x<=f+XQ ws-1)/\(ws≠ []->f+XQ ws-1∈(XW ws f).map Je):=λws=>by
  induction ws with
  |nil=>intro f;exact⟨λx hx=>(nomatch hx),λh=>absurd rfl h⟩
  |cons w ws ih=>
   intro f
   obtain⟨i1,i2⟩:=ih (f+QQ w)
   have e:(XW (w::ws) f).map Je=(f+(QQ w:Int)-1)::(XW ws (f+QQ w)).map Je:=by
    show Je (ZU w f)::_=_
    rw[OD]
   have n0:=Vb ws
   rw[e,QI]
   refine⟨λx hx=>?_,λ_=>?_⟩
   ·rcases List.mem_cons.mp hx with rfl |hx
    ·omega
    ·have:=i1 x hx;omega
   ·by_cases c:ws=[]
    ·subst c
     have:XQ []=0:=rfl
     rw[this]
     exact List.mem_cons.mpr (.inl (by omega))
    ·exact List.mem_cons_of_mem _ (by have:=i2 c;rwa [show f+(QQ w:Int)+XQ ws-1=f+((QQ w:Int)+XQ ws)-1 by omega] at this)
 obtain⟨m1,m2⟩:=hm D.1 0
 have hA:=h.arcs
 rw[hA] at m1 m2
 have:Je ([-1]++(XW D.1 0).map Je)=(K:Int)-1:=by
  refine Hw ?_ λx hx=>?_
  ·by_cases c:D.1=[]
   ·have:XQ D.1=0:=by rw[c];rfl
    refine List.mem_append_left _ ?_
    have:K=0:=by omega
    subst this
    exact List.mem_singleton.mpr rfl
   ·refine List.mem_append_right _ ?_
    have:=m2 c
    rwa [Int.zero_add] at this
  ·rcases List.mem_append.mp hx with z |z
   ·rw[List.mem_singleton.mp z];omega
   ·have:=m1 x z;omega
 unfold OP
 rw[Xl (by simp),Rs.okb,this]
 congr 1
 omega
theorem NO (s:Nat)(hs:1<=s)(k:Nat):min (min ((s^k:Nat):Int) 1000000*(s:Int)) 1000000=min ((s^(k+1):Nat):Int) 1000000:=by
 have e:((s^(k+1):Nat):Int)=((s^k:Nat):Int)*(s:Int):=by rw[Nat.pow_succ,Int.natCast_mul]
 rw[e]
 by_cases c:((s^k:Nat):Int)<=1000000
 ·rw[Int.min_eq_left c]
 ·have h1:((s^k:Nat):Int)*1<=((s^k:Nat):Int)*(s:Int):=Int.mul_le_mul_of_nonneg_left (by omega) (by omega)
  have h2:(1000000:Int)*1<=1000000*(s:Int):=Int.mul_le_mul_of_nonneg_left (by omega) (by omega)
  rw[Int.min_eq_right (by omega:(1000000:Int)<=((s^k:Nat):Int))]
  omega
theorem DB {D:List (List Int)×List (Int×Int)}{K s:Nat}(h:Dw D K)(hs:1<=s):Vu D (s:Int)= .ok (min ((s^K:Nat):Int) 1000000):=by
 have hK:=h.le
 unfold Vu Df;dsimp only
 simp only[Rs.okb]
 rw[Lj h,Ya,Rs.okb,ZJ (by omega),Rs.okb,Kh (by decide) (by decide) (by decide) (by decide)]
 simp only[Rs.okb]
 apply Ok.eq
 refine Ok.bind (Ok.forN (λk (g:Int)=>g=min ((s^k:Nat):Int) 1000000) (by rw[Nat.pow_zero];rfl) λk a g ha hg=>?_) λg hg=>?_
 ·subst hg
  have h0:(0:Int)<=((s^k:Nat):Int):=by omega
  rw[Ja (by omega) (by omega),Rs.okb]
  refine⟨_,rfl,?_⟩
  exact NO s hs k
 ·rw[Yw] at hg
  exact⟨_,rfl,hg⟩
theorem DT {s:Int}(h:s<=4):X4 4 s= .ok ():=by
 unfold X4 Zp;dsimp only
 simp only[Rs.okb]
 rw[if_neg (by rw[decide_eq_true_eq];omega)]
theorem BK {s:Int}(h:4<s)(h2:s<2^100):X4 4 s= .err ⟨"TooBig",Pay.non⟩:=by
 unfold X4 Zp;dsimp only
 simp only[Rs.okb]
 rw[if_pos (decide_eq_true h),Xl (show s.natAbs.log2<1920 from ?_),Xl (by decide)]
 ·rfl
 ·have:s.natAbs<2^100:=by omega
  have:=(Nat.log2_lt (by omega)).mpr this
  omega
theorem V1 {s K:Nat}(hs:s<=4)(hK:K<=40):Yd (s:Int) (K:Int)=if s^K<=65536 then .ok () else .err ⟨"TooMuch",Pay.non⟩:=by
 unfold Yd Zc;dsimp only
 simp only[Rs.okb]
 rw[ZJ (by omega),Rs.okb]
 have hf:forN ((List.range K).map λ(i:Nat)=>(i:Int)) (1:Int) (λg10 _=>(Mp g10 (s:Int)).bind λa16=>Rs.ok a16)= .ok ((s^K:Nat):Int):=by
  apply Ok.eq
  refine Ok.imp (Ok.forN (λi (g:Int)=>g=((s^i:Nat):Int)) rfl λi a g ha hg=>?_) λg hg=>by rw[Yw] at hg;exact hg
  subst hg
  rw[Jh (by omega) (by omega),Rs.okb]
  refine⟨_,rfl,?_⟩
  rw[Nat.pow_succ]
  exact(Int.natCast_mul _ _).symm
 rw[hf,Rs.okb]
 by_cases c:s^K<=65536
 ·rw[if_pos c,if_neg (by rw[decide_eq_true_eq];omega)]
 ·rw[if_neg c,if_pos (decide_eq_true (by omega)),Xl (by decide)]
  rfl
theorem Mo {D:List (List Int)×List (Int×Int)}{n K:Nat}{f:Nat->Nat->Nat}(h:Dw D K)(hn:0<n)(h4:n<=4)(hp:n^K<=65536){ms:List M5}(e1:Vk D= .ok ms)(hl:ms.length<=1000)(hm:∀m∈ms,MG (XQ D.1) m):Z2 D (Vw n f)= .ok (TT n f ms K):=by
 have hK:=h.le
 unfold Z2 QU;dsimp only
 simp only[Rs.okb,Jf]
 rw[ZZ h.dg.few h.dg.short,Ya,Rs.okb,h.arcs,V1 h4 hK,if_pos hp,Rs.okb,ML e1 hl,Rs.okb,Xl (sz (by simp)),Rs.okb,ZJ (by omega),Rs.okb]
 apply Ok.eq
 refine Ok.bind (Ok.forN (λk (T:List (List Int))=>T=TT n f ms k) rfl λk a T ha hT=>?_) λT hT=>?_
 ·obtain⟨rfl,hk⟩:=YJ ha
  subst hT
  have hc:=Et (n:=n) (f:=f) (ms:=ms) k
  have hpk:n^(k+1)<=65536:=Nat.le_trans (Nj hn (by omega)) hp
  have hb:(TT n f ms k).length*n<=90000:=by
   have:=Nat.mul_le_mul_right n hc.1
   have e:n^(k+1)=n^k*n:=Nat.pow_succ ..
   omega
  rw[Hm (as:=ms.map Vd) (f:=λt=>Rs.ok t) (p:=λt:Int×Int×Int=>decide (Je [t.1,t.2.1,t.2.2]=(k:Int))) (h:=λt=>t) (sz (by rw[List.length_map];omega)) (λt _=>(by rw[show OP [t.1,t.2.1,t.2.2]= .ok (Je [t.1,t.2.1,t.2.2]) from rfl];rfl)) λ_ _ _=>rfl,List.map_id',Rs.okb,Oi,Ii (by omega) hl hm hc hb (by omega),Ya]
  exact⟨_,rfl,rfl⟩
 ·rw[Yw] at hT
  exact⟨_,rfl,hT⟩
theorem Dl {D:List (List Int)×List (Int×Int)}{n K:Nat}(h:Dw D K)(hn:0<n)(h4:n<=4)(hp:n^K<=65536)(f:Nat->Nat->Nat):∃c:Nat,ZF D (Vw n f)= .ok (c:Int):=by
 obtain⟨ms,e1,e2,e3⟩:=Fg h.dg
 have:=h.dg.le
 unfold ZF CZ;dsimp only
 simp only[Rs.okb]
 rw[Mo h hn h4 hp e1 (by omega) e3,Rs.okb]
 exact⟨_,rfl⟩
theorem CQ {α γ:Type}(a:α)(as:List α)(g:γ)(f:γ->α->Rs γ):forN (a::as) g f=(f g a).bind λg'=>forN as g' f:=rfl
section
variable {D E:List (List Int)×List (Int×Int)}{K L s:Nat}
theorem RM {c:Int->Nat}(hc:∀i,c i=0)(m:M5):held (λ_ _=>0) c m=true:=by
 unfold held
 rw[hc,hc,hc]
 split<;> rfl
theorem tt1 (ms:List M5):∀k,TT 1 (λ_ _=>0) ms k=[List.replicate k 0]
 |0=>rfl
 |k+1=>by
  show Gc 1 _ (ms.filter (Bw k)) (TT 1 (λ_ _=>0) ms k)=_
  rw[tt1 ms k]
  unfold Gc F1
  have e:((List.range 1).map λ(i:Nat)=>(i:Int))=[0]:=rfl
  rw[e,List.flatMap_cons,List.flatMap_nil,List.append_nil,List.filter_cons_of_pos,List.filter_nil]
  ·rw[List.map_cons,List.map_nil,List.replicate_succ']
  ·rw[List.all_eq_true]
   intro m _
   refine RM (λi=>?_) m
   unfold Ou
   rw[←List.replicate_succ',List.getD_eq_getElem?_getD,List.getElem?_replicate]
   split<;> rfl
theorem Os (h:Dw D K):ZF D [[0]]= .ok 1:=by
 obtain⟨ms,e1,e2,e3⟩:=Fg h.dg
 have:=h.dg.le
 have ht:([[0]]:List (List Int))=Vw 1 (λ_ _=>0):=rfl
 unfold ZF CZ;dsimp only
 simp only[Rs.okb]
 rw[ht,Mo h (by decide) (by decide) (by rw[Nat.one_pow];decide) e1 (by omega) e3,Rs.okb,tt1]
 rfl
theorem MZ (h:Dw D K)(hs:s<=4):XM (s:Int) [D]=if s^K<=65536 then .ok () else .err ⟨"TooMuch",Pay.non⟩:=by
 unfold XM Y2;dsimp only
 simp only[Rs.okb]
 rw[DT (by omega),Rs.okb]
 rw[CQ,ZZ h.dg.few h.dg.short,h.arcs,Ya,Rs.okb,V1 hs h.le]
 by_cases c:s^K<=65536
 ·rw[if_pos c,Rs.okb];rfl
 ·rw[if_neg c];rfl
theorem Lo (h:Dw D K)(h':Dw E L)(hs:s<=4):XM (s:Int) [D,E]=if s^K<=65536/\s^L<=65536 then .ok () else .err ⟨"TooMuch",Pay.non⟩:=by
 unfold XM Y2;dsimp only
 simp only[Rs.okb]
 rw[DT (by omega),Rs.okb]
 rw[CQ,ZZ h.dg.few h.dg.short,h.arcs,Ya,Rs.okb,V1 hs h.le]
 by_cases c:s^K<=65536
 ·rw[if_pos c,Rs.okb,Rs.okb]
  rw[CQ,ZZ h'.dg.few h'.dg.short,h'.arcs,Ya,Rs.okb,V1 hs h'.le]
  by_cases d:s^L<=65536
  ·rw[if_pos d,if_pos ⟨c,d⟩,Rs.okb];rfl
  ·rw[if_neg d,if_neg λz=>d z.2];rfl
 ·rw[if_neg c,if_neg λz=>c z.1];rfl
theorem DN {Ds:List (List (List Int)×List (Int×Int))}{z:Int}(h:4<z)(h2:z<2^100):XM z Ds= .err ⟨"TooBig",Pay.non⟩:=by
 unfold XM Y2;dsimp only
 simp only[Rs.okb]
 rw[BK h h2]
 rfl
theorem RB {n:Nat}(h:n<=10):Bd 1 ((n:Int)+1)= .ok ((List.range n).map λ(i:Nat)=>((i+1:Nat):Int)):=by
 unfold Bd
 rw[Xl (by omega)]
 unfold Us
 congr 1
 rw[show((n:Int)+1-1).toNat=n by omega]
 exact List.map_congr_left λi _=>by omega
theorem MW (h:Dw D K)(hs:s<=4)(hp:s^K<=65536):∃a,Jp D (s:Int)= .ok a:=by
 unfold Jp UZ;dsimp only
 simp only[Rs.okb]
 rw[Xl (sz (by simp)),Rs.okb,MZ h hs,if_pos hp,Rs.okb,RB (by omega),Rs.okb]
 have:Ok (forN ((List.range s).map λ(i:Nat)=>((i+1:Nat):Int)) [] λg16 a18=>((ZK a18).bind λx24=>Ed x24 λa22=>ZF D a22).bind λa27=>chk (g16.length+a27.length<=sizeLine) (Rs.ok (g16++a27))) λg=>g.length<=64*s:=by
  refine Ok.imp (Ok.forN (λi (g:List Int)=>g.length<=64*i) (Nat.le_refl _) λi a g ha hg=>?_) λg hg=>by rw[List.length_map,List.length_range] at hg;exact hg
  have hi:i<s:=by
   have:=(List.getElem?_eq_some_iff.mp ha).1
   simpa using this
  rw[List.getElem?_map,List.getElem?_range hi] at ha
  have ha:=Option.some.inj ha
  subst ha
  obtain⟨l,e1,l1,l2⟩:=(EA (n:=i+1) (by omega) (by omega)).2
  have hq:(i+1)^K<=65536:=Nat.le_trans (Nat.pow_le_pow_left (by omega) K) hp
  have hall:∀t∈l,∃c:Nat,ZF D t= .ok (c:Int):=λt ht=>by
   obtain⟨f,rfl⟩:=l2 t ht
   exact Dl h (by omega) (by omega) hq f
  have hch:∃F:List (List Int)->Int,∀t∈l,ZF D t= .ok (F t):=by
   have:∀t:List (List Int),∃c:Int,t∈l->ZF D t= .ok c:=λt=>by
    by_cases q:t∈l
    ·obtain⟨c,hc⟩:=hall t q
     exact⟨_,λ_=>hc⟩
    ·exact⟨0,λz=>absurd z q⟩
   obtain⟨F,hF⟩:=Classical.axiomOfChoice this
   exact⟨F,hF⟩
  obtain⟨F,hF⟩:=hch
  rw[e1,Rs.okb,Qt (h:=F) (sz (by omega)) hF,Rs.okb,Xl (sz (by rw[List.length_map];omega))]
  refine⟨_,rfl,?_⟩
  show(g++List.map F l).length<=_
  rw[List.length_append,List.length_map]
  omega
 obtain⟨g,e,_⟩:=this
 exact⟨g,by rw[e,Rs.okb]⟩
theorem Sf (h:Dw D K):Jp D 1= .ok [1]:=by
 unfold Jp UZ;dsimp only
 simp only[Rs.okb]
 rw[Xl (sz (by simp)),Rs.okb,show XM 1 [D]= .ok () from(MZ (s:=1) h (by decide)).trans (if_pos (by rw[Nat.one_pow];decide)),Rs.okb,show Bd 1 (1+1)= .ok [1] from RB (n:=1) (by decide),Rs.okb]
 rw[CQ,kd1,Rs.okb,Qt (h:=λ_=>(1:Int)) (sz (by simp)) λt ht=>by rw[List.mem_singleton.mp ht];exact Os h,Rs.okb,Xl (sz (by simp))]
 rfl
theorem GS (h:Dw D K)(h':Dw E L)(hs:s<=4)(hp:s^K<=65536)(hp':s^L<=65536):∃a,YC D E (s:Int)= .ok a:=by
 unfold YC Qy;dsimp only
 simp only[Rs.okb]
 rw[Xl (sz (by simp)),Rs.okb,Lo h h' hs,if_pos ⟨hp,hp'⟩,Rs.okb,RB (by omega),Rs.okb]
 have fin:∀{α:Type} (F:Unit->α->Rs (Ctl (Option (Unit×Int×Int)) Unit)) (l:List α),(∀a∈l,∃c,F () a= .ok c)->∃c,Kk l () F= .ok c:=fun {α} F l=>by
  induction l with
  |nil=>intro _;exact⟨_,rfl⟩
  |cons a l ih=>
   intro hF
   obtain⟨c,hc⟩:=hF a List.mem_cons_self
   show ∃c,(F () a).bind _= .ok c
   rw[hc,Rs.okb]
   cases c with
   |ret r=>exact⟨_,rfl⟩
   |nx g=>exact ih λb hb=>hF b (.tail _ hb)
 obtain⟨c,hc⟩:=fin (λ_ a17=>(YT a17).bind λx47=>(Kk x47 () λ_ a24=>(ZF D a24).bind λa26=>(ZF E a24).bind λa30=>if(!decide (a26=a30))=true then Rs.ok (Ctl.ret (some ((),a26,a30))) else Rs.ok (Ctl.nx ())).bind (Jm λ_=>Rs.ok (Ctl.nx ()))) ((List.range s).map λ(i:Nat)=>((i+1:Nat):Int)) λa ha=>by
  obtain⟨i,hi,rfl⟩:=List.mem_map.mp ha
  have hi:=List.mem_range.mp hi
  obtain⟨l,e1,l1,l2⟩:=(EA (n:=i+1) (by omega) (by omega)).1
  have hq:(i+1)^K<=65536:=Nat.le_trans (Nat.pow_le_pow_left (by omega) K) hp
  have hq':(i+1)^L<=65536:=Nat.le_trans (Nat.pow_le_pow_left (by omega) L) hp'
  rw[e1,Rs.okb]
  obtain⟨c,hc⟩:=fin (λ_ a24=>(ZF D a24).bind λa26=>(ZF E a24).bind λa30=>if(!decide (a26=a30))=true then Rs.ok (Ctl.ret (some ((),a26,a30))) else Rs.ok (Ctl.nx ())) l λt ht=>by
   obtain⟨f,rfl⟩:=l2 t ht
   obtain⟨c1,m1⟩:=Dl h (by omega) (by omega) hq f
   obtain⟨c2,m2⟩:=Dl h' (by omega) (by omega) hq' f
   rw[m1,Rs.okb,m2,Rs.okb]
   split
   ·exact⟨_,rfl⟩
   ·exact⟨_,rfl⟩
  rw[hc,Rs.okb]
  cases c with
  |ret r=>exact⟨_,rfl⟩
  |nx g=>exact⟨_,rfl⟩
 rw[hc,Rs.okb]
 cases c with
 |ret r=>exact⟨_,rfl⟩
 |nx g=>exact⟨_,rfl⟩
theorem Nu (h:Dw D K)(h':Dw E L):YC D E 1= .ok none:=by
 unfold YC Qy;dsimp only
 simp only[Rs.okb]
 rw[Xl (sz (by simp)),Rs.okb,show XM 1 [D,E]= .ok () from(Lo (s:=1) h h' (by decide)).trans (if_pos ⟨by rw[Nat.one_pow];decide,by rw[Nat.one_pow];decide⟩),Rs.okb,show Bd 1 (1+1)= .ok [1] from RB (n:=1) (by decide),Rs.okb]
 unfold Kk
 dsimp only
 rw[tb1,Rs.okb]
 unfold Kk
 dsimp only
 rw[Os h,Rs.okb,Os h',Rs.okb,decide_eq_true rfl]
 rfl
theorem BE (h:Dw D K)(h':Dw E L)(hs1:1<=s)(hs:s<=4){w:Nat}(hw:w<3):ZS (w:Int) D E (s:Int)= .ok [false,if w=0 then decide (65536<s^K) else decide (65536<s^K∨65536<s^L)]:=by
 have fin:∀{α:Type} (m:Rs α) (b:Prop) [Decidable b],(¬b->∃a,m= .ok a)->(b->m= .err ⟨"TooMuch",Pay.non⟩)->(Rs.tryC (m.bind λ_=>Rs.ok ()) (λ_=>chk ([false,false].length<=sizeLine) (Rs.ok [false,false])) λx1=>chk (cau Xq x1.cls "PlaitError" =true) (chk ([YY x1.cls "TooBig",YY x1.cls "TooMuch"].length<=sizeLine) (Rs.ok [YY x1.cls "TooBig",YY x1.cls "TooMuch"])))= .ok [false,decide b]:=λm b _ h1 h2=>by
  by_cases c:b
  ·rw[h2 c,decide_eq_true c]
   show chk _ (chk _ _)=_
   rw[Xl (by decide+kernel),Xl (sz (by simp))]
   rfl
  ·obtain⟨a,e⟩:=h1 c
   rw[e,decide_eq_false c]
   show chk _ _=_
   rw[Xl (sz (by simp))]
 have k1:=fin (Jp D (s:Int)) (65536<s^K) (λc=>MW h hs (by omega)) λc=>by
  unfold Jp UZ;dsimp only
  simp only[Rs.okb]
  rw[Xl (sz (by simp)),Rs.okb,MZ h hs,if_neg (by omega)]
  rfl
 have k2:=fin (YC D E (s:Int)) (65536<s^K∨65536<s^L) (λc=>GS h h' hs (by omega) (by omega)) λc=>by
  unfold YC Qy;dsimp only
  simp only[Rs.okb]
  rw[Xl (sz (by simp)),Rs.okb,Lo h h' hs,if_neg (by omega)]
  rfl
 have k3:=fin (YC E D (s:Int)) (65536<s^K∨65536<s^L) (λc=>GS h' h hs (by omega) (by omega)) λc=>by
  unfold YC Qy;dsimp only
  simp only[Rs.okb]
  rw[Xl (sz (by simp)),Rs.okb,Lo h' h hs,if_neg (by omega)]
  rfl
 have b1:∀m:Rs Unit,(m.bind λ_=>Rs.ok ())=m:=λm=>by cases m<;> rfl
 unfold ZS Vf;dsimp only
 simp only[Rs.okb]
 rcases(show w=0∨w=1∨w=2 by omega) with rfl |rfl |rfl
 ·rw[decide_eq_true (show((0:Nat):Int)=0 from rfl),decide_eq_false (show ¬((0:Nat):Int)=1 by decide),decide_eq_false (show ¬((0:Nat):Int)=2 by decide)]
  simp only[if_true,if_false,Bool.false_eq_true,Rs.okb,b1]
  exact k1
 ·rw[decide_eq_false (show ¬((1:Nat):Int)=0 by decide),decide_eq_true (show((1:Nat):Int)=1 from rfl),decide_eq_false (show ¬((1:Nat):Int)=2 by decide)]
  simp only[if_true,if_false,Bool.false_eq_true,Rs.okb,b1]
  exact k2
 ·rw[decide_eq_false (show ¬((2:Nat):Int)=0 by decide),decide_eq_false (show ¬((2:Nat):Int)=1 by decide),decide_eq_true (show((2:Nat):Int)=2 from rfl)]
  simp only[if_true,if_false,Bool.false_eq_true,Rs.okb,b1]
  exact k3
theorem Fv {z:Int}(h:4<z)(h2:z<2^100){w:Nat}(hw:w<3):ZS (w:Int) D E z= .ok [true,false]:=by
 have b1:∀m:Rs Unit,(m.bind λ_=>Rs.ok ())=m:=λm=>by cases m<;> rfl
 have m1:Jp D z= .err ⟨"TooBig",Pay.non⟩:=by
  unfold Jp UZ;dsimp only
  simp only[Rs.okb]
  rw[Xl (sz (by simp)),Rs.okb,DN h h2]
  rfl
 have m2:∀D E,YC D E z= .err ⟨"TooBig",Pay.non⟩:=λD E=>by
  unfold YC Qy;dsimp only
  simp only[Rs.okb]
  rw[Xl (sz (by simp)),Rs.okb,DN h h2]
  rfl
 have fin:∀{α:Type} (m:Rs α),m= .err ⟨"TooBig",Pay.non⟩->(Rs.tryC (m.bind λ_=>Rs.ok ()) (λ_=>chk ([false,false].length<=sizeLine) (Rs.ok [false,false])) λx1=>chk (cau Xq x1.cls "PlaitError" =true) (chk ([YY x1.cls "TooBig",YY x1.cls "TooMuch"].length<=sizeLine) (Rs.ok [YY x1.cls "TooBig",YY x1.cls "TooMuch"])))= .ok [true,false]:=λm e=>by
  rw[e]
  show chk _ (chk _ _)=_
  rw[Xl (by decide+kernel),Xl (sz (by simp))]
  rfl
 unfold ZS Vf;dsimp only
 simp only[Rs.okb]
 rcases(show w=0∨w=1∨w=2 by omega) with rfl |rfl |rfl
 ·rw[decide_eq_true (show((0:Nat):Int)=0 from rfl),decide_eq_false (show ¬((0:Nat):Int)=1 by decide),decide_eq_false (show ¬((0:Nat):Int)=2 by decide)]
  simp only[if_true,if_false,Bool.false_eq_true,Rs.okb,b1]
  exact fin _ m1
 ·rw[decide_eq_false (show ¬((1:Nat):Int)=0 by decide),decide_eq_true (show((1:Nat):Int)=1 from rfl),decide_eq_false (show ¬((1:Nat):Int)=2 by decide)]
  simp only[if_true,if_false,Bool.false_eq_true,Rs.okb,b1]
  exact fin _ (m2 D E)
 ·rw[decide_eq_false (show ¬((2:Nat):Int)=0 by decide),decide_eq_false (show ¬((2:Nat):Int)=1 by decide),decide_eq_true (show((2:Nat):Int)=2 from rfl)]
  simp only[if_true,if_false,Bool.false_eq_true,Rs.okb,b1]
  exact fin _ (m2 E D)
end
noncomputable abbrev Dt:=List (List Int)×List (Int×Int)
noncomputable def eqD (m:Rs Dt)(d:Dt):Bool:=match m with
 | .ok x=>decide (x=d)
 |_=>false
theorem ME {m:Rs Dt}{d:Dt}(h:eqD m d=true):m= .ok d:=by
 cases m with
 |bad=>cases h
 |err x=>cases h
 |ok x=>rw[of_decide_eq_true (show decide (x=d)=true from h)]
noncomputable def BU:List Int:=[1,-1,2,-2,3,-3,4,-4,5,-5,6,-6,7,-7,8,-8,9,-9,10,-10,11,-11,12,-12]
noncomputable def Kf:List (Int×Int):=[(1,1),(2,1),(3,1),(4,1),(5,1),(6,1),(7,1),(8,1),(9,1),(10,1),(11,1),(12,1)]
theorem Te:eqD (Uo 12 4) ([BU,[],[],[],[]],Kf)=true:=by decide+kernel
theorem S4:eqD (Uo 12 5) ([BU,[],[],[],[],[]],Kf)=true:=by decide+kernel
theorem Mv {k:Nat}(h:k<=5):Drawn 12 (BU::List.replicate k [],Kf):=by
 refine⟨show Kf.length<=12 by decide,show ∀e∈Kf,1<=e.1/\(e.2=1∨e.2= -1) by decide,?_,by simp;omega⟩
 show(BU++(List.replicate k []).flatten).Perm _
 rw[Fz,List.append_nil]
 exact List.Perm.of_eq (show BU=(Kf.map Prod.fst).flatMap (λx=>[x,-x]) by decide)
theorem Lr {b:Int}(h0:0<=b)(h1:b<2):Ok (Uo 12 (4+b)) (Drawn 12):=by
 rcases(show b=0∨b=1 by omega) with rfl |rfl
 ·exact⟨_,ME Te,Mv (k:=4) (by decide)⟩
 ·exact⟨_,ME S4,Mv (k:=5) (by decide)⟩
theorem Mq:Drawn 12 (([],[]):Dt):=⟨by decide,λe he=>(nomatch he),List.Perm.refl _,by decide⟩
theorem Ia {D:Dt}(h:DG D):DX D= .ok D:=by
 unfold DX HZ;dsimp only
 simp only[Rs.okb]
 rw[Qt (h:=λa=>a) (sz (by have:=h.few;omega)) λ_ _=>rfl,List.map_id',Rs.okb]
theorem Drawn.up {a:Nat}{D:Dt}(h:Drawn a D)(ha:a<=12):Drawn 12 D:=⟨by have:=h.le;omega,h.pos,h.perm,h.few⟩
theorem OV {D E:Dt}{K L:Nat}{z:Int}(h:Dw D K)(h':Dw E L)(h1:1<=z)(h2:z<2^100):∃(x y:Int) (d:Nat->List Bool),Vu D z= .ok x/\Vu E z= .ok y/\(if decide (4<z)=true then((((chk ([true,false].length<=sizeLine) (Rs.ok [true,false])).bind λx146=>Rs.ok [x146]).bind λx140=>chk (x140.length<=sizeLine) (Rs.ok x140)).bind λx138=>Eu x138 3).bind λa136=>Rs.ok a136 else((((chk ([false,decide (65536<x)].length<=sizeLine) (Rs.ok [false,decide (65536<x)])).bind λx180=>(((chk ([false,decide (65536<max x y)].length<=sizeLine) (Rs.ok [false,decide (65536<max x y)])).bind λx178=>(((chk ([false,decide (65536<max x y)].length<=sizeLine) (Rs.ok [false,decide (65536<max x y)])).bind λx176=>Rs.ok [x176]).bind λx179=>Rs.ok (x178::x179))).bind λx181=>Rs.ok (x180::x181))).bind λx154=>chk (x154.length<=sizeLine) (Rs.ok x154)).bind λa152=>Rs.ok a152))= .ok [d 0,d 1,d 2]/\∀w:Nat,w<3->ZS (w:Int) D E z= .ok (d w):=by
 obtain⟨s,rfl⟩:∃s:Nat,z=(s:Int):=⟨z.toNat,by omega⟩
 refine⟨_,_,λw=>if 4<s then[true,false] else[false,if w=0 then decide (65536<s^K) else decide (65536<s^K∨65536<s^L)],DB h (by omega),DB h' (by omega),?_,λw hw=>?_⟩
 ·by_cases c:4<s
  ·rw[if_pos (decide_eq_true (by omega))]
   simp only[if_pos c]
   rw[Xl (sz (by simp)),Rs.okb,Rs.okb,Xl (sz (by simp)),Rs.okb]
   rfl
  ·rw[if_neg (by rw[decide_eq_true_eq];omega)]
   simp only[if_neg c]
   have e1:decide ((65536:Int)<min ((s^K:Nat):Int) 1000000)=decide (65536<s^K):=by
    rw[decide_eq_decide];omega
   have e2:decide ((65536:Int)<max (min ((s^K:Nat):Int) 1000000) (min ((s^L:Nat):Int) 1000000))=decide (65536<s^K∨65536<s^L):=by
    rw[decide_eq_decide];omega
   rw[e1,e2,Xl (sz (by simp)),Xl (sz (by simp))]
   simp only[Rs.okb]
   rw[Xl (sz (by simp))]
   rfl
 ·by_cases c:4<s
  ·simp only[if_pos c]
   exact Fv (by omega) h2 hw
  ·simp only[if_neg c]
   exact BE h h' (by omega) (by omega) hw
theorem IA (ns:List Int)(_:ns.length<=63):E6 ns= .ok true:=by
 refine Ok.eq ?_
 unfold E6 MV;dsimp only
 simp only[Rs.okb]
 refine Ok.bind (Ok.noE (CY ns (p:=0) (by decide))) λone hone=>?_
 refine Ok.bind (Ok.noE (CY ns (p:=1) (by decide))) λother hother=>?_
 rw[Kh (by decide) (by decide) (by decide) (by decide)]
 simp only[Rs.okb]
 rw[Xl (sz (by simp)),Rs.okb]
 refine Ok.bind (Ok.noE (MB ns (p:=2) (by decide) _ (by simp) (by decide))) λr hr=>?_
 obtain⟨hl,hv⟩:=hr
 have hl:r.length=6:=hl
 have w1:=hv 1 r[1] 9 (List.getElem?_eq_getElem (by omega)) rfl
 have w3:=hv 3 r[3] (10^(9:Int).toNat) (List.getElem?_eq_getElem (by omega)) rfl
 have w5:=hv 5 r[5] 2 (List.getElem?_eq_getElem (by omega)) rfl
 have a0:atR r 0= .ok r[0]:=YO (i:=0) (List.getElem?_eq_getElem (by omega))
 have a1:atR r 1= .ok r[1]:=YO (i:=1) (List.getElem?_eq_getElem (by omega))
 have a2:atR r 2= .ok r[2]:=YO (i:=2) (List.getElem?_eq_getElem (by omega))
 have a3:atR r 3= .ok r[3]:=YO (i:=3) (List.getElem?_eq_getElem (by omega))
 have a4:atR r 4= .ok r[4]:=YO (i:=4) (List.getElem?_eq_getElem (by omega))
 have a5:atR r 5= .ok r[5]:=YO (i:=5) (List.getElem?_eq_getElem (by omega))
 rw[a0,a1,a2,a3,a4,a5]
 simp only[Rs.okb]
 refine Ok.bind (Ok.imp (KK (λg:Dt=>Drawn 6 g) (λg=>12-g.1.length) (λg hg=>⟨_,rfl,λhb=>?_⟩) 20 one hone (by omega)) λg hg=>hg.1) λg hg=>?_
 ·have hb:=of_decide_eq_true hb
  have hlt:g.1.length<12:=by omega
  rw[Xl (BD (by omega))]
  refine⟨_,rfl,⟨hg.le,hg.pos,?_,by show(g.1++[[]]).length<=20;simp;omega⟩,by show 12-(g.1++[[]]).length<_;simp;omega⟩
  show((g.1++[[]]).flatten).Perm _
  rw[List.flatten_append]
  simpa using hg.perm
 have w3b:(0:Int)<=r[3]^(3:Int).toNat/\r[3]^(3:Int).toNat<=1000000000000000000000000000:=by
  have e9:(10:Int)^(9:Int).toNat=1000000000:=by decide
  have h8:=w3.2
  have h9:r[3]<=1000000000:=by omega
  have e3:r[3]^(3:Int).toNat=r[3]*r[3]*r[3]:=by
   show r[3]^3=_
   rw[Int.pow_succ,Int.pow_succ,Int.pow_succ,Int.pow_zero,Int.one_mul]
  rw[e3]
  have p2:0<=r[3]*r[3]:=Int.mul_nonneg w3.1 w3.1
  have q2:r[3]*r[3]<=1000000000*1000000000:=Int.mul_le_mul h9 h9 w3.1 (by decide)
  exact⟨Int.mul_nonneg p2 w3.1,Int.le_trans (Int.mul_le_mul q2 h9 w3.1 (by decide)) (by decide)⟩
 have hlt3:r[3]<2^64:=by
  have e:(10:Int)^(9:Int).toNat=1000000000:=by decide
  have:=w3.2
  omega
 refine Ok.bind (R:=λz:Int=>1<=z/\z<2^100) (Ok.ite (λ_=>?_) λ_=>⟨_,rfl,by omega,by omega⟩) λz hz=>?_
 ·rw[Kh (by decide) (by decide) (by have:=w3.1;omega) hlt3]
  simp only[Rs.okb]
  exact⟨_,rfl,by omega,by omega⟩
 refine Ok.bind (R:=Drawn 12) (Ok.ite (λ_=>⟨_,rfl,Mq⟩) λ_=>⟨_,rfl,hg.up (by decide)⟩) λd1 hd1=>?_
 refine Ok.bind (R:=λt:Dt×Dt×Int=>Drawn 12 t.1/\Drawn 12 t.2.1/\1<=t.2.2/\t.2.2<2^100) (Ok.ite (λ_=>?_) λ_=>⟨_,rfl,hd1,hother.up (by decide),hz⟩) λt ht=>?_
 ·refine Ok.bind (Ok.noE (Lr w5.1 w5.2)) λc hc=>?_
  exact⟨_,rfl,hc,Mq,show(1:Int)<=2 by decide,show(2:Int)<2^100 by decide⟩
 obtain⟨t1,t2,t3,t4⟩:=ht
 obtain⟨D,E,z⟩:=t
 obtain⟨K,dK⟩:=Dw.of t1
 obtain⟨L,dL⟩:=Dw.of t2
 have t3:1<=z:=t3
 have t4:z<2^100:=t4
 simp only[]
 rw[Ia dK.dg,Ia dL.dg]
 simp only[Ya,Rs.okb]
 rw[Xl (sz (by simp)),Rs.okb]
 obtain⟨x,y,d,ex,ey,ed,hd⟩:=OV dK dL t3 t4
 rw[ex,Ya,Rs.okb,ey,Ya,Rs.okb]
 refine Ok.bind (Ok.of ed) λg hg=>?_
 subst hg
 rw[Xl (sz (by simp)),Rs.okb,show Bd 0 3= .ok [0,1,2] from ZJ (n:=3) (by decide),Rs.okb]
 rw[CK (g:=()) λa ha=>?_,Rs.okb,Ix]
 ·rw[show atR [D,E] 0= .ok D from rfl,show atR [D,E] 1= .ok E from rfl]
  simp only[Rs.okb]
  rw[Sf dK,Ya,Rs.okb,Xl (sz (by simp)),Rs.okb,decide_eq_true rfl,Nu dK dL,Ya,Rs.okb,show orR (Rs.ok (!true)) (Rs.ok (none:Option (Unit×Int×Int)).isSome)= .ok false from rfl,Rs.okb,if_neg (by decide)]
  exact⟨_,rfl,decide_eq_true trivial⟩
 ·obtain⟨w,hw,rfl⟩:=UG (n:=3) ha
  rw[show atR [D,E] 0= .ok D from rfl,show atR [D,E] 1= .ok E from rfl]
  simp only[Rs.okb]
  have hdw:atR [d 0,d 1,d 2] (w:Int)= .ok (d w):=by
   rcases(show w=0∨w=1∨w=2 by omega) with rfl |rfl |rfl<;> rfl
  obtain⟨v,hvv⟩:∃v:Int,atR [x,max x y,max x y] (w:Int)= .ok v:=by
   rcases(show w=0∨w=1∨w=2 by omega) with rfl |rfl |rfl<;> exact⟨_,rfl⟩
  rw[hd w hw,hdw,hvv]
  simp only[Ya,Rs.okb,HD,Pn]
  rw[decide_eq_true trivial]
  split
  ·rfl
  ·rfl
theorem Gr {K:PySem.W.Frag}{mg:Str->Option Value}{h:Heap}(X:K.In h)(G:h.Ns mainGlobals mg){x p0:Str}{st:Stmt}{f:Addr}{oc:Value}{od an:Option Addr}{osl:Array (Option Value)}{kV doc pm cdv ct:Value}(hb:∀(kV doc pm:Value) (an:Option Addr) (cdv ct u0:Value),bindArgs (PySem.W.fnOf x x (YG st) (XR st) (Xf st) .none kV doc pm an cdv ct) ⟨[u0],[]⟩=pure ([p0].zip [u0]))(a:PySem.W.nsIn K mainGlobals x=some (some (.ref f)))(l:K.lookup f=some ⟨oc,od, .func (PySem.W.fnOf x x (YG st) (XR st) (Xf st) .none kV doc pm an cdv ct),osl⟩)(c:PySem.W.codeIn K cdv x=true)(k:PySem.W.keepIn K (.ref f)=true):Def K mg x st [p0]:=⟨f,_,Jd l c k,(Jd l c k).binds λ_ _ _ _ _ _ us hl=>(by obtain⟨_,rfl⟩:=O9 hl;exact hb ..),PySem.W.mg_of X G a⟩
theorem KB {K:PySem.W.Frag}{mg:Str->Option Value}{h:Heap}(X:K.In h)(G:h.Ns mainGlobals mg){x p0 p1:Str}{st:Stmt}{f:Addr}{oc:Value}{od an:Option Addr}{osl:Array (Option Value)}{kV doc pm cdv ct:Value}(hb:∀(kV doc pm:Value) (an:Option Addr) (cdv ct u0 u1:Value),bindArgs (PySem.W.fnOf x x (YG st) (XR st) (Xf st) .none kV doc pm an cdv ct) ⟨[u0,u1],[]⟩=pure ([p0,p1].zip [u0,u1]))(a:PySem.W.nsIn K mainGlobals x=some (some (.ref f)))(l:K.lookup f=some ⟨oc,od, .func (PySem.W.fnOf x x (YG st) (XR st) (Xf st) .none kV doc pm an cdv ct),osl⟩)(c:PySem.W.codeIn K cdv x=true)(k:PySem.W.keepIn K (.ref f)=true):Def K mg x st [p0,p1]:=⟨f,_,Jd l c k,(Jd l c k).binds λ_ _ _ _ _ _ us hl=>(by obtain⟨_,_,rfl⟩:=O6 hl;exact hb ..),PySem.W.mg_of X G a⟩
theorem MP {K:PySem.W.Frag}{mg:Str->Option Value}{h:Heap}(X:K.In h)(G:h.Ns mainGlobals mg){x p0 p1 p2:Str}{st:Stmt}{f:Addr}{oc:Value}{od an:Option Addr}{osl:Array (Option Value)}{kV doc pm cdv ct:Value}(hb:∀(kV doc pm:Value) (an:Option Addr) (cdv ct u0 u1 u2:Value),bindArgs (PySem.W.fnOf x x (YG st) (XR st) (Xf st) .none kV doc pm an cdv ct) ⟨[u0,u1,u2],[]⟩=pure ([p0,p1,p2].zip [u0,u1,u2]))(a:PySem.W.nsIn K mainGlobals x=some (some (.ref f)))(l:K.lookup f=some ⟨oc,od, .func (PySem.W.fnOf x x (YG st) (XR st) (Xf st) .none kV doc pm an cdv ct),osl⟩)(c:PySem.W.codeIn K cdv x=true)(k:PySem.W.keepIn K (.ref f)=true):Def K mg x st [p0,p1,p2]:=⟨f,_,Jd l c k,(Jd l c k).binds λ_ _ _ _ _ _ us hl=>(by obtain⟨_,_,_,rfl⟩:=PV hl;exact hb ..),PySem.W.mg_of X G a⟩
theorem S0 {K:PySem.W.Frag}{mg:Str->Option Value}{h:Heap}(X:K.In h)(G:h.Ns mainGlobals mg){x p0 p1 p2 p3:Str}{st:Stmt}{f:Addr}{oc:Value}{od an:Option Addr}{osl:Array (Option Value)}{kV doc pm cdv ct:Value}(hb:∀(kV doc pm:Value) (an:Option Addr) (cdv ct u0 u1 u2 u3:Value),bindArgs (PySem.W.fnOf x x (YG st) (XR st) (Xf st) .none kV doc pm an cdv ct) ⟨[u0,u1,u2,u3],[]⟩=pure ([p0,p1,p2,p3].zip [u0,u1,u2,u3]))(a:PySem.W.nsIn K mainGlobals x=some (some (.ref f)))(l:K.lookup f=some ⟨oc,od, .func (PySem.W.fnOf x x (YG st) (XR st) (Xf st) .none kV doc pm an cdv ct),osl⟩)(c:PySem.W.codeIn K cdv x=true)(k:PySem.W.keepIn K (.ref f)=true):Def K mg x st [p0,p1,p2,p3]:=⟨f,_,Jd l c k,(Jd l c k).binds λ_ _ _ _ _ _ us hl=>(by obtain⟨_,_,_,_,rfl⟩:=PM hl;exact hb ..),PySem.W.mg_of X G a⟩
theorem S2 {K:PySem.W.Frag}{mg:Str->Option Value}{h:Heap}(X:K.In h)(G:h.Ns mainGlobals mg){x p0 p1 p2 p3 p4:Str}{st:Stmt}{f:Addr}{oc:Value}{od an:Option Addr}{osl:Array (Option Value)}{kV doc pm cdv ct:Value}(hb:∀(kV doc pm:Value) (an:Option Addr) (cdv ct u0 u1 u2 u3 u4:Value),bindArgs (PySem.W.fnOf x x (YG st) (XR st) (Xf st) .none kV doc pm an cdv ct) ⟨[u0,u1,u2,u3,u4],[]⟩=pure ([p0,p1,p2,p3,p4].zip [u0,u1,u2,u3,u4]))(a:PySem.W.nsIn K mainGlobals x=some (some (.ref f)))(l:K.lookup f=some ⟨oc,od, .func (PySem.W.fnOf x x (YG st) (XR st) (Xf st) .none kV doc pm an cdv ct),osl⟩)(c:PySem.W.codeIn K cdv x=true)(k:PySem.W.keepIn K (.ref f)=true):Def K mg x st [p0,p1,p2,p3,p4]:=⟨f,_,Jd l c k,(Jd l c k).binds λ_ _ _ _ _ _ us hl=>(by obtain⟨_,_,_,_,_,rfl⟩:=Sw hl;exact hb ..),PySem.W.mg_of X G a⟩
theorem Rc {l:PySem.W.OpenLaw}{w:World}{K:PySem.W.Frag}{h:Heap}{mg:Str->Option Value}{fa f E0 E1 E2 E3:Addr}{tk0:Tok}{tk1:Tok}{tk2:Tok}(X:K.In h)(G:h.Ns mainGlobals mg)(hfa:mg "law" =some (.ref fa)){od an:Option Addr}{sl:Array (Option Value)}{oc kV dc pm cd ct:Value}
  (D1:Def K mg "refuse_above" Z4 ["most","size"])
  (D2:Def K mg "each_once" JK ["count"])
  (D3:Def K mg "longer_by_one" ZC ["lists","count"])
  (D4:Def K mg "broken" Gb ["table"])
  (D5:Def K mg "breach_of_one" ZM ["table"])
  (D6:Def K mg "breach_of_two" YX ["table"])
  (D7:Def K mg "first_same" Q3 ["column"])
  (D8:Def K mg "breach_of_three" Zd ["table"])
  (D9:Def K mg "tables" J1 ["size"])
  (D10:Def K mg "all_columns" ZB ["size"])
  (D11:Def K mg "longer_by_columns" Yi ["choices","columns"])
  (D12:Def K mg "table_of_columns" X8 ["columns"])
  (D13:Def K mg "like" Hb ["one","other"])
  (D14:Def K mg "refuse_big" QV ["one","other"])
  (D15:Def K mg "searched" Vy ["one","other"])
  (D16:Def K mg "longer_images" Y4 ["images","size"])
  (D17:Def K mg "first_breach" Z8 ["one","other","images"])
  (D18:Def K mg "equation_broken" Zb ["one","other","images","a","b"])
  (D19:Def K mg "kinds" Ku ["size"])
  (D20:Def K mg "spot" Hf ["drawing","passage"])
  (D21:Def K mg "arcs" Hs ["drawing"])
  (D22:Def K mg "arc_count" Qx ["drawing"])
  (D23:Def K mg "arcs_of_walk" Zo ["walk"])
  (D24:Def K mg "arcs_of_ways" Z6 ["walk","first"])
  (D25:Def K mg "meets" FH ["drawing"])
  (D26:Def K mg "ties" El ["drawing"])
  (D27:Def K mg "all_held" Ju ["table","colours","asked"])
  (D28:Def K mg "colourings" Z0 ["drawing","table"])
  (D29:Def K mg "refuse_too_much" Zg ["size","count"])
  (D30:Def K mg "longer_by_arc" ZQ ["lists","table","asked"])
  (D31:Def K mg "many" ED ["drawing","table"])
  (D32:Def K mg "mark" Dz ["drawing","size"])
  (D33:Def K mg "refuse_size" Qr ["size","drawings"])
  (D34:Def K mg "parted" K8 ["one","other","size"])
  (D35:Def K mg "_law_cell" HL ["_law_script","_law_place"])
  (D36:Def K mg "_law_mix" NU ["_law_cell_here","_law_k"])
  (D37:Def K mg "_law_row" NV ["_law_script","_law_place","_law_sizes"])
  (D38:Def K mg "_law_traced" Ga ["_law_lows","_law_signs","_law_strands"])
  (D39:Def K mg "_law_turn_back" Ze ["_law_walks","_law_signs","_law_some"])
  (D40:Def K mg "_law_begun" Kz ["_law_script","_law_place"])
  (D41:Def K mg "_law_copy" DL ["_law_drawing"])
  (D42:Def K mg "_law_arcs" Kq ["_law_walks"])
  (D43:Def K mg "_law_count" KE ["_law_drawing"])
  (D44:Def K mg "_law_refused" UI ["_law_which","_law_one","_law_other","_law_size"])
  (D45:Def K mg "_law_tries" De ["_law_drawing","_law_size"])
  (D46:Def K mg "_law_curls" Uw ["_law_count_here","_law_rings"])
  (a:PySem.W.nsIn K mainGlobals "law" =some (some (.ref f)))(l0:K.lookup f=some ⟨oc,od, .func (PySem.W.fnOf "law" "law" (YG Gk) (XR Gk) (Xf Gk) .none kV dc pm an cd ct),sl⟩)(c:PySem.W.codeIn K cd "law" =true)(k:PySem.W.keepIn K (.ref f)=true)
  (z1:PySem.W.nsIn K mainGlobals "all" =some none)
  (z2:PySem.W.nsIn K mainGlobals "enumerate" =some none)
  (z3:PySem.W.nsIn K mainGlobals "isinstance" =some none)
  (z4:PySem.W.nsIn K mainGlobals "len" =some none)
  (z5:PySem.W.nsIn K mainGlobals "list" =some none)
  (z6:PySem.W.nsIn K mainGlobals "max" =some none)
  (z7:PySem.W.nsIn K mainGlobals "min" =some none)
  (z8:PySem.W.nsIn K mainGlobals "range" =some none)
  (z9:PySem.W.nsIn K mainGlobals "sorted" =some none)
  (z10:PySem.W.nsIn K mainGlobals "sum" =some none)
  (w0:PySem.W.nsIn K mainGlobals "MOST_LISTS" =some (some (.int 65536 tk0)))
  (w1:PySem.W.nsIn K mainGlobals "MOST_OF_ALL" =some (some (.int 4 tk1)))
  (w2:PySem.W.nsIn K mainGlobals "MOST_TO_COMPARE" =some (some (.int 6 tk2)))
  (x0:PySem.W.nsIn K mainGlobals "PlaitError" =some (some (.ref E0)))
  (x1:PySem.W.nsIn K mainGlobals "NoCrossing" =some (some (.ref E1)))
  (x2:PySem.W.nsIn K mainGlobals "TooBig" =some (some (.ref E2)))
  (x3:PySem.W.nsIn K mainGlobals "TooMuch" =some (some (.ref E3)))
  (yg:PySem.W.specialIn K (.builtin "object.__class__") "__get__" =some (some (.builtin "getset_descriptor.__get__")))
  (yt:PySem.W.takesIn K (.builtin "object.__class__")=some true)
  (ya0:PySem.W.excIn K E0 vEr "ValueError.__new__" =true)
  (yb0:PySem.W.findIn K (.ref E0) "__getattribute__" =some (some (.builtin "BaseException.__getattribute__")))
  (yc0:PySem.W.findIn K (.ref E0) "__getattr__" =some none)
  (yd0:PySem.W.findIn K (.ref E0) "__class__" =some (some (.builtin "object.__class__")))
  (ye0:PySem.W.mroIn K E0 (.type "object")=some true)
  (yf0:PySem.W.isClsIn K E0=true)
  (yh0:PySem.W.mroIn K E0 (.type "BaseException")=some true)
  (yi0:PySem.W.subIn K (.ref E0) (.type "ValueError")=some true)
  (yj0:PySem.W.typeIn K (.ref E0)=some (.type "type"))
  (yk0:PySem.W.subIn K (.ref E0) (.type "BaseException")=some true)
  (ya1:PySem.W.excIn K E1 vEr "ValueError.__new__" =true)
  (yb1:PySem.W.findIn K (.ref E1) "__getattribute__" =some (some (.builtin "BaseException.__getattribute__")))
  (yc1:PySem.W.findIn K (.ref E1) "__getattr__" =some none)
  (yd1:PySem.W.findIn K (.ref E1) "__class__" =some (some (.builtin "object.__class__")))
  (ye1:PySem.W.mroIn K E1 (.type "object")=some true)
  (yf1:PySem.W.isClsIn K E1=true)
  (yh1:PySem.W.mroIn K E1 (.type "BaseException")=some true)
  (yi1:PySem.W.subIn K (.ref E1) (.type "ValueError")=some true)
  (yj1:PySem.W.typeIn K (.ref E1)=some (.type "type"))
  (yk1:PySem.W.subIn K (.ref E1) (.type "BaseException")=some true)
  (ya2:PySem.W.excIn K E2 vEr "ValueError.__new__" =true)
  (yb2:PySem.W.findIn K (.ref E2) "__getattribute__" =some (some (.builtin "BaseException.__getattribute__")))
  (yc2:PySem.W.findIn K (.ref E2) "__getattr__" =some none)
  (yd2:PySem.W.findIn K (.ref E2) "__class__" =some (some (.builtin "object.__class__")))
  (ye2:PySem.W.mroIn K E2 (.type "object")=some true)
  (yf2:PySem.W.isClsIn K E2=true)
  (yh2:PySem.W.mroIn K E2 (.type "BaseException")=some true)
  (yi2:PySem.W.subIn K (.ref E2) (.type "ValueError")=some true)
  (yj2:PySem.W.typeIn K (.ref E2)=some (.type "type"))
  (yk2:PySem.W.subIn K (.ref E2) (.type "BaseException")=some true)
  (ya3:PySem.W.excIn K E3 vEr "ValueError.__new__" =true)
  (yb3:PySem.W.findIn K (.ref E3) "__getattribute__" =some (some (.builtin "BaseException.__getattribute__")))
  (yc3:PySem.W.findIn K (.ref E3) "__getattr__" =some none)
  (yd3:PySem.W.findIn K (.ref E3) "__class__" =some (some (.builtin "object.__class__")))
  (ye3:PySem.W.mroIn K E3 (.type "object")=some true)
  (yf3:PySem.W.isClsIn K E3=true)
  (yh3:PySem.W.mroIn K E3 (.type "BaseException")=some true)
  (yi3:PySem.W.subIn K (.ref E3) (.type "ValueError")=some true)
  (yj3:PySem.W.typeIn K (.ref E3)=some (.type "type"))
  (yk3:PySem.W.subIn K (.ref E3) (.type "BaseException")=some true)
  (yl0_0:PySem.W.subIn K (.ref E0) (.ref E0)=some true)
  (yl0_1:PySem.W.subIn K (.ref E0) (.ref E1)=some false)
  (yl0_2:PySem.W.subIn K (.ref E0) (.ref E2)=some false)
  (yl0_3:PySem.W.subIn K (.ref E0) (.ref E3)=some false)
  (yl1_0:PySem.W.subIn K (.ref E1) (.ref E0)=some true)
  (yl1_1:PySem.W.subIn K (.ref E1) (.ref E1)=some true)
  (yl1_2:PySem.W.subIn K (.ref E1) (.ref E2)=some false)
  (yl1_3:PySem.W.subIn K (.ref E1) (.ref E3)=some false)
  (yl2_0:PySem.W.subIn K (.ref E2) (.ref E0)=some true)
  (yl2_1:PySem.W.subIn K (.ref E2) (.ref E1)=some false)
  (yl2_2:PySem.W.subIn K (.ref E2) (.ref E2)=some true)
  (yl2_3:PySem.W.subIn K (.ref E2) (.ref E3)=some false)
  (yl3_0:PySem.W.subIn K (.ref E3) (.ref E0)=some true)
  (yl3_1:PySem.W.subIn K (.ref E3) (.ref E1)=some false)
  (yl3_2:PySem.W.subIn K (.ref E3) (.ref E2)=some false)
  (yl3_3:PySem.W.subIn K (.ref E3) (.ref E3)=some true)
  :∃fd:FuncData,(∀(s:Shared) (v:Value),BindsTo s fd ⟨[v],[]⟩ [("_law_script",v)])/\∀base:Heap,K.In base->base.Ns mainGlobals mg->FnOk l.prog w K mg base CX0 10 fa fd ["_law_script"] (sp1 (rL Xd) (oF XN) E6 K):=by
 have e:=hfa.symm.trans (PySem.W.mg_of X G a)
 cases e
 have N:∀{x:Str},PySem.W.nsIn K mainGlobals x=some none->mg x=none:=λz=>PySem.W.mg_none_of X G z
 have pz0:Vl "PlaitError" =true:=by decide
 have er0:=CD yb0 yc0 yd0 ye0 yf0 yh0 yg yt
 have iz0_0:YY "PlaitError" "PlaitError" =true:=by decide
 have kx0_0:=JB yl0_0 yl0_0 yf0 yj0 yk0
 have iz0_1:YY "PlaitError" "NoCrossing" =false:=by decide
 have kx0_1:=JB yl0_0 yl0_1 yf1 yj1 yk1
 have iz0_2:YY "PlaitError" "TooBig" =false:=by decide
 have kx0_2:=JB yl0_0 yl0_2 yf2 yj2 yk2
 have iz0_3:YY "PlaitError" "TooMuch" =false:=by decide
 have kx0_3:=JB yl0_0 yl0_3 yf3 yj3 yk3
 have pz1:Vl "NoCrossing" =true:=by decide
 have er1:=CD yb1 yc1 yd1 ye1 yf1 yh1 yg yt
 have iz1_0:YY "NoCrossing" "PlaitError" =true:=by decide
 have kx1_0:=JB yl1_1 yl1_0 yf0 yj0 yk0
 have iz1_1:YY "NoCrossing" "NoCrossing" =true:=by decide
 have kx1_1:=JB yl1_1 yl1_1 yf1 yj1 yk1
 have iz1_2:YY "NoCrossing" "TooBig" =false:=by decide
 have kx1_2:=JB yl1_1 yl1_2 yf2 yj2 yk2
 have iz1_3:YY "NoCrossing" "TooMuch" =false:=by decide
 have kx1_3:=JB yl1_1 yl1_3 yf3 yj3 yk3
 have pz2:Vl "TooBig" =true:=by decide
 have er2:=CD yb2 yc2 yd2 ye2 yf2 yh2 yg yt
 have iz2_0:YY "TooBig" "PlaitError" =true:=by decide
 have kx2_0:=JB yl2_2 yl2_0 yf0 yj0 yk0
 have iz2_1:YY "TooBig" "NoCrossing" =false:=by decide
 have kx2_1:=JB yl2_2 yl2_1 yf1 yj1 yk1
 have iz2_2:YY "TooBig" "TooBig" =true:=by decide
 have kx2_2:=JB yl2_2 yl2_2 yf2 yj2 yk2
 have iz2_3:YY "TooBig" "TooMuch" =false:=by decide
 have kx2_3:=JB yl2_2 yl2_3 yf3 yj3 yk3
 have pz3:Vl "TooMuch" =true:=by decide
 have er3:=CD yb3 yc3 yd3 ye3 yf3 yh3 yg yt
 have iz3_0:YY "TooMuch" "PlaitError" =true:=by decide
 have kx3_0:=JB yl3_3 yl3_0 yf0 yj0 yk0
 have iz3_1:YY "TooMuch" "NoCrossing" =false:=by decide
 have kx3_1:=JB yl3_3 yl3_1 yf1 yj1 yk1
 have iz3_2:YY "TooMuch" "TooBig" =false:=by decide
 have kx3_2:=JB yl3_3 yl3_2 yf2 yj2 yk2
 have iz3_3:YY "TooMuch" "TooMuch" =true:=by decide
 have kx3_3:=JB yl3_3 yl3_3 yf3 yj3 yk3
 have y0:OA K [("PlaitError",E0),("NoCrossing",E1),("TooBig",E2),("TooMuch",E3)]=true:=by
  unfold OA
  simp only[List.all_cons,List.all_nil,Bool.and_true,Bool.and_self,beq_self_eq_true,Bool.not_true,Bool.not_false,Bool.false_or,Bool.true_or,pz0,ya0,er0,Gg yi0,pz1,ya1,er1,Gg yi1,pz2,ya2,er2,Gg yi2,pz3,ya3,er3,Gg yi3,iz0_0,kx0_0.1,kx0_0.2,iz0_1,kx0_1.1,kx0_1.2,iz0_2,kx0_2.1,kx0_2.2,iz0_3,kx0_3.1,kx0_3.2,iz1_0,kx1_0.1,kx1_0.2,iz1_1,kx1_1.1,kx1_1.2,iz1_2,kx1_2.1,kx1_2.2,iz1_3,kx1_3.1,kx1_3.2,iz2_0,kx2_0.1,kx2_0.2,iz2_1,kx2_1.1,kx2_1.2,iz2_2,kx2_2.1,kx2_2.2,iz2_3,kx2_3.1,kx2_3.2,iz3_0,kx3_0.1,kx3_0.2,iz3_1,kx3_1.1,kx3_1.2,iz3_2,kx3_2.1,kx3_2.2,iz3_3,kx3_3.1,kx3_3.2]
 have Y:Ecs Xq K mg:=Pg (cs:=[("PlaitError",E0),("NoCrossing",E1),("TooBig",E2),("TooMuch",E3)]) y0 (λp hp=>by
  simp only[List.mem_cons,List.not_mem_nil,or_false] at hp
  rcases hp with rfl |rfl |rfl |rfl
  ·exact PySem.W.mg_of X G x0
  ·exact PySem.W.mg_of X G x1
  ·exact PySem.W.mg_of X G x2
  ·exact PySem.W.mg_of X G x3)
 have Z:Blt mg:=⟨N z1,N z2,N z3,N z4,N z5,N z6,N z7,N z8,N z9,N z10,⟨_,PySem.W.mg_of X G w0,_,rfl⟩,⟨_,PySem.W.mg_of X G w1,_,rfl⟩,⟨_,PySem.W.mg_of X G w2,_,rfl⟩⟩
 refine⟨PySem.W.fnOf "law" "law" (YG Gk) (XR Gk) (Xf Gk) .none kV dc pm an cd ct,λs v=>.of_eq rfl,λbase _ _=>?_⟩
 have g_cell:EC Cn l.prog w K mg base:=EN.2 D35 Y Z
 have g_mix:MT Lq l.prog w K mg base:=NL.2 D36 Y Z
 have g_row:LA EQ l.prog w K mg base:=MF.2 D37 g_cell g_mix Y Z
 have g_traced:Ge V2 l.prog w K mg base:=K6.2 D38 Y Z
 have g_turn_back:JS Qs l.prog w K mg base:=JR.2 D39 Y Z
 have g_begun:FU Gi l.prog w K mg base:=Di.2 D40 g_row g_traced g_turn_back Y Z
 have g_l_arcs:KL VW l.prog w K mg base:=KA.2 D42 Y Z
 have g_count:Fu Km l.prog w K mg base:=FI.2 D43 g_l_arcs Y Z
 have g_tries:Dc Vu l.prog w K mg base:=Df.2 D45 g_count Y Z
 have g_curls:Dp Uo l.prog w K mg base:=EE.2 D46 Y Z
 have g_copy:HE DX l.prog w K mg base:=HZ.2 D41 Y Z
 have g_refuse_above:YL X4 l.prog w K mg base:=Zp.2 D1 Y Z
 have g_refuse_too_much:YB Yd l.prog w K mg base:=Zc.2 D29 Y Z
 have g_arcs_of_walk:YK Ys l.prog w K mg base:=Qa.2 D23 Y Z
 have g_arc_count:QA ZR l.prog w K mg base:=JP.2 D22 g_arcs_of_walk Y Z
 have g_refuse_size:Zz XM l.prog w K mg base:=Y2.2 D33 g_refuse_above g_refuse_too_much g_arc_count Y Z
 have g_arcs_of_ways:Z9 Zq l.prog w K mg base:=Z5.2 D24 g_arcs_of_walk Y Z
 have g_arcs:En DJ l.prog w K mg base:=Hr.2 D21 g_arcs_of_walk g_arcs_of_ways Y Z
 have g_spot:EL CH l.prog w K mg base:=HK.2 D20 Y Z
 have g_meets:FX Vk l.prog w K mg base:=Fr.2 D25 g_arcs g_spot Y Z
 have g_ties:Hz Cl l.prog w K mg base:=HV.2 D26 g_meets Y Z
 have g_all_held:=FE (P:=l.prog) (w:=w) (base:=base) D27 Y Z
 have g_longer_by_arc:ZT YV l.prog w K mg base:=ZD.2 D30 g_all_held Y Z
 have g_colourings:Q2 Z2 l.prog w K mg base:=QU.2 D28 g_arc_count g_refuse_too_much g_ties g_longer_by_arc Y Z
 have g_many:DK ZF l.prog w K mg base:=CZ.2 D31 g_colourings Y Z
 have g_table_of_columns:Y1 ZV l.prog w K mg base:=ZW.2 D12 Y Z
 have g_longer_by_one:ZO Jr l.prog w K mg base:=Ji.2 D3 Y Z
 have g_each_once:UM JJ l.prog w K mg base:=Ud.2 D2 g_longer_by_one Y Z
 have g_longer_by_columns:=JC (P:=l.prog) (w:=w) (base:=base) D11 Y Z
 have g_all_columns:=US (P:=l.prog) (w:=w) (base:=base) D10 g_each_once g_longer_by_columns Y Z
 have g_breach_of_one:ZE Jo l.prog w K mg base:=Q4.2 D5 Y Z
 have g_first_same:VI QW l.prog w K mg base:=VN.2 D7 Y Z
 have g_breach_of_two:=VS (P:=l.prog) (w:=w) (base:=base) D6 g_first_same Y Z
 have g_breach_of_three:Zj Qi l.prog w K mg base:=Qf.2 D8 Y Z
 have g_broken:Kx Co l.prog w K mg base:=DH.2 D4 g_breach_of_one g_breach_of_two g_breach_of_three Y Z
 have g_tables:Gn YT l.prog w K mg base:=Cq.2 D9 g_refuse_above g_table_of_columns g_all_columns g_broken Y Z
 have g_refuse_big:Jc VD l.prog w K mg base:=VE.2 D14 g_refuse_above Y Z
 have g_equation_broken:Zk Qo l.prog w K mg base:=Qe.2 D18 Y Z
 have g_first_breach:JE Z7 l.prog w K mg base:=JH.2 D17 g_equation_broken Y Z
 have g_longer_images:QZ ZG l.prog w K mg base:=Q7.2 D16 Y Z
 have g_searched:=Dd (P:=l.prog) (w:=w) (base:=base) D15 g_first_breach g_longer_images Y Z
 have g_like:Mg DS l.prog w K mg base:=Mc.2 D13 g_refuse_big g_searched Y Z
 have g_kinds:=Iu (P:=l.prog) (w:=w) (base:=base) D19 g_tables g_like Y Z
 have g_mark:C4 Jp l.prog w K mg base:=UZ.2 D32 g_refuse_size g_many g_kinds Y Z
 have g_parted:V3 YC l.prog w K mg base:=Qy.2 D34 g_refuse_size g_tables g_many Y Z
 have g_refused:UK ZS l.prog w K mg base:=Vf.2 D44 g_mark g_parted Y Z
 exact MV.2 (Jd (st:=Gk) l0 c k) g_begun g_row g_tries g_curls g_copy g_mark g_parted g_refused Y Z
theorem SW {l:PySem.W.OpenLaw}{q:Program}{loose:List Str}{XP:(Str->Option Value)->Heap->Prop}{YP:World->Heap->Prop}{d:DefRec}{K:Params->PySem.W.Frag}(hn:l.most=some 63)(hdf:d.params.defaults=[])
  (hY:∀(w:World) (h:Heap),YP w h->(K w.params).In h)
  (F:∀(w:World) (mg:Str->Option Value) (fa:Addr) (h:Heap),(K w.params).In h->h.Ns mainGlobals mg->mg d.name=some (.ref fa)->
   ∃fd:FuncData,(∀(s:Shared) (u:Value),BindsTo s fd ⟨[u],[]⟩ [("_law_script",u)])/\∀base:Heap,(K w.params).In base->base.Ns mainGlobals mg->FnOk l.prog w (K w.params) mg base CX0 10 fa fd ["_law_script"] (sp1 (rL Xd) (oF XN) E6 (K w.params))):
  PySem.W.WalkO q loose XP YP l.row.toRowW d [] (λf vs=>PySem.call f vs):=
 L2.Nm (n:=63) (k:=10) (x:="_law_script") (CX:=λ_=>CX0) (sp:=λw=>sp1 (rL Xd) (oF XN) E6 (K w.params)) hn (by decide) hdf ⟨rfl,by decide,by decide⟩ hY F (λ_ _ a ns hl _ hS=>⟨.ref a,ns,true,rfl,⟨a,_,rfl,hS,Dm ns⟩,IA ns hl,λv C H' w m ho=>ho.2⟩) λ_ _ _ _ _ z=>z
end My
open PySem PySem.W PyProof.Rows
set_option maxRecDepth 100000 in
set_option maxHeartbeats 0 in
theorem PySem.Challenge.cw_plait_k78_sizes_refused_holds : PySem.Challenge.rw_plait_k78_sizes_refused.Holds := by
  w_on; o_law; k_head; (case hw => w_witness2)
  k_fill
  refine My.SW (l := PySem.Challenge.rw_plait_k78_sizes_refused) rfl rfl (fun w h Y => PySem.W.kIn_of Y) ?F
  case F =>
    intro w mg fa h KX G hmg
    refine' My.Rc KX G hmg (My.KB KX G (by intros; rfl) ?a1 ?l1 ?c1 ?k1) (My.Gr KX G (by intros; rfl) ?a2 ?l2 ?c2 ?k2) (My.KB KX G (by intros; rfl) ?a3 ?l3 ?c3 ?k3) (My.Gr KX G (by intros; rfl) ?a4 ?l4 ?c4 ?k4) (My.Gr KX G (by intros; rfl) ?a5 ?l5 ?c5 ?k5) (My.Gr KX G (by intros; rfl) ?a6 ?l6 ?c6 ?k6) (My.Gr KX G (by intros; rfl) ?a7 ?l7 ?c7 ?k7) (My.Gr KX G (by intros; rfl) ?a8 ?l8 ?c8 ?k8) (My.Gr KX G (by intros; rfl) ?a9 ?l9 ?c9 ?k9) (My.Gr KX G (by intros; rfl) ?a10 ?l10 ?c10 ?k10) (My.KB KX G (by intros; rfl) ?a11 ?l11 ?c11 ?k11) (My.Gr KX G (by intros; rfl) ?a12 ?l12 ?c12 ?k12) (My.KB KX G (by intros; rfl) ?a13 ?l13 ?c13 ?k13) (My.KB KX G (by intros; rfl) ?a14 ?l14 ?c14 ?k14) (My.KB KX G (by intros; rfl) ?a15 ?l15 ?c15 ?k15) (My.KB KX G (by intros; rfl) ?a16 ?l16 ?c16 ?k16) (My.MP KX G (by intros; rfl) ?a17 ?l17 ?c17 ?k17) (My.S2 KX G (by intros; rfl) ?a18 ?l18 ?c18 ?k18) (My.Gr KX G (by intros; rfl) ?a19 ?l19 ?c19 ?k19) (My.KB KX G (by intros; rfl) ?a20 ?l20 ?c20 ?k20) (My.Gr KX G (by intros; rfl) ?a21 ?l21 ?c21 ?k21) (My.Gr KX G (by intros; rfl) ?a22 ?l22 ?c22 ?k22) (My.Gr KX G (by intros; rfl) ?a23 ?l23 ?c23 ?k23) (My.KB KX G (by intros; rfl) ?a24 ?l24 ?c24 ?k24) (My.Gr KX G (by intros; rfl) ?a25 ?l25 ?c25 ?k25) (My.Gr KX G (by intros; rfl) ?a26 ?l26 ?c26 ?k26) (My.MP KX G (by intros; rfl) ?a27 ?l27 ?c27 ?k27) (My.KB KX G (by intros; rfl) ?a28 ?l28 ?c28 ?k28) (My.KB KX G (by intros; rfl) ?a29 ?l29 ?c29 ?k29) (My.MP KX G (by intros; rfl) ?a30 ?l30 ?c30 ?k30) (My.KB KX G (by intros; rfl) ?a31 ?l31 ?c31 ?k31) (My.KB KX G (by intros; rfl) ?a32 ?l32 ?c32 ?k32) (My.KB KX G (by intros; rfl) ?a33 ?l33 ?c33 ?k33) (My.MP KX G (by intros; rfl) ?a34 ?l34 ?c34 ?k34) (My.KB KX G (by intros; rfl) ?a35 ?l35 ?c35 ?k35) (My.KB KX G (by intros; rfl) ?a36 ?l36 ?c36 ?k36) (My.MP KX G (by intros; rfl) ?a37 ?l37 ?c37 ?k37) (My.MP KX G (by intros; rfl) ?a38 ?l38 ?c38 ?k38) (My.MP KX G (by intros; rfl) ?a39 ?l39 ?c39 ?k39) (My.KB KX G (by intros; rfl) ?a40 ?l40 ?c40 ?k40) (My.Gr KX G (by intros; rfl) ?a41 ?l41 ?c41 ?k41) (My.Gr KX G (by intros; rfl) ?a42 ?l42 ?c42 ?k42) (My.Gr KX G (by intros; rfl) ?a43 ?l43 ?c43 ?k43) (My.S0 KX G (by intros; rfl) ?a44 ?l44 ?c44 ?k44) (My.KB KX G (by intros; rfl) ?a45 ?l45 ?c45 ?k45) (My.KB KX G (by intros; rfl) ?a46 ?l46 ?c46 ?k46) ?a47 ?l47 ?c47 ?k47 ?z1 ?z2 ?z3 ?z4 ?z5 ?z6 ?z7 ?z8 ?z9 ?z10 ?w0 ?w1 ?w2 ?x0 ?x1 ?x2 ?x3 ?yg ?yt ?ya0 ?yb0 ?yc0 ?yd0 ?ye0 ?yf0 ?yh0 ?yi0 ?yj0 ?yk0 ?ya1 ?yb1 ?yc1 ?yd1 ?ye1 ?yf1 ?yh1 ?yi1 ?yj1 ?yk1 ?ya2 ?yb2 ?yc2 ?yd2 ?ye2 ?yf2 ?yh2 ?yi2 ?yj2 ?yk2 ?ya3 ?yb3 ?yc3 ?yd3 ?ye3 ?yf3 ?yh3 ?yi3 ?yj3 ?yk3 ?yl0_0 ?yl0_1 ?yl0_2 ?yl0_3 ?yl1_0 ?yl1_1 ?yl1_2 ?yl1_3 ?yl2_0 ?yl2_1 ?yl2_2 ?yl2_3 ?yl3_0 ?yl3_1 ?yl3_2 ?yl3_3
    (case a1 => k_is); (case l1 => k_is); (case c1 => k_is); (case k1 => k_is); (case a2 => k_is); (case l2 => k_is); (case c2 => k_is); (case k2 => k_is); (case a3 => k_is); (case l3 => k_is); (case c3 => k_is); (case k3 => k_is); (case a4 => k_is); (case l4 => k_is); (case c4 => k_is); (case k4 => k_is); (case a5 => k_is); (case l5 => k_is); (case c5 => k_is); (case k5 => k_is); (case a6 => k_is); (case l6 => k_is); (case c6 => k_is); (case k6 => k_is); (case a7 => k_is); (case l7 => k_is); (case c7 => k_is); (case k7 => k_is); (case a8 => k_is); (case l8 => k_is); (case c8 => k_is); (case k8 => k_is); (case a9 => k_is); (case l9 => k_is); (case c9 => k_is); (case k9 => k_is); (case a10 => k_is); (case l10 => k_is); (case c10 => k_is); (case k10 => k_is); (case a11 => k_is); (case l11 => k_is); (case c11 => k_is); (case k11 => k_is); (case a12 => k_is); (case l12 => k_is); (case c12 => k_is); (case k12 => k_is); (case a13 => k_is); (case l13 => k_is); (case c13 => k_is); (case k13 => k_is); (case a14 => k_is); (case l14 => k_is); (case c14 => k_is); (case k14 => k_is); (case a15 => k_is); (case l15 => k_is); (case c15 => k_is); (case k15 => k_is); (case a16 => k_is); (case l16 => k_is); (case c16 => k_is); (case k16 => k_is); (case a17 => k_is); (case l17 => k_is); (case c17 => k_is); (case k17 => k_is); (case a18 => k_is); (case l18 => k_is); (case c18 => k_is); (case k18 => k_is); (case a19 => k_is); (case l19 => k_is); (case c19 => k_is); (case k19 => k_is); (case a20 => k_is); (case l20 => k_is); (case c20 => k_is); (case k20 => k_is); (case a21 => k_is); (case l21 => k_is); (case c21 => k_is); (case k21 => k_is); (case a22 => k_is); (case l22 => k_is); (case c22 => k_is); (case k22 => k_is); (case a23 => k_is); (case l23 => k_is); (case c23 => k_is); (case k23 => k_is); (case a24 => k_is); (case l24 => k_is); (case c24 => k_is); (case k24 => k_is); (case a25 => k_is); (case l25 => k_is); (case c25 => k_is); (case k25 => k_is); (case a26 => k_is); (case l26 => k_is); (case c26 => k_is); (case k26 => k_is); (case a27 => k_is); (case l27 => k_is); (case c27 => k_is); (case k27 => k_is); (case a28 => k_is); (case l28 => k_is); (case c28 => k_is); (case k28 => k_is); (case a29 => k_is); (case l29 => k_is); (case c29 => k_is); (case k29 => k_is); (case a30 => k_is); (case l30 => k_is); (case c30 => k_is); (case k30 => k_is); (case a31 => k_is); (case l31 => k_is); (case c31 => k_is); (case k31 => k_is); (case a32 => k_is); (case l32 => k_is); (case c32 => k_is); (case k32 => k_is); (case a33 => k_is); (case l33 => k_is); (case c33 => k_is); (case k33 => k_is); (case a34 => k_is); (case l34 => k_is); (case c34 => k_is); (case k34 => k_is); (case a35 => k_is); (case l35 => k_is); (case c35 => k_is); (case k35 => k_is); (case a36 => k_is); (case l36 => k_is); (case c36 => k_is); (case k36 => k_is); (case a37 => k_is); (case l37 => k_is); (case c37 => k_is); (case k37 => k_is); (case a38 => k_is); (case l38 => k_is); (case c38 => k_is); (case k38 => k_is); (case a39 => k_is); (case l39 => k_is); (case c39 => k_is); (case k39 => k_is); (case a40 => k_is); (case l40 => k_is); (case c40 => k_is); (case k40 => k_is); (case a41 => k_is); (case l41 => k_is); (case c41 => k_is); (case k41 => k_is); (case a42 => k_is); (case l42 => k_is); (case c42 => k_is); (case k42 => k_is); (case a43 => k_is); (case l43 => k_is); (case c43 => k_is); (case k43 => k_is); (case a44 => k_is); (case l44 => k_is); (case c44 => k_is); (case k44 => k_is); (case a45 => k_is); (case l45 => k_is); (case c45 => k_is); (case k45 => k_is); (case a46 => k_is); (case l46 => k_is); (case c46 => k_is); (case k46 => k_is); (case a47 => k_is); (case l47 => k_is); (case c47 => k_is); (case k47 => k_is); (case z1 => k_is); (case z2 => k_is); (case z3 => k_is); (case z4 => k_is); (case z5 => k_is); (case z6 => k_is); (case z7 => k_is); (case z8 => k_is); (case z9 => k_is); (case z10 => k_is); (case w0 => k_is); (case w1 => k_is); (case w2 => k_is); (case x0 => k_is); (case x1 => k_is); (case x2 => k_is); (case x3 => k_is); (case yg => k_is); (case yt => k_is); (case ya0 => k_exc); (case yb0 => k_is); (case yc0 => k_is); (case yd0 => k_is); (case ye0 => k_is); (case yf0 => k_is); (case yh0 => k_is); (case yi0 => k_is); (case yj0 => k_is); (case yk0 => k_is); (case ya1 => k_exc); (case yb1 => k_is); (case yc1 => k_is); (case yd1 => k_is); (case ye1 => k_is); (case yf1 => k_is); (case yh1 => k_is); (case yi1 => k_is); (case yj1 => k_is); (case yk1 => k_is); (case ya2 => k_exc); (case yb2 => k_is); (case yc2 => k_is); (case yd2 => k_is); (case ye2 => k_is); (case yf2 => k_is); (case yh2 => k_is); (case yi2 => k_is); (case yj2 => k_is); (case yk2 => k_is); (case ya3 => k_exc); (case yb3 => k_is); (case yc3 => k_is); (case yd3 => k_is); (case ye3 => k_is); (case yf3 => k_is); (case yh3 => k_is); (case yi3 => k_is); (case yj3 => k_is); (case yk3 => k_is); (case yl0_0 => k_is); (case yl0_1 => k_is); (case yl0_2 => k_is); (case yl0_3 => k_is); (case yl1_0 => k_is); (case yl1_1 => k_is); (case yl1_2 => k_is); (case yl1_3 => k_is); (case yl2_0 => k_is); (case yl2_1 => k_is); (case yl2_2 => k_is); (case yl2_3 => k_is); (case yl3_0 => k_is); (case yl3_1 => k_is); (case yl3_2 => k_is); (case yl3_3 => k_is)
