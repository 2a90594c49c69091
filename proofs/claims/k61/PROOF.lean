import PyProof.Rows.All
import Wide.All
import OpenK.AllK
import Wide.FinOn
import Lean
import PyProof.EqAt
import PyProof.EqKinds
import PyProof.TupleCall
import PySem.Challenge.RW_plait_k61_turns_and_curls
set_option Elab.async false
set_option linter.all false
set_option maxRecDepth 100000
/- Each row tw.. takes a name under which k_head would lay an auxiliary declaration that this proof never uses; k_head then goes on without it. It makes the compiled file smaller, nothing else. REPORT.md tells of it. -/
namespace PySem.W.Fast
def tw12068062654047728622:=0
def tw14669647574181221403:=0
def tw16437031893788727169:=0
def tw12738359966518224898:=0
def tw7178941411742228496:=0
def tw11978597352073302125:=0
def tw9816380698592038161:=0
def tw3618602071988582926:=0
def tw2036735775737304677:=0
def tw10808397508757804949:=0
def tw1611091808648313093:=0
def tw12194294845861315228:=0
def tw9698370685841948594:=0
def tw16757543989823436693:=0
def tw6480750813669653491:=0
def tw5757181065804943677:=0
def tw15051830452212430272:=0
def tw8810440514049308906:=0
def tw7834442736366656619:=0
def tw11691636570645169480:=0
def tw11548477319520223946:=0
def tw12196345321904848802:=0
def tw9605852254252539335:=0
def tw18057722842321708474:=0
def tw11903094258665674236:=0
def tw17422206930631764443:=0
def tw11260034276703042794:=0
def tw1804247813919533818:=0
def tw1520618865640414396:=0
def tw6165356980135235385:=0
def tw12819909926983840438:=0
def tw1336845220323834957:=0
def tw6332079904205980475:=0
def tw2841099447884892252:=0
def tw14615544782697786377:=0
def tw6801545476299594390:=0
def tw11958696106744687917:=0
def tw611473659975024432:=0
def tw3913305316609649921:=0
def tw12052760078378406602:=0
def tw10603555036048593326:=0
def tw5459351616550733775:=0
def tw2701205141002669111:=0
def tw12542534010161739030:=0
def tw18038569347838513843:=0
def tw17879772549407077825:=0
def tw9573094469335746690:=0
def tw17868940953630771797:=0
def tw375335572886848314:=0
def tw4244839092292305997:=0
def tw14837371858348413242:=0
def tw2493584632387282396:=0
def tw13213766022566760178:=0
def tw1712289537220395464:=0
def tw17462364238357020668:=0
def tw16695976136324882974:=0
def tw7049983886469169766:=0
def tw7997381359678524035:=0
def tw2480032799140882077:=0
def tw9921457652946492144:=0
def tw13273626541534942619:=0
def tw7854883957894856168:=0
def tw6149781771158085669:=0
def tw7044649863224682781:=0
def tw3351194993833476566:=0
def tw1820595594368242452:=0
def tw16892564117764189071:=0
def tw4537589605824226455:=0
def tw365920448953688816:=0
def tw17123996341337523015:=0
def tw12594446738003296711:=0
def tw14771031512561257629:=0
def tw8077249762155750376:=0
def tw15273758416467252122:=0
def tw5190176520774527750:=0
def tw17427914444494791360:=0
def tw13754941291669106537:=0
def tw9936335965201302622:=0
def tw5973707080053893040:=0
def tw7864086887548149468:=0
def tw17078133596102315798:=0
def tw15602809960584847713:=0
def tw9395639122230219913:=0
def tw13085069469775535079:=0
def tw6144493809050015248:=0
def tw6116390809640181050:=0
def tw14684632128825220509:=0
def tw40865582469659910:=0
def tw12143838154656752105:=0
def tw7469812218926161933:=0
def tw5808341034852842140:=0
def tw15586651798532678368:=0
def tw6845799456047856829:=0
def tw7789945780665924317:=0
def tw8856634941506374950:=0
def tw12583745050770696122:=0
def tw6160924877706624342:=0
def tw11310879011490943736:=0
def tw11392557770681893467:=0
def tw17240201340670518033:=0
def tw16611242764797033501:=0
def tw7548444914935534267:=0
def tw10656471692995741212:=0
def tw6799480185598706247:=0
def tw9814159692514818413:=0
def tw3783399693875479516:=0
def tw5064811242069168644:=0
def tw7189045357093632299:=0
def tw5130273050215321109:=0
def tw2176676667685194414:=0
def tw15198620214544637516:=0
def tw15830755200335144162:=0
def tw7246587202896617239:=0
def tw6793273664400178231:=0
def tw13739064724653592904:=0
def tw18442419043389481656:=0
def tw18152433830944520668:=0
def tw12193667335799461200:=0
def tw5054237047453302602:=0
def tw3110416506468191259:=0
def tw12052150402142944226:=0
def tw1574746780410112441:=0
def tw11800465770018907131:=0
def tw9473783913631725569:=0
def tw8418780166768852891:=0
def tw5606016581441035509:=0
def tw12162225617589497047:=0
def tw14627936072969295392:=0
def tw3787055056494123714:=0
def tw14439217672167198745:=0
def tw17328229625256148477:=0
def tw971254497638376977:=0
def tw9157883329972227848:=0
def tw4320802422009601562:=0
def tw15572699170824246185:=0
def tw1915669978154820592:=0
def tw11089486937289631486:=0
def tw3810564605534853989:=0
def tw6855718478038297612:=0
def tw15862819475289567777:=0
def tw11785450064389549014:=0
def tw8743110929002177784:=0
def tw4970718070612529040:=0
def tw10528984761862053477:=0
def tw1175918408008469859:=0
def tw6564141910421433687:=0
def tw5029421759949744682:=0
def tw14576729815076758097:=0
def tw15618774951667390760:=0
def tw15480277565566556334:=0
def tw10219985020406354728:=0
def tw1937156792595565188:=0
def tw10281107273529383456:=0
def tw7144046457348554337:=0
def tw15121728151667182371:=0
def tw7702580295111197546:=0
def tw2854275012152077825:=0
def tw10968066506765634420:=0
def tw10114207264183085658:=0
def tw17174885218865593710:=0
def tw10714951442927000526:=0
def tw5788100134074169006:=0
def tw13715971287322715952:=0
def tw8014747148459737407:=0
def tw6754788247387923573:=0
def tw41998650818726841:=0
def tw15581594147045290220:=0
def tw15180914524848814851:=0
def tw9439851414690511819:=0
def tw14548682231516596232:=0
def tw2714814203002392407:=0
def tw8121776732182074999:=0
def tw7806531815615788526:=0
def tw10966682892653771082:=0
def tw6239520154496539710:=0
def tw6307284821093823099:=0
def tw7324894740527583526:=0
def tw11526682705438646072:=0
def tw8790152110218491480:=0
def tw11523330871108259013:=0
def tw5105001370420490329:=0
def tw13320179309419231937:=0
def tw10240666638396135924:=0
def tw8185791968807660723:=0
def tw16315720586889176589:=0
def tw7531124169797231621:=0
def tw4188077701797934794:=0
def tw6498338982177176910:=0
def tw13463728790266509635:=0
def tw12296197346307751383:=0
def tw16910002879154446032:=0
def tw5470634436508816912:=0
def tw8428882988874002254:=0
def tw10182591946962876489:=0
def tw3587284718260558782:=0
def tw5965930462829986063:=0
def tw18312989319091397856:=0
def tw6268613711154261017:=0
def tw15435528677284667821:=0
def tw9147100477617250270:=0
def tw16262400849274235226:=0
def tw12481978691857702040:=0
def tw14103867788068104104:=0
def tw8353015696722724450:=0
def tw13260702112541314414:=0
def tw9703622166174945113:=0
def tw15136257913113667133:=0
def tw5330541340257798982:=0
def tw5037219275373307522:=0
def tw2796726290901697302:=0
def tw15010197464063179104:=0
def tw6311451718115019926:=0
def tw4720238975381250293:=0
def tw1815571512924045617:=0
def tw528703950906525291:=0
def tw13503563208741761233:=0
def tw15200168736305481591:=0
def tw6717675286170810992:=0
def tw10430205274906239325:=0
def tw11605240351983446696:=0
def tw9281072330514637817:=0
def tw5465054177856683639:=0
def tw13524568719753474511:=0
def tw12012217967564178790:=0
def tw16713560056011555955:=0
def tw4042419640087521160:=0
def tw9554017276185284201:=0
def tw16526054166688040397:=0
def tw16895958227822054875:=0
def tw7178888189628356153:=0
def tw1698773117449806038:=0
def tw10865982864478971063:=0
def tw5230799412023392386:=0
def tw1194742145768389062:=0
def tw4741891162256593928:=0
def tw6357385831345602641:=0
def tw6410929974073260083:=0
def tw10095485403458492809:=0
def tw4459291718090049831:=0
def tw2929528613816286970:=0
def tw6634264639798530431:=0
def tw14907580404234391957:=0
def tw10837488020832814311:=0
def tw5664903505864037531:=0
def tw258739922023317814:=0
def tw4738639408838177646:=0
def tw16714860462225290709:=0
def tw884604145687534041:=0
def tw15170759311555359305:=0
def tw10648727192850487876:=0
def tw754990077889572923:=0
def tw838599111893535072:=0
def tw11518494308498212691:=0
def tw3187530200898885119:=0
def tw15905380890220247902:=0
def tw1836756397739994642:=0
def tw5312051770030035805:=0
def tw17941768757521365995:=0
def tw3495516296552452554:=0
def tw15832234611702080577:=0
def tw16340562393940596223:=0
def tw5303547548448869302:=0
def tw11499286543160500591:=0
def tw4966708614239608029:=0
def tw18407605653574653321:=0
def tw12321159353550386953:=0
def tw9668159158763503131:=0
def tw12147186164987028584:=0
def tw5639981588716178924:=0
def tw3185136494679491921:=0
def tw15284089603041352372:=0
def tw12511587439492519208:=0
def tw15668126114194285690:=0
def tw11719544768590012673:=0
def tw5336402312582824892:=0
def tw2987338402767086689:=0
def tw3008036841678269782:=0
def tw8487906111992055374:=0
def tw2031618744458535352:=0
def tw2087396612104494706:=0
def tw9403944121309244392:=0
def tw15402860313130543347:=0
def tw14214190181468291436:=0
def tw214497871499056911:=0
def tw12088951941631161545:=0
def tw13680372253581056379:=0
def tw18021509948984925996:=0
def tw13292133925131557980:=0
def tw8324360803608358050:=0
def tw9930975770233686264:=0
def tw13044174782828106951:=0
def tw7266292576858236619:=0
def tw15607119845230028191:=0
def tw6909608222618289221:=0
def tw3404252864488814099:=0
def tw4567927155304226024:=0
def tw4310284032698035187:=0
def tw13464758782591271840:=0
def tw7445021928057439187:=0
def tw8290961885425374545:=0
def tw7904468886983379641:=0
def tw9374967564974176602:=0
def tw14416503109675569795:=0
def tw5246832157009660797:=0
def tw5911859469476116716:=0
def tw14733097947394666031:=0
def tw10217055607093381628:=0
def tw16702545208953417066:=0
def tw11172576875823133967:=0
def tw8531906508700256248:=0
def tw11485181167799364017:=0
def tw6594926050190313529:=0
def tw13194719757768451060:=0
def tw1784234118230202461:=0
def tw4752855942526516954:=0
def tw1158041031529071318:=0
def tw218478530817050577:=0
def tw2437439668532160527:=0
def tw16077057214471983281:=0
def tw10337031311589571670:=0
def tw10231277174477138:=0
def tw15266964410749310408:=0
def tw5013016811348901362:=0
def tw717577445453199329:=0
def tw8376258392624658200:=0
def tw5438641195531693225:=0
def tw8630576440105769124:=0
def tw17212067568684444173:=0
def tw11431067157512057750:=0
def tw262307527917099533:=0
def tw13390620310398676770:=0
def tw2157829383939120127:=0
def tw9123209303301240370:=0
def tw15896115756918181084:=0
end PySem.W.Fast
set_option maxHeartbeats 4000000
namespace L2
open PySem PySem.Spec PyProof.Rows
noncomputable abbrev Key:=Sum Int Str
noncomputable def UX:Key->Value->Bool
 | .inl k,v=>Value.isInt k v
 | .inr x,v=>Value.isStrOf x v
noncomputable def Sr (w:World):Key->Int
 | .inl k=>hashInt k
 | .inr x=>hashStr w x
theorem Yj:∀{k:Key}{v:Value},UX k v=true->(∃i t,k=Sum.inl i/\v=Value.int i t)∨(∃x t,k=Sum.inr x/\v=Value.str x t)
 | .inl i,v,h=>by
  obtain⟨t,e⟩:=Value.isInt_shape (k:=i) (v:=v) h
  exact .inl ⟨i,t,rfl,e⟩
 | .inr x,v,h=>by
  obtain⟨t,e⟩:=Value.isStrOf_shape (x:=x) (v:=v) h
  exact .inr ⟨x,t,rfl,e⟩
theorem Hb (i:Int)(t:Tok):UX (.inl i) (.int i t)=true:=by simp[UX,Value.isInt]
theorem Hs (x:Str)(t:Tok):UX (.inr x) (.str x t)=true:=by simp[UX,Value.isStrOf]
theorem Ou (a b:Int):decide ((Sum.inl a:Key)=Sum.inl b)=(a==b):=by
 by_cases e:a=b
 ·subst e;simp
 ·have h:¬(Sum.inl a:Key)=Sum.inl b:=λq=>e (Sum.inl.inj q)
  rw[decide_eq_false h]
  exact(beq_eq_false_iff_ne.mpr e).symm
theorem O8 (a b:Str):decide ((Sum.inr a:Key)=Sum.inr b)=decide (a=b):=by
 by_cases e:a=b
 ·subst e;simp
 ·have h:¬(Sum.inr a:Key)=Sum.inr b:=λq=>e (Sum.inr.inj q)
  rw[decide_eq_false h,decide_eq_false e]
theorem OX (a:Int)(b:Str):decide ((Sum.inl a:Key)=Sum.inr b)=false:=decide_eq_false (λq=>nomatch q)
theorem OR (a:Str)(b:Int):decide ((Sum.inr a:Key)=Sum.inl b)=false:=decide_eq_false (λq=>nomatch q)
noncomputable def X7 (prog:Program)(w:World):PySem.KeyKind prog w Key where
 is:=UX
 hash:=Sr w
 inj:=λv a b ha hb=>by
  rcases Yj ha with⟨i,t,rfl,rfl⟩ | ⟨x,t,rfl,rfl⟩
  ·rcases Yj hb with⟨j,u,rfl,e⟩ | ⟨y,u,rfl,e⟩
   ·injection e with e1 _;rw[e1]
   ·exact nomatch e
  ·rcases Yj hb with⟨j,u,rfl,e⟩ | ⟨y,u,rfl,e⟩
   ·exact nomatch e
   ·injection e with e1 _;rw[e1]
 byValue:=λk v h=>by
  rcases Yj h with⟨i,t,rfl,rfl⟩ | ⟨x,t,rfl,rfl⟩<;> rfl
 pyHash:=λhv h=>by
  rcases Yj hv with⟨i,t,rfl,rfl⟩ | ⟨x,t,rfl,rfl⟩
  ·exact wpAny_pyHash_int h
  ·exact wpAny_pyHash_str h
 eqBool:=λhu hv h=>by
  rcases Yj hu with⟨i,t,rfl,rfl⟩ | ⟨x,t,rfl,rfl⟩
  ·rcases Yj hv with⟨j,u,rfl,rfl⟩ | ⟨y,u,rfl,rfl⟩
   ·rw[Ou] at h;exact wpAny_eqBool_int h
   ·rw[OX] at h;exact SeqAt.EqAt.int_str i t y u _ _ _ _ h
  ·rcases Yj hv with⟨j,u,rfl,rfl⟩ | ⟨y,u,rfl,rfl⟩
   ·rw[OR] at h;exact SeqAt.EqAt.str_int x t j u _ _ _ _ h
   ·rw[O8] at h;exact wpAny_eqBool_str h
 «strs»:=λk x t v h=>by
  rcases Yj h with⟨i,u,rfl,e⟩ | ⟨y,u,rfl,e⟩
  ·exact nomatch e
  ·injection e with e1 _
   subst e1
   cases v<;> rfl
theorem FU (prog:Program)(w:World)(i:Int)(t:Tok):(X7 prog w).is (.inl i) (.int i t)=true:=Hb i t
theorem De (prog:Program)(w:World)(x:Str)(t:Tok):(X7 prog w).is (.inr x) (.str x t)=true:=Hs x t
inductive V where
 |non |bl (b:Bool) |int (i:Int) |str (x:Str) |byt (b:Array UInt8) |flt (b:UInt64) |ref (a:Addr) |ty (n:String)
 deriving DecidableEq
noncomputable def XW:V->Value->Prop
 | .non,u=>u=Value.none
 | .bl b,u=>u=Value.bool b
 | .int i,u=>∃ t,u=Value.int i t
 | .str x,u=>∃ t,u=Value.str x t
 | .byt b,u=>∃ t,u=Value.bytes b t
 | .flt b,u=>∃ t,u=Value.float b t
 | .ref a,u=>u=Value.ref a
 | .ty n,u=>u=Value.type n
noncomputable abbrev XZ:List V->List Value->Prop:=Paired XW
theorem XZ.length {xs:List V}{us:List Value}(r:XZ xs us):xs.length=us.length:=Paired.length r
theorem XZ.get:∀{xs:List V}{us:List Value}{i:Nat}{x:V},XZ xs us->xs[i]?=some x->∃u,us[i]?=some u/\XW x u
 |_,_,_,_, .nil,e=>by simp at e
 |_,_,0,_, .cons r _,e=>by simp at e;subst e;exact⟨_,rfl,r⟩
 |_,_,i+1,x, .cons _ t,e=>by
  obtain⟨u,h1,h2⟩:=XZ.get (i:=i) (x:=x) t (by simpa using e)
  exact⟨u,by simpa using h1,h2⟩
theorem XZ.set {x:V}{u:Value}(r:XW x u):∀{xs:List V}{us:List Value} (i:Nat),XZ xs us->XZ (xs.set i x) (us.set i u)
 |_,_,_, .nil=>.nil
 |_,_,0, .cons _ t=>.cons r t
 |_,_,i+1, .cons q t=>.cons q (XZ.set r i t)
theorem XZ.append:∀{xs ys:List V}{us ws:List Value},XZ xs us->XZ ys ws->XZ (xs++ys) (us++ws):=λp s=>by
 induction p with
 |nil=>exact s
 |cons r _ ih=>exact .cons r ih
theorem XZ.take:∀{xs:List V}{us:List Value} (n:Nat),XZ xs us->XZ (xs.take n) (us.take n)
 |_,_,0,_=>.nil
 |_,_,_+1, .nil=>.nil
 |_,_,n+1, .cons r t=>.cons r (XZ.take n t)
theorem XZ.drop:∀{xs:List V}{us:List Value} (n:Nat),XZ xs us->XZ (xs.drop n) (us.drop n)
 |_,_,0,r=>r
 |_,_,_+1, .nil=>.nil
 |_,_,n+1, .cons _ t=>XZ.drop n t
noncomputable def Cr:Option V->Option Value->Prop
 |some v,some u=>XW v u
 |none,none=>True
 |_,_=>False
noncomputable def KV {κ:Type}:List (κ×V)->List (κ×Value)->Prop:=Paired λ(p:κ×V) (q:κ×Value)=>p.1=q.1/\XW p.2 q.2
noncomputable def kV:Key->V
 | .inl i=>.int i
 | .inr x=>.str x
inductive HO where
 /-- a list -/
 |lst (xs:List V)
 /-- a tuple (never changes) -/
 |tup (xs:List V)
 /-- a dict whose keys are ints and texts; one whose keys are tuples of ints and texts (the empty one is both) -/
 |dK (kvs:List (Key×V)) |dT (kvs:List (List Key×V))
 /-- a set of ints: its members, its size -/
 |set (S:Int->Bool) (n:Nat)
 /-- an instance of the class at C, its dict at dx, its attributes -/
 |ins (C dx:Addr) (fs:List (Str×V))
 /-- the dict of the instance at x -/
 |own (x:Addr)
 /-- the dict of an exception -/
 |xd (fs:List (Str×V))
 /-- a bound method, f of x -/
 |met (f x:Addr)
 /-- a range object lo, lo + 1, .. below hi -/
 |rng (lo hi:Int)
 /-- a thing that is known to the object (the script; a dict while a loop walks it): read, never written while it is so -/
 |frz (o:Obj) (u:HO)
 /-- a code object's table -/
 |tbl (ps:Array Value)
 /-- any other thing, by what is true of its one object (a def of one's own: SetO a S n:=HO.ext λh=>..) -/
 |ext (φ:Heap->Prop)
noncomputable abbrev Hp:=Addr->Option HO
noncomputable def upd (H:Hp)(a:Addr)(o:HO):Hp:=λb=>if b=a then some o else H b
theorem X9 {H:Hp}{a:Addr}{o:HO}:upd H a o a=some o:=by unfold upd;rw[if_pos rfl]
theorem XT {H:Hp}{a b:Addr}{o:HO}(h:b≠a):upd H a o b=H b:=by unfold upd;rw[if_neg h]
theorem RJ {H:Hp}{a b:Addr}{o u:HO}(h:H a=some o)(h':H b=some u)(d:o≠u):a≠b:=by
 intro e;subst e;rw[h] at h';exact d (Option.some.inj h')
theorem Yg {H:Hp}{a b:Addr}{o:HO}(h:H a=some o)(h':H b=none):a≠b:=by
 intro e;subst e;rw[h] at h';cases h'
noncomputable def Va (h:Heap)(a:Addr)(items:Array Value):Prop:=∃ o,h.get? a=some o/\(o.cls= .type "tuple" /\o.dict=none)/\∃n,o.data= .seq items n
theorem Va.t {h:Heap}{a:Addr}{items:Array Value}(x:Va h a items):IsTup h a items:=let ⟨o,ho,c,r⟩:=x;⟨o,ho,c.1,r⟩
theorem Va.new (h:Heap)(items:Array Value):Va (h.push {cls:=.type "tuple",data:=.seq items}) h.objs.size items:=⟨_,Heap.get?_push_size _ rfl,⟨rfl,rfl⟩,_,rfl⟩
section
variable (P:Program)(w:World)
noncomputable def Yp (H:Hp)(h:Heap)(a:Addr):HO->Prop
 | .lst xs=>xs.length<=sizeLine/\∃(its:List Value) (n:Nat),XZ xs its/\h.get? a=some {cls:=.type "list",data:=.seq its.toArray n}
 | .tup xs=>xs.length<=sizeLine/\∃its:List Value,XZ xs its/\Va h a its.toArray
 | .dK kvs=>kvs.length<=sizeLine/\(a==sysModules)=false/\∃vs,KV kvs vs/\h.DictOf (X7 P w) a vs
 | .dT kvs=>kvs.length<=sizeLine/\(a==sysModules)=false/\∃xs:List (List Key×Addr×Value),
   Paired (λ(p:List Key×V) (q:List Key×Addr×Value)=>p.1=q.1/\H q.2.1=some (.tup (p.1.map kV))/\XW p.2 q.2.2) kvs xs/\
   ∃o es ep,h.get? a=some o/\o.ExactDict/\o.data= .dict es ep/\es.toList=xs.map (entryOfKey (tupleKind (X7 P w)))/\(xs.map (·.1)).Nodup
 | .set S n=>h.SetOf (intKind P w) a S n
 | .ins C dx fs=>H dx=some (.own a)/\fs.length<=1000/\dx≠a/\h.get? a=some (PySem.W.instObj C dx)/\
   ∃mA,h.Ns1 dx mA/\(∀f,Cr (fs.lookup f) (mA f))/\PySem.Within mA (fs.map (·.1))
 | .own _=>∃ o,h.get? a=some o
 | .xd fs=>∃ mA,h.Ns1 a mA/\∀f,Cr (fs.lookup f) (mA f)
 | .rng lo hi=>∃ t u v,h.get? a=some {cls:=.type "range",data:=.fields #[.int lo t, .int hi u, .int 1 v]}
 | .frz o u=>h.get? a=some o/\Yp H h a u
 | .tbl ps=>h.get? a=some {cls:=.none,data:=.fields ps}
 | .met f x=>h.get? a=some (PySem.W.methodObj (.ref f) (.ref x))
 | .ext φ=>φ h/\(∃o,h.get? a=some o)/\∀h1 h2:Heap,φ h1->(∀o,h1.get? a=some o->h2.get? a=some o)->φ h2
noncomputable def HOk (H:Hp)(h:Heap):Prop:=∀ a o,H a=some o->Yp P w H h a o
end
section
variable {P:Program}{w:World}{H H':Hp}{h h':Heap}{a:Addr}{o:HO}
theorem Yp.lt (x:Yp P w H h a o):a<h.objs.size:=by
 cases o with
 |lst xs=>obtain⟨_,_,_,_,e⟩:=x;exact Heap.lt_size e
 |tup xs=>obtain⟨_,_,_,p⟩:=x;exact p.t.lt
 |dK kvs=>obtain⟨_,_,_,_,o,_,_,e,_⟩:=x;exact Heap.lt_size e
 |dT kvs=>obtain⟨_,_,_,_,o,_,_,e,_⟩:=x;exact Heap.lt_size e
 |set S n=>obtain⟨o,_,_,_,e,_⟩:=x;exact Heap.lt_size e
 |ins C dx fs=>obtain⟨_,_,_,e,_⟩:=x;exact Heap.lt_size e
 |own y=>obtain⟨_,e⟩:=x;exact Heap.lt_size e
 |xd fs=>obtain⟨_,⟨_,_,_,e,_⟩,_⟩:=x;exact Heap.lt_size e
 |rng lo hi=>obtain⟨_,_,_,e⟩:=x;exact Heap.lt_size e
 |frz ob u=>obtain⟨e,_⟩:=x;exact Heap.lt_size e
 |tbl ps=>exact Heap.lt_size (show h.get? a=some _ from x)
 |met f y=>exact Heap.lt_size (show h.get? a=some _ from x)
 |ext φ=>obtain⟨_,⟨_,e⟩,_⟩:=x;exact Heap.lt_size e
theorem Paired.mapP {α β:Type}{F G:α->β->Prop}:∀{l₁:List α}{l₂:List β},Paired F l₁ l₂->(∀a b,F a b->G a b)->Paired G l₁ l₂:=λp f=>by
 induction p with
 |nil=>exact .nil
 |cons r _ ih=>exact .cons (f _ _ r) ih
theorem Yp.stay (x:Yp P w H h a o)(k:∀b u,(b=a∨H b=some (.own a))->h.get? b=some u->h'.get? b=some u)
  (ho:∀b,H b=some (.own a)->H' b=some (.own a))(ht:∀b xs,H b=some (.tup xs)->H' b=some (.tup xs)):Yp P w H' h' a o:=by
 induction o with
 |lst xs=>obtain⟨z,its,n,r,e⟩:=x;exact⟨z,its,n,r,k _ _ (.inl rfl) e⟩
 |tup xs=>obtain⟨z,its,r,ob,e,c⟩:=x;exact⟨z,its,r,ob,k _ _ (.inl rfl) e,c⟩
 |dK kvs=>obtain⟨z,y,vs,r,ob,es,ep,e,c⟩:=x;exact⟨z,y,vs,r,ob,es,ep,k _ _ (.inl rfl) e,c⟩
 |dT kvs=>
  obtain⟨z,y,xs,r,ob,es,ep,e,c⟩:=x
  exact⟨z,y,xs,Paired.mapP r λp q z=>⟨z.1,ht _ _ z.2.1,z.2.2⟩,ob,es,ep,k _ _ (.inl rfl) e,c⟩
 |set S n=>obtain⟨ob,es,ep,t,e,c⟩:=x;exact⟨ob,es,ep,t,k _ _ (.inl rfl) e,c⟩
 |ins C dx fs=>
  obtain⟨d,z,ne,e,mA,⟨od,es,ep,e2,c⟩,r⟩:=x
  exact⟨ho _ d,z,ne,k _ _ (.inl rfl) e,mA,⟨od,es,ep,k _ _ (.inr d) e2,c⟩,r⟩
 |own y=>obtain⟨ob,e⟩:=x;exact⟨ob,k _ _ (.inl rfl) e⟩
 |xd fs=>obtain⟨mA,⟨od,es,ep,e,c⟩,r⟩:=x;exact⟨mA,⟨od,es,ep,k _ _ (.inl rfl) e,c⟩,r⟩
 |rng lo hi=>obtain⟨t,u,v,e⟩:=x;exact⟨t,u,v,k _ _ (.inl rfl) e⟩
 |frz ob u ih=>obtain⟨e,q⟩:=x;exact⟨k _ _ (.inl rfl) e,ih q⟩
 |tbl ps=>
  have e:h.get? a=some {cls:=.none,data:=.fields ps}:=x
  show h'.get? a=some {cls:=.none,data:=.fields ps}
  exact k a _ (.inl rfl) e
 |met f y=>
  have e:h.get? a=some (PySem.W.methodObj (.ref f) (.ref y)):=x
  show h'.get? a=some (PySem.W.methodObj (.ref f) (.ref y))
  exact k a _ (.inl rfl) e
 |ext φ=>obtain⟨p,⟨o,e⟩,st⟩:=x;exact⟨st _ _ p λo q=>k _ _ (.inl rfl) q,⟨o,k _ _ (.inl rfl) e⟩,st⟩
theorem HOk.lt (x:HOk P w H h)(e:H a=some o):a<h.objs.size:=(x a o e).lt
theorem HOk.fresh (x:HOk P w H h)(e:h.objs.size<=a):H a=none:=by
 cases q:H a with
 |none=>rfl
 |some u=>exact absurd (Nat.lt_of_lt_of_le (x.lt q) e) (Nat.lt_irrefl _)
theorem HOk.kept (x:HOk P w H h)(k:∀b u,h.get? b=some u->h'.get? b=some u):HOk P w H h':=λa o e=>
 (x a o e).stay (λb u _ q=>k b u q) (λ_ q=>q) λ_ _ q=>q
theorem HOk.laid (x:HOk P w H h)(k:∀b u,h.get? b=some u->h'.get? b=some u)(hp:h.objs.size<=a)(new:Yp P w (upd H a o) h' a o):HOk P w (upd H a o) h':=λb u e=>by
 have hn:=x.fresh hp
 by_cases hb:b=a
 ·subst hb;rw[X9] at e;cases e;exact new
 ·rw[XT hb] at e
  exact(x b u e).stay (λc v _ q=>k c v q) (λc q=>by rw[XT (Yg q hn)];exact q) λc xs q=>by rw[XT (Yg q hn)];exact q
end
noncomputable def Rd (H:Hp)(a:Addr)(u:HO):Prop:=H a=some u∨∃o,H a=some (.frz o u)
theorem Rd.of {H:Hp}{a:Addr}{u:HO}(h:H a=some u):Rd H a u:=.inl h
theorem Rd.ok {P:Program}{w:World}{H:Hp}{h:Heap}{a:Addr}{u:HO}(r:Rd H a u)(x:HOk P w H h):Yp P w H h a u:=by
 rcases r with r | ⟨o,r⟩
 ·exact x a u r
 ·obtain⟨_,q⟩:=x a _ r
  exact q
noncomputable def Mut:Option HO->Prop
 |some (.lst _)=>True
 |some (.dK _)=>True
 |some (.dT _)=>True
 |some (.set _ _)=>True
 |some (.ins _ _ _)=>True
 |some (.ext _)=>True
 |_=>False
section
variable {P:Program}{w:World}{H:Hp}{h h':Heap}{x e:Addr}{o':HO}
theorem HOk.write (ok:HOk P w H h)(mu:Mut (H x))(he:e=x∨H e=some (.own x))(k:∀b u,b≠e->h.get? b=some u->h'.get? b=some u)(heo:∃u,h'.get? e=some u)
  (new:Yp P w (upd H x o') h' x o'):HOk P w (upd H x o') h':=λb u q=>by
 have nown:∀c y,H c=some (.own y)->c≠x:=λc y r z=>by subst z;rw[r] at mu;exact mu
 have ntup:∀c xs,H c=some (.tup xs)->c≠x:=λc xs r z=>by subst z;rw[r] at mu;exact mu
 by_cases hb:b=x
 ·subst hb;rw[X9] at q;cases q;exact new
 ·rw[XT hb] at q
  by_cases hbe:b=e
  ·have q':H b=some (.own x):=by
    rcases he with z |z
    ·exact absurd (hbe.trans z) hb
    ·rw[hbe];exact z
   rw[q] at q';cases q'
   obtain⟨v,hv⟩:=heo
   exact⟨v,by rw[hbe];exact hv⟩
  ·refine(ok b u q).stay (λc v hc r=>k c v ?_ r) (λc r=>by rw[XT (nown c b r)];exact r) λc xs r=>by rw[XT (ntup c xs r)];exact r
   rcases hc with rfl |hc
   ·exact hbe
   ·rintro rfl
    rcases he with z |z
    ·exact nown c b hc z
    ·rw[hc] at z;cases z;exact hb rfl
end
structure Un (fs ex:List Addr)(H H':Hp)(h h':Heap):Prop where
 keep:∀b o,h.get? b=some o->H b=none->b∉fs->b∉ex->h'.get? b=some o
 slot:∀b o,h.get? b=some o->H b=none->b∈fs->b∉ex->∃sl,h'.get? b=some {o with slots:=sl}
 free:∀b o,h.get? b=some o->H b=none->b∉ex->H' b=none
 there:∀b o,h.get? b=some o->b∉ex->∃o',h'.get? b=some o'
 tups:∀b xs,H b=some (.tup xs)->H' b=some (.tup xs)
 frzs:∀b o u,H b=some (.frz o u)->H' b=some (.frz o u)
 tbls:∀b ps,H b=some (.tbl ps)->∃more,H' b=some (.tbl (ps++more))
section
variable {fs fs' ex ex':List Addr}{H H1 H2:Hp}{h h1 h2 h':Heap}{a x e:Addr}{o:HO}
theorem Un.any (u:Un fs ex H H1 h h1){b:Addr}{ob:Obj}(q:h.get? b=some ob)(n:H b=none)(hx:b∉ex):∃sl,h1.get? b=some {ob with slots:=sl}:=by
 by_cases hb:b∈fs
 ·exact u.slot b ob q n hb hx
 ·exact⟨ob.slots,u.keep b ob q n hb hx⟩
theorem Un.trans (a:Un fs ex H H1 h h1)(b:Un fs ex H1 H2 h1 h2):Un fs ex H H2 h h2 where
 keep:=λc ob q n hc hx=>b.keep c ob (a.keep c ob q n hc hx) (a.free c ob q n hx) hc hx
 slot:=λc ob q n hc hx=>by
  obtain⟨sl,e1⟩:=a.slot c ob q n hc hx
  obtain⟨sl',e2⟩:=b.slot c _ e1 (a.free c ob q n hx) hc hx
  exact⟨sl',e2⟩
 free:=λc ob q n hx=>by
  obtain⟨o',e1⟩:=a.there c ob q hx
  exact b.free c o' e1 (a.free c ob q n hx) hx
 there:=λc ob q hx=>by
  obtain⟨o',e1⟩:=a.there c ob q hx
  exact b.there c o' e1 hx
 tups:=λc xs q=>b.tups c xs (a.tups c xs q)
 frzs:=λc ob xs q=>b.frzs c ob xs (a.frzs c ob xs q)
 tbls:=λc ps q=>by
  obtain⟨m1,e1⟩:=a.tbls c ps q
  obtain⟨m2,e2⟩:=b.tbls c _ e1
  exact⟨m1++m2,by rw[e2,Array.append_assoc]⟩
theorem Un.kept (k:∀b u,h.get? b=some u->h'.get? b=some u):Un fs ex H H h h':=
 ⟨λb ob q _ _ _=>k b ob q,λb ob q _ _ _=>⟨ob.slots,k b ob q⟩,λ_ _ _ n _=>n,λb ob q _=>⟨ob,k b ob q⟩,λ_ _ q=>q,λ_ _ _ q=>q,λ_ ps q=>⟨#[],by rw[q];simp⟩⟩
theorem Un.refl:Un fs ex H H h h:=Un.kept λ_ _ q=>q
theorem Un.laid (k:∀b u,h.get? b=some u->h'.get? b=some u)(hp:h.objs.size<=a)(hn:H a=none):Un fs ex H (upd H a o) h h' where
 keep:=λb u q _ _ _=>k b u q
 slot:=λb u q _ _ _=>⟨u.slots,k b u q⟩
 free:=λb u q n _=>by rw[XT (Nat.ne_of_lt (Nat.lt_of_lt_of_le (Heap.lt_size q) hp))];exact n
 there:=λb u q _=>⟨u,k b u q⟩
 tups:=λb xs q=>by rw[XT (Yg q hn)];exact q
 frzs:=λb u xs q=>by rw[XT (Yg q hn)];exact q
 tbls:=λb ps q=>⟨#[],by rw[XT (Yg q hn),q];simp⟩
theorem Un.write (mu:Mut (H x))(he:e=x∨H e=some (.own x))(k:∀b u,b≠e->h.get? b=some u->h'.get? b=some u)(heo:∃u,h'.get? e=some u):Un fs ex H (upd H x o) h h':=by
 have hx:∀b,H b=none->b≠x:=λb n z=>by subst z;rw[n] at mu;exact mu
 have hb:∀b,H b=none->b≠e:=λb n z=>by
  subst z
  rcases he with r |r
  ·exact hx b n r
  ·rw[n] at r;cases r
 have hm:∀b u,H b=some u->¬Mut (some u)->b≠x:=λb u q nm z=>by subst z;rw[q] at mu;exact nm mu
 refine⟨λb u q n _ _=>k b u (hb b n) q,λb u q n _ _=>⟨u.slots,k b u (hb b n) q⟩,λb u q n _=>by rw[XT (hx b n)];exact n,λb u q _=>?_,
  λb xs q=>by rw[XT (hm b _ q λz=>z)];exact q,λb u xs q=>by rw[XT (hm b _ q λz=>z)];exact q,λb ps q=>⟨#[],by rw[XT (hm b _ q λz=>z),q];simp⟩⟩
 by_cases hbe:b=e
 ·subst hbe;exact heo
 ·exact⟨u,k b u hbe q⟩
theorem Un.mono (u:Un fs ex H H1 h h1)(hs:∀b∈fs,b∈fs')(hx:∀b∈ex,b∈ex'):Un fs' ex' H H1 h h1:=
 ⟨λb ob q n hb he=>u.keep b ob q n (λz=>hb (hs b z)) λz=>he (hx b z),λ_ _ q n _ he=>u.any q n λz=>he (hx _ z),λb ob q n he=>u.free b ob q n λz=>he (hx b z),λb ob q he=>u.there b ob q λz=>he (hx b z),u.tups,u.frzs,u.tbls⟩
end
noncomputable def trk (h:Heap)(H:Hp):List Addr:=(List.range h.objs.size).filter λa=>(H a).isSome
noncomputable def HL (h:Heap)(H:Hp):Heap:=PySem.W.hideAll h (trk h H)
theorem BD (h:Heap)(H:Hp):(HL h H).objs.size=h.objs.size:=PySem.W.hideAll_size _ _
theorem Du {h:Heap}{H:Hp}{b:Addr}{o:Obj}(e:h.get? b=some o)(n:H b=none):(HL h H).get? b=some o:=
 PySem.W.hideAll_get _ e λhm=>by
  have q:(H b).isSome=true:=(List.mem_filter.mp hm).2
  rw[n] at q;simp at q
theorem M9 {h:Heap}{H:Hp}{b:Addr}{o:Obj}(e:(HL h H).get? b=some o):h.get? b=some o/\H b=none:=by
 have e':h.get? b=some o:=PySem.W.of_hideAll (trk h H) e
 refine⟨e',?_⟩
 cases q:H b with
 |none=>rfl
 |some x=>
  have hm:b∈trk h H:=List.mem_filter.mpr ⟨List.mem_range.mpr (Heap.lt_size e'),by simp[q]⟩
  have z:(HL h H).get? b=none:=PySem.W.hideAll_none (trk h H) hm
  rw[z] at e;cases e
noncomputable def Me (g h:Heap)(L:Addr):List (Addr×Obj):=(List.range h.objs.size).filterMap λa=>if a=L∨(g.get? a).isSome=true then none else(h.get? a).map λo=>(a,o)
noncomputable def Z9 (g h:Heap)(L d:Addr):List (Addr×Obj):=(Me g h L).filter λp=>decide (p.1≠d)
structure Mod (K:PySem.W.Frag)(mg:Str->Option Value)(base:Heap):Prop where
 kin:K.In base
 glob:base.Ns mainGlobals mg
 blt:∃mb,base.Ns builtinsNs mb/\∀x:Str,x≠ "__name__" ->mb x=bootBuiltins x
 nolimit:base.NoLimit
structure Cx where
 prog:Program
 w:World
 K:PySem.W.Frag
 mg:Str->Option Value
 base:Heap
 A:Around
 N:List Str
 s₀:Shared
 H₀:Hp
 env:Env
 outer:List Env
 stack:List Env
 ex:List Addr
 fn:Str->Bool
 calm:Bool
 pn:List (Addr×Obj)
 xe:Value->Shared->Prop
noncomputable def frs (l:List Env):List Addr:=l.filterMap (·.frame)
noncomputable abbrev Cx.fs (X:Cx):List Addr:=frs X.outer
noncomputable def Vis (sc:Scope)(x:Str):Prop:=sc.names.lookup x=some .local∨sc.names.lookup x=some .cell∨sc.names.lookup x=some .free
noncomputable def Loc (sc:Scope)(x:Str):Prop:=sc.names.lookup x=some .local∨sc.names.lookup x=some .cell
noncomputable def Sq (env:Env)(h:Heap)(m:Str->Option Value)(x:Str)(u:Value):Prop:=
 (env.kindOf x=some .local/\m x=some u)∨((env.kindOf x=some .cell∨env.kindOf x=some .free)/\∃c,env.cells.lookup x=some c/\h.IsCell c (some u))
structure Cx.Ok (X:Cx):Prop where
 mod:Mod X.K X.mg X.base
 kind:X.env.scope.kind= .function
 glob:X.env.globals=mainGlobals
 blt:X.env.builtins=builtinsNs
 above:X.s₀.heap.objs.size<=X.env.locals
 inj:∀x y c,X.env.cells.lookup x=some c->X.env.cells.lookup y=some c->x=y
 has:∀x,(X.env.kindOf x=some .cell∨X.env.kindOf x=some .free)->∃c,X.env.cells.lookup x=some c
 cab:∀x c,X.fn x=true->X.env.cells.lookup x=some c->X.s₀.heap.objs.size<=c
 hd:X.calm=true->X.A.handled=none
 frames:X.A.frames=some X.stack
 stk:X.stack=X.outer∨(X.stack=X.env::X.outer/\X.env.frame=some X.env.locals)
 exf:∀b∈X.ex,b≠X.env.locals/\∀x c,X.env.cells.lookup x=some c->c≠b
 bs:∀b o,X.base.get? b=some o->X.s₀.heap.get? b=some o/\X.H₀ b=none
 bsz:X.base.objs.size<=X.s₀.heap.objs.size
 noex:∀b o,X.base.get? b=some o->b∉X.ex
 exfs:∀b∈X.ex,b∉X.fs
 funs:X.s₀.heap.FunFrames X.base X.outer
 frf:∀b∈X.fs,X.H₀ b=none
structure Inv (X:Cx)(pins:List (Addr×Obj))(σ:List (Option V))(H:Hp)(s:Shared):Prop where
 ok:X.Ok
 os:s.os=X.s₀.os
 bare:AllBare s.gens
 base:Un X.fs X.ex X.H₀ H X.s₀.heap s.heap
 loc:∃m,s.heap.Ns X.env.locals m/\∀(i:Nat) (x:Str) (v:V),X.N[i]?=some x->σ[i]?=some (some v)->Vis X.env.scope x->∃u,XW v u/\Sq X.env s.heap m x u
 cell:∀x c,X.env.cells.lookup x=some c->∃v,s.heap.IsCell c v
 free:H X.env.locals=none
 freeC:∀x c,X.env.cells.lookup x=some c->H c=none
 pin:∀p∈X.pn++pins,s.heap.get? p.1=some p.2/\H p.1=none/\p.1≠X.env.locals/\p.1∉X.fs/\∀v,p.2.data≠ .cell v
 hok:HOk X.prog X.w H s.heap
 len:σ.length=X.N.length
section
variable {X:Cx}{pins:List (Addr×Obj)}{σ:List (Option V)}{H H':Hp}{s:Shared}{h':Heap}
theorem Cx.Ok.nofr (ok:X.Ok){b:Addr}{o:Obj}(e:X.base.get? b=some o):b∉X.fs:=λhb=>by
 have:=(ok.funs.mem hb).1
 rw[e] at this;cases this
theorem Inv.bs (I:Inv X pins σ H s):∀b o,X.base.get? b=some o->s.heap.get? b=some o/\H b=none:=λb o e=>
 ⟨I.base.keep b o (I.ok.bs b o e).1 (I.ok.bs b o e).2 (I.ok.nofr e) (I.ok.noex b o e),I.base.free b o (I.ok.bs b o e).1 (I.ok.bs b o e).2 (I.ok.noex b o e)⟩
theorem Inv.bk (I:Inv X pins σ H s):∀b o,X.base.get? b=some o->s.heap.get? b=some o:=λb o e=>(I.bs b o e).1
theorem Inv.mod (I:Inv X pins σ H s):Mod X.K X.mg X.base:=I.ok.mod
theorem Inv.kIn (I:Inv X pins σ H s):X.K.In s.heap:=I.ok.mod.kin.keeps I.bk
theorem Inv.nolimit (I:Inv X pins σ H s):s.heap.NoLimit:=I.ok.mod.nolimit.keeps I.bk
theorem Inv.lt (I:Inv X pins σ H s):X.env.locals<s.heap.objs.size:=let ⟨_,hn,_⟩:=I.loc;hn.lt
theorem Inv.sz (I:Inv X pins σ H s):X.s₀.heap.objs.size<=s.heap.objs.size:=Nat.le_trans I.ok.above (Nat.le_of_lt I.lt)
theorem Inv.nofs (I:Inv X pins σ H s){a:Addr}(h:s.heap.objs.size<=a):a∉X.fs:=λhb=>by
 obtain⟨_,o,ho,_⟩:=I.ok.funs.mem hb
 exact absurd (Nat.lt_of_lt_of_le (Heap.lt_size ho) (Nat.le_trans I.sz h)) (Nat.lt_irrefl _)
theorem Inv.cne (I:Inv X pins σ H s):∀x c,X.env.cells.lookup x=some c->c≠X.env.locals:=λx c e z=>by
 obtain⟨v,o,ho,hd⟩:=I.cell x c e
 obtain⟨m,⟨o',es,ep,ho',hd',_⟩,_⟩:=I.loc
 rw[z,ho'] at ho;cases ho;rw[hd'] at hd;cases hd
theorem Inv.funs (I:Inv X pins σ H s):s.heap.FunFrames X.base X.outer:=by
 have all:∀(l:List Env),(∀b∈frs l,b∈X.fs)->X.s₀.heap.FunFrames X.base l->s.heap.FunFrames X.base l:=by
  intro l
  induction l with
  |nil=>intro _ _;trivial
  |cons env r ih=>
   intro hs hl
   obtain⟨hk,⟨L,o,hf,hn,ho,hd⟩,hr⟩:=hl
   have hL:L∈X.fs:=hs L (by unfold frs;rw[List.filterMap_cons,hf];exact List.mem_cons_self)
   obtain⟨sl,e⟩:=I.base.slot L o ho (I.ok.frf L hL) hL λz=>I.ok.exfs L z hL
   exact⟨hk,⟨L,_,hf,hn,e,hd⟩,ih (λb hb=>hs b (by unfold frs;rw[List.filterMap_cons,hf];exact List.mem_cons_of_mem _ hb)) hr⟩
 exact all X.outer (λ_ hb=>hb) I.ok.funs
theorem Inv.stack (I:Inv X pins σ H s):s.heap.FunFrames X.base X.stack:=by
 rcases I.ok.stk with e | ⟨e,hf⟩
 ·rw[e];exact I.funs
 ·rw[e]
  obtain⟨m,hn,_⟩:=I.loc
  refine .cons (by rw[I.ok.kind];decide) hf hn ?_ I.funs
  exact Heap.get?_none_of_le (Nat.le_trans I.ok.bsz I.ok.above)
theorem Inv.stkSub (I:Inv X pins σ H s):∀b∈frs X.stack,b∈X.env.locals::X.fs:=λb hb=>by
 rcases I.ok.stk with e | ⟨e,hf⟩
 ·rw[e] at hb;exact List.mem_cons_of_mem _ hb
 ·rw[e] at hb
  unfold frs at hb
  rw[List.filterMap_cons,hf] at hb
  exact hb
theorem Inv.stkFree (I:Inv X pins σ H s):∀b∈frs X.stack,H b=none:=λb hb=>by
 rcases List.mem_cons.mp (I.stkSub b hb) with e |hb
 ·rw[e];exact I.free
 ·obtain⟨_,o,ho,_⟩:=I.ok.funs.mem hb
  exact I.base.free b o ho (I.ok.frf b hb) λz=>I.ok.exfs b z hb
theorem Inv.step {g':Array GenState}{t':Nat}{d':Drawn}{ch:List Addr}(I:Inv X pins σ H s)
  (hch:∀b∈ch,(b∈X.ex∨X.s₀.heap.objs.size<=b)/\b≠X.env.locals/\(∀x c,X.env.cells.lookup x=some c->c≠b)/\∀p∈X.pn++pins,p.1≠b)
  (keep:∀b o,b≠X.env.locals->b∉X.fs->b∉ch->s.heap.get? b=some o->H b=none->h'.get? b=some o)
  (slot:∀b o,b≠X.env.locals->b∈X.fs->b∉ch->s.heap.get? b=some o->H b=none->∃sl,h'.get? b=some {o with slots:=sl})(free:∀b o,b∉ch->s.heap.get? b=some o->H b=none->H' b=none)
  (there:∀b o,b∉ch->s.heap.get? b=some o->∃o',h'.get? b=some o')
  (tups:∀b xs,H b=some (.tup xs)->H' b=some (.tup xs))(frzs:∀b o u,H b=some (.frz o u)->H' b=some (.frz o u))(tbls:∀b ps,H b=some (.tbl ps)->∃more,H' b=some (.tbl (ps++more)))
  (ns:∀m,s.heap.Ns X.env.locals m->h'.Ns X.env.locals m)(hok:HOk X.prog X.w H' h')(hg:AllBare g'):
  Inv X pins σ H' {s with heap:=h',gens:=g',drawn:=d',toks:=t'}:=by
 have neL:∀b o,X.s₀.heap.get? b=some o->b≠X.env.locals:=λb o e=>Nat.ne_of_lt (Nat.lt_of_lt_of_le (Heap.lt_size e) I.ok.above)
 have neC:∀b o,X.s₀.heap.get? b=some o->b∉X.ex->b∉ch:=λb o e hx hb=>by
  rcases(hch b hb).1 with z |z
  ·exact hx z
  ·exact absurd (Nat.lt_of_lt_of_le (Heap.lt_size e) z) (Nat.lt_irrefl _)
 have cellK:∀x c,X.env.cells.lookup x=some c->∀v,s.heap.IsCell c v->h'.IsCell c v:=λx c e v ⟨o,ho,hd⟩=>by
  have nch:c∉ch:=λz=>(hch c z).2.2.1 x c e rfl
  by_cases hc:c∈X.fs
  ·obtain⟨sl,q⟩:=slot c o (I.cne x c e) hc nch ho (I.freeC x c e)
   exact⟨_,q,hd⟩
  ·exact⟨o,keep c o (I.cne x c e) hc nch ho (I.freeC x c e),hd⟩
 refine⟨I.ok,I.os,hg,⟨λb o e n hb hx=>?_,λb o e n hb hx=>?_,λb o e n hx=>?_,λb o e hx=>?_,λb xs e=>tups b xs (I.base.tups b xs e),λb o xs e=>frzs b o xs (I.base.frzs b o xs e),λb ps e=>?_⟩,?_,λx c e=>?_,?_,λx c e=>?_,λp hp=>?_,hok,I.len⟩
 ·exact keep b o (neL b o e) hb (neC b o e hx) (I.base.keep b o e n hb hx) (I.base.free b o e n hx)
 ·obtain⟨sl,e1⟩:=I.base.slot b o e n hb hx
  obtain⟨sl',e2⟩:=slot b _ (neL b o e) hb (neC b o e hx) e1 (I.base.free b o e n hx)
  exact⟨sl',e2⟩
 ·obtain⟨o',e1⟩:=I.base.there b o e hx
  exact free b o' (neC b o e hx) e1 (I.base.free b o e n hx)
 ·obtain⟨o',e1⟩:=I.base.there b o e hx
  exact there b o' (neC b o e hx) e1
 ·obtain⟨m1,e1⟩:=I.base.tbls b ps e
  obtain⟨m2,e2⟩:=tbls b _ e1
  exact⟨m1++m2,by rw[e2,Array.append_assoc]⟩
 ·obtain⟨m,hn,hl⟩:=I.loc
  refine⟨m,ns m hn,λi x v e1 e2 e3=>?_⟩
  obtain⟨u,r,l⟩:=hl i x v e1 e2 e3
  refine⟨u,r,?_⟩
  rcases l with l | ⟨k,c,e,z⟩
  ·exact .inl l
  ·exact .inr ⟨k,c,e,cellK x c e _ z⟩
 ·obtain⟨v,z⟩:=I.cell x c e
  exact⟨v,cellK x c e v z⟩
 ·obtain⟨m,⟨o,_,_,ho,_⟩,_⟩:=I.loc
  exact free _ o (λz=>(hch _ z).2.1 rfl) ho I.free
 ·obtain⟨v,o,ho,hd⟩:=I.cell x c e
  exact free c o (λz=>(hch c z).2.2.1 x c e rfl) ho (I.freeC x c e)
 ·obtain⟨e,n,ne,nf,d⟩:=I.pin p hp
  have nch:p.1∉ch:=λz=>(hch p.1 z).2.2.2 p hp rfl
  exact⟨keep p.1 p.2 ne nf nch e n,free p.1 p.2 nch e n,ne,nf,d⟩
theorem Inv.un {t':Nat}(I:Inv X pins σ H s)(u:Un X.fs [] H H' s.heap h')(hok:HOk X.prog X.w H' h'):Inv X pins σ H' {s with heap:=h',toks:=t'}:=by
 obtain⟨m,⟨o,es,ep,ho,r⟩,_⟩:=id I.loc
 obtain⟨sl,hL⟩:=u.any ho I.free (by simp)
 exact I.step (g':=s.gens) (d':=s.drawn) (ch:=[]) (λ_ z=>nomatch z) (λb o _ hb _ e n=>u.keep b o e n hb (by simp)) (λb o _ hb _ e n=>u.slot b o e n hb (by simp)) (λb o _ e n=>u.free b o e n (by simp)) (λb o _ e=>u.there b o e (by simp)) u.tups u.frzs u.tbls (λm' hm=>by
  obtain⟨o',es',ep',ho',r'⟩:=hm
  rw[ho] at ho';cases ho'
  exact⟨_,es',ep',hL,r'⟩) hok I.bare
theorem Inv.call {g':Array GenState}{t':Nat}{d':Drawn}{ch:List Addr}(I:Inv X pins σ H s)(u:Un (frs X.stack) ch H H' s.heap h')(hok:HOk X.prog X.w H' h')(hg:AllBare g')
  (hch:∀b∈ch,(b∈X.ex∨X.s₀.heap.objs.size<=b)/\b≠X.env.locals/\(∀x c,X.env.cells.lookup x=some c->c≠b)/\∀p∈X.pn++pins,p.1≠b):
  Inv X pins σ H' {s with heap:=h',gens:=g',drawn:=d',toks:=t'}:=by
 obtain⟨m,⟨o,es,ep,ho,r⟩,_⟩:=id I.loc
 obtain⟨sl,hL⟩:=u.any ho I.free λz=>(hch _ z).2.1 rfl
 exact I.step (ch:=ch) hch (λb o hL hb hc e n=>u.keep b o e n (λz=>(List.mem_cons.mp (I.stkSub b z)).elim hL hb) hc) (λb o _ _ hc e n=>u.any e n hc) (λb o hc e n=>u.free b o e n hc) (λb o hc e=>u.there b o e hc) u.tups u.frzs u.tbls (λm' hm=>by
  obtain⟨o',es',ep',ho',r'⟩:=hm
  rw[ho] at ho';cases ho'
  exact⟨_,es',ep',hL,r'⟩) hok hg
theorem Inv.turned {t':Nat}{it:Addr}(I:Inv X pins σ H s)(k:∀b o,b≠it->s.heap.get? b=some o->h'.get? b=some o)(hn:H it=none)(hL:it≠X.env.locals)
  (h1:it∈X.ex∨X.s₀.heap.objs.size<=it)(h2:∀x c,X.env.cells.lookup x=some c->c≠it)(h3:∀p∈X.pn++pins,p.1≠it):Inv X pins σ H {s with heap:=h',toks:=t'}:=by
 have nit:∀b u,H b=some u->b≠it:=λb u e z=>by rw[z,hn] at e;cases e
 refine I.step (g':=s.gens) (d':=s.drawn) (ch:=[it]) (λb hb=>?_) (λb o _ _ hc e _=>k b o (λz=>hc (by simp[z])) e) (λb o _ _ hc e _=>⟨o.slots,k b o (λz=>hc (by simp[z])) e⟩) (λ_ _ _ _ n=>n)
  (λb o hc e=>⟨o,k b o (λz=>hc (by simp[z])) e⟩) (λ_ _ e=>e) (λ_ _ _ e=>e) (λb ps e=>⟨#[],by rw[e];simp⟩) (λm hm=>?_) (λb u e=>?_) I.bare
 ·have e:b=it:=by simpa using hb
  subst e
  exact⟨h1,hL,h2,h3⟩
 ·obtain⟨o,es,ep,ho,r⟩:=hm
  exact⟨o,es,ep,k _ o (Ne.symm hL) ho,r⟩
 ·refine(I.hok b u e).stay (λc v hc q=>k c v ?_ q) (λ_ q=>q) λ_ _ q=>q
  rcases hc with z |z
  ·rw[z];exact nit b u e
  ·exact nit c _ z
theorem Inv.tok (I:Inv X pins σ H s)(t:Nat):Inv X pins σ H {s with toks:=t}:=I.un (h':=s.heap) (t':=t) Un.refl I.hok
theorem Inv.kept {t':Nat}(I:Inv X pins σ H s)(k:∀b u,s.heap.get? b=some u->h'.get? b=some u):Inv X pins σ H {s with heap:=h',toks:=t'}:=I.un (Un.kept k) (I.hok.kept k)
theorem Inv.laid {a:Addr}{o:HO}{t':Nat}(I:Inv X pins σ H s)(k:∀b u,s.heap.get? b=some u->h'.get? b=some u)(hp:s.heap.objs.size<=a)(new:Yp X.prog X.w (upd H a o) h' a o):
  Inv X pins σ (upd H a o) {s with heap:=h',toks:=t'}:=I.un (Un.laid k hp (I.hok.fresh hp)) (I.hok.laid k hp new)
theorem Inv.write {x e:Addr}{o:HO}{t':Nat}(I:Inv X pins σ H s)(mu:Mut (H x))(he:e=x∨H e=some (.own x))(k:∀b u,b≠e->s.heap.get? b=some u->h'.get? b=some u)(heo:∃u,h'.get? e=some u)
  (new:Yp X.prog X.w (upd H x o) h' x o):Inv X pins σ (upd H x o) {s with heap:=h',toks:=t'}:=I.un (Un.write mu he k heo) (I.hok.write mu he k heo new)
theorem Inv.weak {σ':List (Option V)}(I:Inv X pins σ H s)(hl:σ'.length=σ.length)(w:∀(i:Nat) v,σ'[i]?=some (some v)->σ[i]?=some (some v)):Inv X pins σ' H s:=
 ⟨I.ok,I.os,I.bare,I.base,let ⟨m,hn,hl'⟩:=I.loc;⟨m,hn,λi x v e1 e2 e3=>hl' i x v e1 (w i v e2) e3⟩,I.cell,I.free,I.freeC,I.pin,I.hok,hl.trans I.len⟩
theorem Inv.pins_of {pins':List (Addr×Obj)}(I:Inv X pins σ H s)(h:∀p∈pins',s.heap.get? p.1=some p.2/\H p.1=none/\p.1≠X.env.locals/\p.1∉X.fs/\∀v,p.2.data≠ .cell v):Inv X pins' σ H s:=
 ⟨I.ok,I.os,I.bare,I.base,I.loc,I.cell,I.free,I.freeC,λp hp=>(List.mem_append.mp hp).elim (λz=>I.pin p (List.mem_append_left _ z)) (h p),I.hok,I.len⟩
theorem DW {N:List Str}(hN:N.Nodup){i j:Nat}{x:Str}(a:N[i]?=some x)(b:N[j]?=some x):i=j:=by
 obtain⟨h1,e1⟩:=List.getElem?_eq_some_iff.mp a
 obtain⟨h2,e2⟩:=List.getElem?_eq_some_iff.mp b
 exact(List.getElem_inj hN).mp (e1.trans e2.symm)
theorem GJ {M:Model}{A:Around}{E:Value->Shared->Prop}{i:Nat}{x:Str}{v:V}{u:Value}{Q:Unit->Shared->Prop}(I:Inv X pins σ H s)(hN:X.N.Nodup)(hi:X.N[i]?=some x)(hx:Loc X.env.scope x)(r:XW v u)
  (h:∀s',Inv X pins (σ.set i (some v)) H s'->(∃a,Heap.SameBut a s.heap s'.heap/\(a=X.env.locals∨X.env.cells.lookup x=some a))->Q () s')(hf:X.fn x=true∨X.env.scope.names.lookup x=some .local:=by first |exact .inl rfl |exact .inr rfl |assumption):wpAny M A (storeName X.env x u) Q E s:=by
 obtain⟨m,hn,hl⟩:=id I.loc
 have hcls:(X.env.scope.kind== .class || (X.env.scope.kind== .module&&X.env.locals !=X.env.globals))=false:=by rw[I.ok.kind];rfl
 have hiσ:i<σ.length:=by rw[I.len];exact(List.getElem?_eq_some_iff.mp hi).1
 have cne:=I.cne
 have tracked:∀{a:Addr}{h':Heap},(∃o,s.heap.get? a=some o/\H a=none)->Heap.SameBut a s.heap h'->HOk X.prog X.w H h':=fun {a h'} ha hs b ob e=>by
  obtain⟨_,_,hfree⟩:=ha
  refine(I.hok b ob e).stay (λc w' hc q=>(hs.2 c ?_).trans q) (λ_ q=>q) λ_ _ q=>q
  rintro rfl
  rcases hc with rfl |hc
  ·rw[hfree] at e;cases e
  ·rw[hfree] at hc;cases hc
 rcases hx with hk |hk
 ·refine wpAny_storeName_local hk hn (λh' hn' hs=>?_) hcls
  obtain⟨oL,_,_,hoL,_⟩:=id hn
  refine h _ ⟨I.ok,I.os,I.bare,⟨λb o e n hb hx=>?_,λb o e n hb hx=>?_,I.base.free,λb o e hx=>?_,I.base.tups,I.base.frzs,I.base.tbls⟩,⟨_,hn',λj y v' e1 e2 e3=>?_⟩,λy c e=>?_,I.free,I.freeC,λp hp=>?_,tracked ⟨oL,hoL,I.free⟩ hs,by simpa using I.len⟩ ⟨_,hs, .inl rfl⟩
  ·exact(hs.2 b (Nat.ne_of_lt (Nat.lt_of_lt_of_le (Heap.lt_size e) I.ok.above))).trans (I.base.keep b o e n hb hx)
  ·obtain⟨sl,e1⟩:=I.base.slot b o e n hb hx
   exact⟨sl,(hs.2 b (Nat.ne_of_lt (Nat.lt_of_lt_of_le (Heap.lt_size e) I.ok.above))).trans e1⟩
  ·obtain⟨o',e1⟩:=I.base.there b o e hx
   exact⟨o',(hs.2 b (Nat.ne_of_lt (Nat.lt_of_lt_of_le (Heap.lt_size e) I.ok.above))).trans e1⟩
  ·by_cases hj:j=i
   ·subst hj
    rw[hi] at e1;cases e1
    rw[List.getElem?_set_self hiσ] at e2
    cases e2
    exact⟨u,r, .inl ⟨hk,by simp⟩⟩
   ·rw[List.getElem?_set_ne (Ne.symm hj)] at e2
    obtain⟨u',r',q⟩:=hl j y v' e1 e2 e3
    refine⟨u',r',?_⟩
    rcases q with⟨k,e⟩ | ⟨k,c,e,z⟩
    ·refine .inl ⟨k,?_⟩
     have:y≠x:=λe=>hj (DW hN e1 (e▸hi))
     simp[this,e]
    ·exact .inr ⟨k,c,e,z.sameBut hs (cne y c e)⟩
  ·obtain⟨w',z⟩:=I.cell y c e
   exact⟨w',z.sameBut hs (cne y c e)⟩
  ·obtain⟨e,n,ne,nf,d⟩:=I.pin p hp
   exact⟨(hs.2 p.1 ne).trans e,n,ne,nf,d⟩
 ·have hfn:X.fn x=true:=by
   rcases hf with z |z
   ·exact z
   ·rw[z] at hk;cases hk
  obtain⟨c,hc⟩:=I.ok.has x (.inl hk)
  obtain⟨w',z⟩:=I.cell x c hc
  refine wpAny_storeName_cell I.ok.kind hk hc z (λh' hc' hs=>?_)
  obtain⟨oc,hoc,hocd⟩:=id z
  refine h {s with heap:=h'} ⟨I.ok,I.os,I.bare,⟨λb o e n hb hx=>?_,λb o e n hb hx=>?_,I.base.free,λb o e hx=>?_,I.base.tups,I.base.frzs,I.base.tbls⟩,⟨m,hn.sameBut hs (Ne.symm (cne x c hc)),λj y v' e1 e2 e3=>?_⟩,λy c' e=>?_,I.free,I.freeC,λp hp=>?_,tracked ⟨oc,hoc,I.freeC x c hc⟩ hs,by simpa using I.len⟩ ⟨c,hs, .inr hc⟩
  ·exact(hs.2 b (Nat.ne_of_lt (Nat.lt_of_lt_of_le (Heap.lt_size e) (I.ok.cab x c hfn hc)))).trans (I.base.keep b o e n hb hx)
  ·obtain⟨sl,e1⟩:=I.base.slot b o e n hb hx
   exact⟨sl,(hs.2 b (Nat.ne_of_lt (Nat.lt_of_lt_of_le (Heap.lt_size e) (I.ok.cab x c hfn hc)))).trans e1⟩
  ·obtain⟨o',e1⟩:=I.base.there b o e hx
   exact⟨o',(hs.2 b (Nat.ne_of_lt (Nat.lt_of_lt_of_le (Heap.lt_size e) (I.ok.cab x c hfn hc)))).trans e1⟩
  ·by_cases hj:j=i
   ·subst hj
    rw[hi] at e1;cases e1
    rw[List.getElem?_set_self hiσ] at e2
    cases e2
    exact⟨u,r, .inr ⟨.inl hk,c,hc,hc'⟩⟩
   ·rw[List.getElem?_set_ne (Ne.symm hj)] at e2
    obtain⟨u',r',q⟩:=hl j y v' e1 e2 e3
    refine⟨u',r',?_⟩
    rcases q with q | ⟨k,c',e,z'⟩
    ·exact .inl q
    ·refine .inr ⟨k,c',e,z'.sameBut hs ?_⟩
     rintro rfl
     exact hj (DW hN e1 (I.ok.inj _ _ _ e hc▸hi))
  ·by_cases hcc:c'=c
   ·subst hcc;exact⟨_,hc'⟩
   ·obtain⟨w2,z2⟩:=I.cell y c' e
    exact⟨w2,z2.sameBut hs hcc⟩
  ·obtain⟨e,n,ne,nf,d⟩:=I.pin p hp
   refine⟨(hs.2 p.1 ?_).trans e,n,ne,nf,d⟩
   intro q
   rw[q,hoc] at e
   have q':oc=p.2:=Option.some.inj e
   exact d w' (by rw[←q'];exact hocd)
theorem Z2 {M:Model}{A:Around}{E:Value->Shared->Prop}{i:Nat}{x:Str}{v:V}{u:Value}{Q:Unit->Shared->Prop}(I:Inv X pins σ H s)(hN:X.N.Nodup)(hi:X.N[i]?=some x)(hx:Loc X.env.scope x)(r:XW v u)
  (h:∀s',Inv X pins (σ.set i (some v)) H s'->Q () s')(hf:X.fn x=true∨X.env.scope.names.lookup x=some .local:=by first |exact .inl rfl |exact .inr rfl |assumption):wpAny M A (storeName X.env x u) Q E s:=
 GJ I hN hi hx r (λs' I' _=>h s' I') hf
theorem Inv.call' {s':Shared}{ch:List Addr}(I:Inv X pins σ H s)(ho:s'.os=s.os)(u:Un (frs X.stack) ch H H' s.heap s'.heap)(hok:HOk X.prog X.w H' s'.heap)(hg:AllBare s'.gens)
  (hch:∀b∈ch,(b∈X.ex∨X.s₀.heap.objs.size<=b)/\b≠X.env.locals/\(∀x c,X.env.cells.lookup x=some c->c≠b)/\∀p∈X.pn++pins,p.1≠b):Inv X pins σ H' s':=by
 obtain⟨h',g',d',t',o'⟩:=s'
 have e:o'=s.os:=ho
 subst e
 exact I.call (g':=g') (t':=t') (d':=d') u hok hg hch
end
noncomputable abbrev XK:=Value->Option Addr->Hp->Prop
noncomputable abbrev St:=List (Option V)
noncomputable abbrev VK:=V->Hp->Prop
noncomputable abbrev TE:=St->Hp->VK->Prop
noncomputable abbrev TT:=St->Hp->(Bool->Hp->Prop)->Prop
noncomputable abbrev TA:=St->Hp->(List V->Hp->Prop)->Prop
structure Ends where
 nx:St->Hp->Prop
 rt:VK
 bk:St->Hp->Prop:=λ_ _=>False
 ct:St->Hp->Prop:=λ_ _=>False
noncomputable abbrev TS:=Ends->St->Hp->Prop
noncomputable def EP (X:Cx)(pins:List (Addr×Obj))(σ:St)(Q:VK)(u:Value)(s':Shared):Prop:=∃ v H',Inv X pins σ H' s'/\XW v u/\Q v H'
noncomputable def TP (X:Cx)(pins:List (Addr×Obj))(σ:St)(Q:Bool->Hp->Prop)(b:Bool)(s':Shared):Prop:=∃ H',Inv X pins σ H' s'/\Q b H'
noncomputable def AP (X:Cx)(pins:List (Addr×Obj))(σ:St)(Q:List V->Hp->Prop)(us:List Value)(s':Shared):Prop:=∃ vs H',Inv X pins σ H' s'/\XZ vs us/\Q vs H'
noncomputable def SP (X:Cx)(pins:List (Addr×Obj))(D:Ends)(f:Flow)(s':Shared):Prop:=
 match f with
 | .next=>∃ σ' H',Inv X pins σ' H' s'/\D.nx σ' H'
 | .brk=>∃ σ' H',Inv X pins σ' H' s'/\D.bk σ' H'
 | .cont=>∃ σ' H',Inv X pins σ' H' s'/\D.ct σ' H'
 | .ret u=>∃ v σ' H',Inv X pins σ' H' s'/\XW v u/\D.rt v H'
noncomputable def PE (X:Cx)(e:Expr)(t:TE):Prop:=
 ∀(pins:List (Addr×Obj)) (s:Shared) (σ:St) (H:Hp) (Q:VK),Inv X pins σ H s->t σ H Q->wpAny (model X.prog X.w) X.A (eval e X.env) (EP X pins σ Q) X.xe s
noncomputable def PT (X:Cx)(e:Expr)(t:TT):Prop:=
 ∀(pins:List (Addr×Obj)) (s:Shared) (σ:St) (H:Hp) (Q:Bool->Hp->Prop),Inv X pins σ H s->t σ H Q->wpAny (model X.prog X.w) X.A (isTrue e X.env (eval e X.env)) (TP X pins σ Q) X.xe s
noncomputable def PW (X:Cx)(e:Expr)(t:TT):Prop:=
 ∀(whole:Sem Value) (pins:List (Addr×Obj)) (s:Shared) (σ:St) (H:Hp) (Q:Bool->Hp->Prop),Inv X pins σ H s->t σ H Q->wpAny (model X.prog X.w) X.A (isTrue e X.env whole) (TP X pins σ Q) X.xe s
theorem PW.pt {X:Cx}{e:Expr}{t:TT}(h:PW X e t):PT X e t:=h _
noncomputable def PA (X:Cx)(es:List Expr)(t:TA):Prop:=
 ∀(pos:Pos) (pins:List (Addr×Obj)) (s:Shared) (σ:St) (H:Hp) (Q:List V->Hp->Prop),Inv X pins σ H s->t σ H Q->wpAny (model X.prog X.w) X.A (spliced (backTo pos (starEach es X.env))) (AP X pins σ Q) X.xe s
noncomputable def PS (X:Cx)(st:Stmt)(t:TS):Prop:=
 ∀(pins:List (Addr×Obj)) (s:Shared) (σ:St) (H:Hp) (D:Ends),Inv X pins σ H s->t D σ H->wpAny (model X.prog X.w) X.A (exec st X.env) (SP X pins D) X.xe s
noncomputable def PSs (X:Cx)(st:List Stmt)(t:TS):Prop:=
 ∀(pins:List (Addr×Obj)) (s:Shared) (σ:St) (H:Hp) (D:Ends),Inv X pins σ H s->t D σ H->wpAny (model X.prog X.w) X.A (execs st X.env) (SP X pins D) X.xe s
theorem thn {α:Type}{t:Sem α}{Q Q':α->Shared->Prop}{M:Model}{A:Around}{E:Value->Shared->Prop}{s:Shared}(h:wpAny M A t Q E s)(hQ:∀a s,Q a s->Q' a s):wpAny M A t Q' E s:=wpAny_mono h hQ λ_ _ x=>x
section
variable {X:Cx}
noncomputable def Qb (i:Nat):TE:=λσ H Q=>∃ v,σ[i]?=some (some v)/\Q v H
noncomputable def tC (v:V):TE:=λ_ H Q=>Q v H
theorem OU {i:Nat}{x:Str}{pos:Pos}(hN:X.N[i]?=some x)(hv:Vis X.env.scope x)(hd:(x==("__debug__":Str))=false:=by decide)(hcd:(x==("__classdict__":Str))=false:=by decide):PE X (.Name x pos) (Qb i):=by
 intro pins s σ H Q I h
 obtain⟨v,e,h⟩:=h
 obtain⟨m,hn,hl⟩:=I.loc
 obtain⟨u,r,l⟩:=hl i x v hN e hv
 have fin:EP X pins σ Q u s:=⟨v,H,I,r,h⟩
 rcases l with⟨hk,hm⟩ | ⟨hk,c,hc,hcell⟩
 ·exact wpAny_Name (wpAny_loadName_local I.ok.kind hk hn hm fin) hd
 ·rcases hk with hk |hk
  ·exact wpAny_Name (wpAny_loadName_cell I.ok.kind hk hc hcell fin) hd
  ·exact wpAny_Name (wpAny_loadName_free I.ok.kind hk hc hcell fin hcd) hd
theorem Xc {i j pos}:PE X (.Constant (.int i) j pos) (tC (.int i)):=λ_ _ _ H _ I h=>wpAny_Constant_int ⟨.int i,H,I.tok _,⟨_,rfl⟩,h⟩
theorem Zf {b j pos}:PE X (.Constant (.bool b) j pos) (tC (.bl b)):=λ_ _ _ H _ I h=>Constant_bool ⟨.bl b,H,I,rfl,h⟩
theorem UA {j pos}:PE X (.Constant .none j pos) (tC .non):=λ_ _ _ H _ I h=>Constant_none ⟨.non,H,I,rfl,h⟩
theorem XJ {x j pos}:PE X (.Constant (.str x) j pos) (tC (.str x)):=λ_ _ _ H _ I h=>Calls.Constant_str ⟨.str x,H,I.tok _,⟨_,rfl⟩,h⟩
noncomputable def Gl (X:Cx)(x:Str):Prop:=X.env.kindOf x=some .globalImplicit
theorem Hx {E:Value->Shared->Prop}{pins:List (Addr×Obj)}{s:Shared}{σ:St}{H:Hp}{x:Str}{u:Value}{pos:Pos}{Q:Value->Shared->Prop}(I:Inv X pins σ H s)(hg:Gl X x)(hm:X.mg x=some u)(h:Q u s)
  (hd:(x==("__debug__":Str))=false:=by decide):wpAny (model X.prog X.w) X.A (eval (.Name x pos) X.env) Q E s:=
 Calls.Name_function_global I.ok.kind hg (Calls.loadGlobal_global (by rw[I.ok.glob];exact I.mod.glob.keeps I.bk) hm h) hd
theorem Uk {E:Value->Shared->Prop}{pins:List (Addr×Obj)}{s:Shared}{σ:St}{H:Hp}{x:Str}{u:Value}{pos:Pos}{Q:Value->Shared->Prop}(I:Inv X pins σ H s)(hg:Gl X x)(hm:X.mg x=none)(hv:bootBuiltins x=some u)(h:Q u s)
  (hn:x≠ "__name__":=by decide)(hd:(x==("__debug__":Str))=false:=by decide):wpAny (model X.prog X.w) X.A (eval (.Name x pos) X.env) Q E s:=by
 obtain⟨mb,h1,h2⟩:=I.mod.blt
 exact Calls.Name_function_global I.ok.kind hg (Calls.loadGlobal_builtin (by rw[I.ok.glob];exact I.mod.glob.keeps I.bk) hm (by rw[I.ok.blt];exact h1.keeps I.bk) ((h2 x hn).trans hv) h) hd
theorem NW {x:Str}{v:V}{u:Value}{pos:Pos}(hg:Gl X x)(hm:X.mg x=some u)(r:XW v u)(hd:(x==("__debug__":Str))=false:=by decide):PE X (.Name x pos) (tC v):=
 λ_ _ _ H _ I h=>Hx I hg hm ⟨v,H,I,r,h⟩ hd
theorem Q2 {x:Str}{v:V}{u:Value}{pos:Pos}(hg:Gl X x)(hm:X.mg x=none)(hv:bootBuiltins x=some u)(r:XW v u)(hn:x≠ "__name__":=by decide)(hd:(x==("__debug__":Str))=false:=by decide):PE X (.Name x pos) (tC v):=
 λ_ _ _ H _ I h=>Uk I hg hm hv ⟨v,H,I,r,h⟩ hn hd
variable {a b:Expr}{ta tb:TE}{pos:Pos}
noncomputable def PC (X:Cx)(op:CmpOp)(a b:Expr)(t:TE):Prop:=
 ∀(pins:List (Addr×Obj)) (s:Shared) (σ:St) (H:Hp) (Q:VK),Inv X pins σ H s->t σ H Q->
  wpAny (model X.prog X.w) X.A (eval a X.env) (λv s₁=>wpAny (model X.prog X.w) X.A (eval b X.env) (λu s₂=>wpAny (model X.prog X.w) X.A (compareOp op v u) (EP X pins σ Q) X.xe s₂) X.xe s₁) X.xe s
theorem Cd (b:Expr){op:CmpOp}(h:op≠ .In)(h2:op≠ .NotIn):behindInMarks op b=false:=by
 have e1:(op==CmpOp.In)=false:=by cases op<;> first |rfl |exact absurd rfl h
 have e2:(op==CmpOp.NotIn)=false:=by cases op<;> first |rfl |exact absurd rfl h2
 cases b<;> simp[behindInMarks,e1,e2]
noncomputable def tB (t:TE):TT:=λσ H Q=>t σ H λx H1=>∃ c,x= .bl c/\Q c H1
theorem LO {op:CmpOp}{t:TE}(h:PC X op a b t)(h1:behindInMarks op b=false:=by first |exact Cd _ (by decide) (by decide) |rfl):PE X (.Compare a [op] [b] pos) t:=λpins s σ H Q I hw=>wpAny_Compare1 (h pins s σ H Q I hw) h1
theorem O5 {op:CmpOp}{t:TE}(h:PC X op a b t)(h1:behindInMarks op b=false:=by first |exact Cd _ (by decide) (by decide) |rfl):PT X (.Compare a [op] [b] pos) (tB t):=by
 intro pins s σ H Q I hw
 refine wpAny_isTrue_Compare1 (thn (h pins s σ H _ I hw) λv s1 h1=>thn h1 λu s2 h2=>thn h2 λc s3 r9=>?_) h1
 obtain⟨x,H1,I1,r1,q1⟩:=r9
 obtain⟨d,rfl,q⟩:=q1
 cases r1
 exact wpAny_truthy_bool ⟨H1,I1,q⟩
theorem Yv {e:Expr}{t:TE}(h:PE X e t)(he:∀whole,isTrue e X.env whole=(do let v ←whole;standAt e.pos;holding [v] (truthy v)):=by intro _;rfl):PT X e (tB t):=by
 intro pins s σ H Q I hw
 refine isTrue_plain (thn (h pins s σ H _ I hw) λv s1 r9=>?_) (he _)
 obtain⟨x,H1,I1,r1,q1⟩:=r9
 obtain⟨d,rfl,q⟩:=q1
 cases r1
 exact wpAny_truthy_bool ⟨H1,I1,q⟩
variable {tA tB':TT}{Z9:List Expr}
noncomputable def Rc (t u:TT):TT:=λσ H Q=>t σ H λc H1=>if c=true then u σ H1 Q else Q false H1
noncomputable def tOr (t u:TT):TT:=λσ H Q=>t σ H λc H1=>if c=true then Q true H1 else u σ H1 Q
noncomputable def Rw (t:TT):TT:=λσ H Q=>t σ H λc H1=>Q (!c) H1
theorem F4 (ha:PT X a tA):PW X (.BoolOp .And [a] pos) tA:=by
 intro wh pins s σ H Q I h
 refine isTrue_and (thn (ha pins s σ H Q I h) λc s1 e=>?_)
 cases c with
 |true=>exact isTrue_and_nil e
 |false=>exact e
theorem Zp (ha:PT X a tA):PW X (.BoolOp .Or [a] pos) tA:=by
 intro wh pins s σ H Q I h
 refine isTrue_or (thn (ha pins s σ H Q I h) λc s1 e=>?_)
 cases c with
 |false=>exact isTrue_or_nil e
 |true=>exact e
theorem BZ (ha:PT X a tA)(hb:PW X (.BoolOp .And (b::Z9) pos) tB'):PW X (.BoolOp .And (a::b::Z9) pos) (Rc tA tB'):=by
 intro wh pins s σ H Q I h
 refine isTrue_and (thn (ha pins s σ H _ I h) λc s1 r9=>?_)
 obtain⟨H1,I1,q1⟩:=r9
 cases c with
 |true=>exact hb wh pins s1 σ H1 Q I1 q1
 |false=>exact⟨H1,I1,q1⟩
theorem Qa (ha:PT X a tA)(hb:PW X (.BoolOp .Or (b::Z9) pos) tB'):PW X (.BoolOp .Or (a::b::Z9) pos) (tOr tA tB'):=by
 intro wh pins s σ H Q I h
 refine isTrue_or (thn (ha pins s σ H _ I h) λc s1 r9=>?_)
 obtain⟨H1,I1,q1⟩:=r9
 cases c with
 |true=>exact⟨H1,I1,q1⟩
 |false=>exact hb wh pins s1 σ H1 Q I1 q1
theorem YQ (ha:PT X a tA):PT X (.UnaryOp .Not a pos) (Rw tA):=by
 intro pins s σ H Q I h
 exact isTrue_not (ha pins s σ H (λc H1=>Q (!c) H1) I h)
noncomputable def NX (ta tb:TE):TE:=λσ H Q=>ta σ H λx H1=>∃ c,x= .bl c/\if c=true then tb σ H1 Q else Q (.bl false) H1
noncomputable def Sb (ta tb:TE):TE:=λσ H Q=>ta σ H λx H1=>∃ c,x= .bl c/\if c=true then Q (.bl true) H1 else tb σ H1 Q
noncomputable def Mt (ta:TE):TE:=λσ H Q=>ta σ H λx H1=>∃ c,x= .bl c/\Q (.bl (!c)) H1
theorem Qn {op}{t:TE}(h:PE X a t):PE X (.BoolOp op [a] pos) t:=λpins s σ H Q I hw=>BoolOp_one (h pins s σ H Q I hw)
theorem Z6 (ha:PE X a ta)(hb:PE X (.BoolOp .And (b::Z9) pos) tb):PE X (.BoolOp .And (a::b::Z9) pos) (NX ta tb):=by
 intro pins s σ H Q I h
 refine BoolOp_and (thn (ha pins s σ H _ I h) λv s1 r9=>?_)
 obtain⟨x,H1,I1,r1,q1⟩:=r9
 obtain⟨c,rfl,q1⟩:=q1
 cases r1
 refine wpAny_truthy_bool ?_
 cases c with
 |true=>exact hb pins s1 σ H1 Q I1 q1
 |false=>exact⟨.bl false,H1,I1,rfl,q1⟩
theorem Pk (ha:PE X a ta):PE X (.UnaryOp .Not a pos) (Mt ta):=by
 intro pins s σ H Q I h
 refine UnaryOp_ (thn (ha pins s σ H _ I h) λv s1 r9=>?_)
 obtain⟨x,H1,I1,r1,q1⟩:=r9
 obtain⟨c,rfl,q1⟩:=q1
 cases r1
 exact not_of (wpAny_truthy_bool ⟨.bl (!c),H1,I1,rfl,q1⟩)
noncomputable def tIf (t:TT)(ta tb:TE):TE:=λσ H Q=>t σ H λc H1=>if c=true then ta σ H1 Q else tb σ H1 Q
theorem QH {c:Expr}(hc:PT X c tA)(ha:PE X a ta)(hb:PE X b tb):PE X (.IfExp c a b pos) (tIf tA ta tb):=by
 intro pins s σ H Q I h
 refine wpAny_IfExp (thn (hc pins s σ H _ I h) λd s1 r9=>?_)
 obtain⟨H1,I1,q1⟩:=r9
 cases d with
 |true=>exact ha pins s1 σ H1 Q I1 q1
 |false=>exact hb pins s1 σ H1 Q I1 q1
end
noncomputable def SqL (K:PySem.W.Frag)(H:Hp)(a:Addr)(xs:List V):Prop:=
 Rd H a (.lst xs)∨
  ∃(o:Obj) (its:Array Value) (n:Nat),K.lookup a=some o/\o.cls= .type "list" /\o.dict=none/\o.data= .seq its n/\its.size<=sizeLine/\XZ xs its.toList
noncomputable def SqT (K:PySem.W.Frag)(H:Hp)(a:Addr)(xs:List V):Prop:=
 Rd H a (.tup xs)∨
  ∃(o:Obj) (its:Array Value) (n:Nat),K.lookup a=some o/\o.cls= .type "tuple" /\o.data= .seq its n/\its.size<=sizeLine/\XZ xs its.toList
noncomputable def Sk:Value->Option V
 | .none=>some .non
 | .bool b=>some (.bl b)
 | .int i _=>some (.int i)
 | .str x _=>some (.str x)
 | .bytes b _=>some (.byt b)
 | .float b _=>some (.flt b)
 | .ref a=>some (.ref a)
 | .type n=>some (.ty n)
 |_=>none
theorem XW.abs {x:V}{u:Value}(r:XW x u):Sk u=some x:=by
 cases x with
 |non=>cases r;rfl
 |bl _=>cases r;rfl
 |int _=>obtain⟨t,rfl⟩:=r;rfl
 |str _=>obtain⟨t,rfl⟩:=r;rfl
 |byt _=>obtain⟨t,rfl⟩:=r;rfl
 |flt _=>obtain⟨t,rfl⟩:=r;rfl
 |ref _=>cases r;rfl
 |ty _=>cases r;rfl
theorem XW.inj {x y:V}{u:Value}(r:XW x u)(q:XW y u):x=y:=Option.some.inj (r.abs.symm.trans q.abs)
theorem XZ.inj:∀{xs ys:List V}{us:List Value},XZ xs us->XZ ys us->xs=ys:=fun {xs ys us} p=>by
 induction p generalizing ys with
 |nil=>intro q;cases q;rfl
 |cons r _ ih=>intro q;cases q with |cons r' t'=>rw[r.inj r',ih t']
section
variable {X:Cx}{pins:List (Addr×Obj)}{σ:St}{H:Hp}{s:Shared}{a:Addr}{xs ys:List V}
theorem SqL.of {K:PySem.W.Frag}(h:H a=some (.lst xs)):SqL K H a xs:=.inl (.inl h)
theorem SqT.of {K:PySem.W.Frag}(h:H a=some (.tup xs)):SqT K H a xs:=.inl (.inl h)
theorem Inv.list (I:Inv X pins σ H s)(h:SqL X.K H a xs):∃its:List Value,XZ xs its/\PlainL s.heap a its.toArray/\xs.length<=sizeLine:=by
 rcases h with h | ⟨o,its,n,hk,hc,hd,hs,hz,r⟩
 ·obtain⟨z,its,n,r,e⟩:=h.ok I.hok
  exact⟨its,r,⟨_,n,e,rfl,rfl,rfl⟩,z⟩
 ·refine⟨its.toList,r,⟨o,n,I.kIn a o hk,hc,hd,by simpa using hs⟩,?_⟩
  have e:=r.length
  simp only[Array.length_toList] at e
  omega
theorem Inv.tuple (I:Inv X pins σ H s)(h:SqT X.K H a xs):∃its:List Value,XZ xs its/\IsTup s.heap a its.toArray/\xs.length<=sizeLine:=by
 rcases h with h | ⟨o,its,n,hk,hc,hs,hz,r⟩
 ·obtain⟨z,its,r,p⟩:=h.ok I.hok
  exact⟨its,r,p.t,z⟩
 ·refine⟨its.toList,r,⟨o,I.kIn a o hk,hc,n,by simpa using hs⟩,?_⟩
  have e:=r.length
  simp only[Array.length_toList] at e
  omega
theorem Inv.list_inj (I:Inv X pins σ H s)(h:SqL X.K H a xs)(h':SqL X.K H a ys):xs=ys:=by
 obtain⟨its,r,⟨o,n,e,_,_,d⟩,_⟩:=I.list h
 obtain⟨its',r',⟨o',n',e',_,_,d'⟩,_⟩:=I.list h'
 rw[e] at e';cases e'
 rw[d] at d'
 injection d' with d1 _
 have:its=its':=by simpa using congrArg Array.toList d1
 subst this
 exact r.inj r'
theorem Inv.tuple_inj (I:Inv X pins σ H s)(h:SqT X.K H a xs)(h':SqT X.K H a ys):xs=ys:=by
 obtain⟨its,r,⟨o,e,_,n,d⟩,_⟩:=I.tuple h
 obtain⟨its',r',⟨o',e',_,n',d'⟩,_⟩:=I.tuple h'
 rw[e] at e';cases e'
 rw[d] at d'
 injection d' with d1 _
 have:its=its':=by simpa using congrArg Array.toList d1
 subst this
 exact r.inj r'
end
noncomputable abbrev Cx.wish (X:Cx)(E:Value->Shared->Prop):Cx:={X with xe:=E}
noncomputable abbrev Cx.nox (X:Cx):Cx:=X.wish λ_ _=>False
theorem Cx.Ok.wish {X:Cx}(ok:X.Ok)(E:Value->Shared->Prop):(X.wish E).Ok:=
 ⟨ok.mod,ok.kind,ok.glob,ok.blt,ok.above,ok.inj,ok.has,ok.cab,ok.hd,ok.frames,ok.stk,ok.exf,ok.bs,ok.bsz,ok.noex,ok.exfs,ok.funs,ok.frf⟩
theorem Cx.Ok.unwish {X:Cx}{E:Value->Shared->Prop}(ok:(X.wish E).Ok):X.Ok:=
 ⟨ok.mod,ok.kind,ok.glob,ok.blt,ok.above,ok.inj,ok.has,ok.cab,ok.hd,ok.frames,ok.stk,ok.exf,ok.bs,ok.bsz,ok.noex,ok.exfs,ok.funs,ok.frf⟩
section
variable {X:Cx}{pins:List (Addr×Obj)}{σ:St}{H:Hp}{s:Shared}{E:Value->Shared->Prop}
theorem Inv.wish (I:Inv X pins σ H s)(E:Value->Shared->Prop):Inv (X.wish E) pins σ H s:=⟨I.ok.wish E,I.os,I.bare,I.base,I.loc,I.cell,I.free,I.freeC,I.pin,I.hok,I.len⟩
theorem Inv.unwish (I:Inv (X.wish E) pins σ H s):Inv X pins σ H s:=⟨I.ok.unwish,I.os,I.bare,I.base,I.loc,I.cell,I.free,I.freeC,I.pin,I.hok,I.len⟩
theorem SP.unwish {D:Ends}{f:Flow}{s':Shared}(h:SP (X.wish E) pins D f s'):SP X pins D f s':=by
 cases f with
 |next=>obtain⟨σ',H',I,q⟩:=h;exact⟨σ',H',I.unwish,q⟩
 |brk=>obtain⟨σ',H',I,q⟩:=h;exact⟨σ',H',I.unwish,q⟩
 |cont=>obtain⟨σ',H',I,q⟩:=h;exact⟨σ',H',I.unwish,q⟩
 |ret u=>obtain⟨v,σ',H',I,r,q⟩:=h;exact⟨v,σ',H',I.unwish,r,q⟩
theorem PE.nox {e:Expr}{t:TE}(h:PE X.nox e t):PE X e t:=λpins s σ H Q I hw=>
 wpAny_mono (h pins s σ H Q (I.wish _) hw) (λ_ _ r9=>by obtain⟨v,H',I',r,q⟩:=r9;exact⟨v,H',I'.unwish,r,q⟩) λ_ _ z=>False.elim z
theorem PT.nox {e:Expr}{t:TT}(h:PT X.nox e t):PT X e t:=λpins s σ H Q I hw=>
 wpAny_mono (h pins s σ H Q (I.wish _) hw) (λ_ _ r9=>by obtain⟨H',I',q⟩:=r9;exact⟨H',I'.unwish,q⟩) λ_ _ z=>False.elim z
theorem PSs.nox {st:List Stmt}{t:TS}(h:PSs X.nox st t):PSs X st t:=λpins s σ H D I hw=>
 wpAny_mono (h pins s σ H D (I.wish _) hw) (λ_ _ q=>q.unwish) λ_ _ z=>False.elim z
end
section
variable {X:Cx}{st:Stmt}{Z9:List Stmt}{t u:TS}{e:Expr}{te:TE}{pos:Pos}
noncomputable def UP:TS:=λD σ H=>D.nx σ H
noncomputable def YX (t u:TS):TS:=λD σ H=>t {D with nx:=u D} σ H
theorem Xf:PSs X [] UP:=λ_ _ σ H _ I h=>wpAny_execs_nil ⟨σ,H,I,h⟩
theorem Xb (h1:PS X st t)(h2:PSs X Z9 u):PSs X (st::Z9) (YX t u):=by
 intro pins s σ H D I h
 refine wpAny_execs_cons (thn (h1 pins s σ H {D with nx:=u D} I h) λf s1 q=>?_)
 cases f with
 |next=>
  obtain⟨σ',H',I',q⟩:=q
  exact h2 pins s1 σ' H' D I' q
 |ret v=>exact q
 |brk=>exact q
 |cont=>exact q
theorem Inv.quiet {pins:List (Addr×Obj)}{σ:St}{H:Hp}{s:Shared}(I:Inv X pins σ H s):interactive X.env=false:=by simp[interactive,I.ok.kind]
noncomputable def Jv (te:TE):TS:=λD σ H=>te σ H λ_ H1=>D.nx σ H1
theorem XV (he:PE X e te)(hs:swapsWith e none pos.line X.env=pure false:=by rfl):PS X (.Expr e pos) (Jv te):=by
 intro pins s σ H D I h
 exact wpAny_Expr_any (thn (he pins s σ H _ I h) λv s1 r9=>by obtain⟨x,H1,I1,r1,q1⟩:=r9;exact⟨σ,H1,I1,q1⟩) I.quiet hs
noncomputable def PJ (te:TE):TS:=λD σ H=>te σ H D.rt
theorem Xr (he:PE X e te):PS X (.Return (some e) pos) (PJ te):=by
 intro pins s σ H D I h
 exact wpAny_Return_some (thn (he pins s σ H _ I h) λv s1 r9=>by obtain⟨x,H1,I1,r1,q1⟩:=r9;exact⟨x,σ,H1,I1,r1,q1⟩)
noncomputable def NM (c:TT)(t u:TS):TS:=λD σ H=>c σ H λb H1=>if b=true then t D σ H1 else u D σ H1
theorem XM {c:Expr}{a b:List Stmt}{tc:TT}(hc:PT X c tc)(ha:PSs X a t)(hb:PSs X b u):PS X (.If c a b pos) (NM tc t u):=by
 intro pins s σ H D I h
 refine wpAny_If (thn (hc pins s σ H _ I h) λd s1 r9=>?_)
 obtain⟨H1,I1,q1⟩:=r9
 cases d with
 |true=>exact ha pins s1 σ H1 D I1 q1
 |false=>exact hb pins s1 σ H1 D I1 q1
noncomputable def Ob:TS:=λ_ _ _=>False
theorem DL:PS X st Ob:=λ_ _ _ _ _ _ h=>h.elim
end
noncomputable abbrev TG:=V->St->Hp->(St->Hp->Prop)->Prop
noncomputable abbrev TGs:=List V->St->Hp->(St->Hp->Prop)->Prop
noncomputable def PG (X:Cx)(target:Expr)(t:TG):Prop:=
 ∀(pins:List (Addr×Obj)) (s:Shared) (σ:St) (H:Hp) (v:V) (u:Value) (Q:St->Hp->Prop),Inv X pins σ H s->XW v u->t v σ H Q->
  wpAny (model X.prog X.w) X.A (assign target X.env u) (λ_ s'=>∃ σ' H',Inv X pins σ' H' s'/\Q σ' H') X.xe s
noncomputable def PGs (X:Cx)(ts:List Expr)(t:TGs):Prop:=
 ∀(pins:List (Addr×Obj)) (s:Shared) (σ:St) (H:Hp) (vs:List V) (us:List Value) (Q:St->Hp->Prop),Inv X pins σ H s->XZ vs us->t vs σ H Q->
  wpAny (model X.prog X.w) X.A (assignInOrder ((assignEach ts X.env).map (·.2)) us) (λ_ s'=>∃ σ' H',Inv X pins σ' H' s'/\Q σ' H') X.xe s
noncomputable abbrev RW:=V->V->V->Hp->(Hp->Prop)->Prop
noncomputable def Sd (X:Cx)(t:RW):Prop:=
 ∀(pins:List (Addr×Obj)) (s:Shared) (σ:St) (H:Hp) (o i v:V) (ov iv u:Value) (Q:Hp->Prop),Inv X pins σ H s->XW o ov->XW i iv->XW v u->t o i v H Q->
  wpAny (model X.prog X.w) X.A (setItem ov iv u) (λ_ s'=>∃ H',Inv X pins σ H' s'/\Q H') X.xe s
section
variable {X:Cx}{pos:Pos}
noncomputable def Yz (i:Nat):TG:=λv σ H Q=>Q (σ.set i (some v)) H
theorem Xw {i:Nat}{x:Str}(hN:X.N.Nodup)(hi:X.N[i]?=some x)(hx:Loc X.env.scope x)(hf:X.fn x=true∨X.env.scope.names.lookup x=some .local:=by first |exact .inl rfl |exact .inr rfl |assumption):PG X (.Name x pos) (Yz i):=by
 intro pins s σ H v u Q I r h
 exact wpAny_assign_Name (Z2 I hN hi hx r (λs' I'=>⟨_,H,I',h⟩) hf)
noncomputable def NL:TGs:=λvs σ H Q=>vs=[]/\Q σ H
noncomputable def ZS (t:TG)(u:TGs):TGs:=λvs σ H Q=>∃ v r,vs=v::r/\t v σ H λσ' H'=>u r σ' H' Q
theorem Qu:PGs X [] NL:=by
 intro pins s σ H vs us Q I r h
 obtain⟨e,h⟩:=h
 subst e
 cases r
 exact assignInOrder_nil ⟨σ,H,I,h⟩
theorem Yf {e:Expr}{es:List Expr}{t:TG}{u:TGs}(h1:PG X e t)(h2:PGs X es u)
  (hs:(assignEach (e::es) X.env).map (·.2)=assign e X.env::(assignEach es X.env).map (·.2):=by rfl):PGs X (e::es) (ZS t u):=by
 intro pins s σ H vs us Q I r h
 obtain⟨v,vr,e1,h⟩:=h
 subst e1
 cases r with
 |cons r rr=>
  rw[hs]
  refine assignInOrder_cons (thn (h1 pins s σ H _ _ _ I r h) λ_ s1 r9=>?_)
  obtain⟨σ1,H1,I1,q1⟩:=r9
  exact h2 pins s1 σ1 H1 _ _ Q I1 rr q1
noncomputable def Li (K:PySem.W.Frag)(n:Nat)(t:TGs):TG:=λv σ H Q=>∃ a xs,v= .ref a/\SqT K H a xs/\xs.length=n/\t xs σ H Q
theorem Ve {es:List Expr}{k:Nat}{t:TGs}{n:Nat}(hc:X.calm=true)(h:PGs X es t)
  (hn:(assignEach es X.env).length=n:=by rfl)(hst:(assignEach es X.env).findIdx? (·.1)=none:=by rfl):PG X (.Tuple es k pos) (Li X.K n t):=by
 intro pins s σ H v u Q I r hw
 obtain⟨a,xs,e1,hq,hl,hw⟩:=hw
 subst e1
 cases r
 obtain⟨its,rv,ht,hz⟩:=I.tuple hq
 refine assign_Tuple_tuple (I.ok.hd hc) ht (by simp[hn, ←hl,rv.length]) hst λh' hx=>?_
 have I1:Inv X pins σ H {s with heap:=h'}:=I.kept (t':=s.toks) λb o e=>hx b o (Nat.ne_of_lt (Heap.lt_size e)) e
 exact h pins _ σ H xs _ Q I1 (by simpa using rv) hw
noncomputable def PL (to ti:TE)(t:RW):TG:=λv σ H Q=>to σ H λo H1=>ti σ H1 λi H2=>t o i v H2 λH3=>Q σ H3
theorem Z8 {o i:Expr}{to ti:TE}{t:RW}(ho:PE X o to)(hi:PE X i ti)(hs:Sd X t)
  (ha:∀v,assign (.Subscript o i pos) X.env v=(do
   let ov ←holding [v] (eval o X.env)
   let iv ←holding [v,ov] (eval i X.env)
   standAt pos
   holding [v,ov,iv] (setItem ov iv v)
   release [v,ov,iv] []):=by intro _;rfl):PG X (.Subscript o i pos) (PL to ti t):=by
 intro pins s σ H v u Q I r h
 rw[ha]
 refine wpAny_bind (wpAny_holding (thn (ho pins s σ H _ I h) λov s1 r9=>?_))
 obtain⟨x,H1,I1,r1,q1⟩:=r9
 refine wpAny_bind (wpAny_holding (thn (hi pins s1 σ H1 _ I1 q1) λiv s2 r9=>?_))
 obtain⟨y,H2,I2,r2,q2⟩:=r9
 refine wpAny_bind (wpAny_standAt (wpAny_bind (wpAny_holding (thn (hs pins s2 σ H2 x y v ov iv u _ I2 r1 r2 r q2) λ_ s3 r9=>?_))))
 obtain⟨H3,I3,q3⟩:=r9
 exact wpAny_release ⟨σ,H3,I3,q3⟩
noncomputable def Dq (te:TE)(g:TG):TS:=λD σ H=>te σ H λx H1=>g x σ H1 D.nx
theorem Y4 {tg e:Expr}{te:TE}{g:TG}(he:PE X e te)(hg:PG X tg g)(hs:swapsWithSole [tg] e pos.line X.env=pure false:=by rfl)(hw:swappedStores [tg] e X.env=pure none:=by rfl)
  (h1:(assignEach [tg] X.env).map (·.2)=[assign tg X.env]:=by rfl):PS X (.Assign [tg] e pos) (Dq te g):=by
 intro pins s σ H D I h
 refine wpAny_Assign_stores (thn (he pins s σ H _ I h) λv s1 r9=>?_) hs hw
 obtain⟨x,H1,I1,r1,q1⟩:=r9
 rw[h1]
 exact thn (hg pins s1 σ H1 x v _ I1 r1 q1) λ_ s2 q=>q
theorem Xo {i:Nat}{x:Str}{e:Expr}{te:TE}{pos':Pos}(hN:X.N.Nodup)(hi:X.N[i]?=some x)(hx:Loc X.env.scope x)(he:PE X e te)(hs:swapsWith e (some (.Name x pos')) pos.line X.env=pure false:=by rfl)(hf:X.fn x=true∨X.env.scope.names.lookup x=some .local:=by first |exact .inl rfl |exact .inr rfl |assumption):
  PS X (.Assign [.Name x pos'] e pos) (Dq te (Yz i)):=by
 intro pins s σ H D I h
 refine wpAny_Assign_Name (thn (he pins s σ H _ I h) λv s1 r9=>?_) hs
 obtain⟨y,H1,I1,r1,q1⟩:=r9
 exact Z2 I1 hN hi hx r1 (λs2 I2=>⟨_,H1,I2,q1⟩) hf
noncomputable def Se (i j:Nat)(ta:TA):TS:=λD σ H=>ta σ H λvs H1=>∃ v w,vs=[v,w]/\D.nx ((σ.set i (some v)).set j (some w)) H1
theorem Ls {i j:Nat}{x y:Str}{a b:Expr}{ta:TA}{px py pt:Pos}{kt k2 pt2}(hc:X.calm=true)(hN:X.N.Nodup)(hi:X.N[i]?=some x)(hj:X.N[j]?=some y)(hij:i≠j)
  (hx:X.env.scope.names.lookup x=some .local)(hy:X.env.scope.names.lookup y=some .local)(ha:PA X [a,b] ta)
  (hw:swappedStores [.Tuple [.Name x px, .Name y py] kt pt] (.Tuple [a,b] k2 pt2) X.env=pure (some [x,y]))
  (hs:swapsWithSole [.Tuple [.Name x px, .Name y py] kt pt] (.Tuple [a,b] k2 pt2) pos.line X.env=pure false:=by rfl):
  PS X (.Assign [.Tuple [.Name x px, .Name y py] kt pt] (.Tuple [a,b] k2 pt2) pos) (Se i j ta):=by
 intro pins s σ H D I h
 rw[exec_Assign_arm]
 refine wpAny_bind (wpAny_standAt ?_)
 rw[hs]
 refine wpAny_bind (wpAny_pure ?_)
 rw[if_neg (by decide)]
 refine wpAny_bind (Tuple_ (thn (ha _ pins s σ H _ I h) λus s1 r9=>?_))
 obtain⟨vs,H1,I1,r1,q1⟩:=r9
 obtain⟨v,w,e1,q1⟩:=q1
 subst e1
 obtain⟨u1,u2,rfl,rv,rw'⟩:∃u1 u2,us=[u1,u2]/\XW v u1/\XW w u2:=by
  cases r1 with
  |cons p q=>
   cases q with
   |cons p' q'=>
    cases q'
    exact⟨_,_,rfl,p,p'⟩
 refine wpAny_newObj_type ?_ (by show 2<=sizeLine;decide)
 have I2:Inv X pins σ H1 {s1 with heap:=s1.heap.push {cls:=.type "tuple",data:=.seq [u1,u2].toArray}}:=I1.kept (t':=s1.toks) λb o e=>Heap.get?_push_of_some _ e
 rw[hw]
 refine wpAny_bind (wpAny_pure ?_)
 show wpAny (model X.prog X.w) X.A (do rule "assign.swapped-stores";let items ←unpackItems (.ref s1.heap.objs.size) 2 none;assignInOrder [λv=>bindName X.env y v,λv=>bindName X.env x v] items.reverse;pure Flow.next) _ _ _
 refine wpAny_bind (wpAny_rule (wpAny_bind (unpackItems_tuple (items:=#[u1,u2]) (I.ok.hd hc) (IsTup.new s1.heap _) λh' hx'=>?_)))
 have I3:=I2.kept (h':=h') (t':=s1.toks) λb o e=>hx' b o (Nat.ne_of_lt (Heap.lt_size e)) e
 show wpAny _ _ (assignInOrder [λv=>bindName X.env y v,λv=>bindName X.env x v] [u2,u1] >>= λ_=>pure Flow.next) _ _ _
 refine wpAny_bind (assignInOrder_cons (wpAny_bindName (Z2 I3 hN hj (.inl hy) rw' (λs2 I4=>?_) (.inr hy))))
 refine assignInOrder_cons (wpAny_bindName (Z2 I4 hN hi (.inl hx) rv (λs3 I5=>assignInOrder_nil (wpAny_pure ?_)) (.inr hx)))
 rw[List.set_comm _ _ (Ne.symm hij)] at I5
 exact⟨_,H1,I5,q1⟩
end
section
variable {X:Cx}{pos:Pos}
noncomputable def HB (c:TT)(tb:TS):TS:=λD σ H=>∃ W:Nat->St->Hp->Prop,(∃m,W m σ H)/\∀m σ H,W m σ H->
 c σ H λb H1=>if b=true then ∃N:St->Hp->Prop,(∀σ' H',N σ' H'->∃m',m'<m/\W m' σ' H')/\tb {D with nx:=N,ct:=N,bk:=D.nx} σ H1 else D.nx σ H1
theorem DJ {c:Expr}{body:List Stmt}{tc:TT}{tb:TS}(hp:PassesOwn (model X.prog X.w) X.A X.env X.xe)(hc:PT X c tc)(hb:PSs X body tb):PS X (.While c body [] pos) (HB tc tb):=by
 intro pins s σ H D I h
 obtain⟨W,⟨m0,w0⟩,turn⟩:=h
 refine wpAny_While (codeAny_whileLoop (λn s'=>∃ σ' H',Inv X pins σ' H' s'/\W n σ' H') ?_ m0 ⟨σ,H,I,w0⟩)
 rintro n s1 ⟨σ1,H1,I1,w1⟩
 refine wpAny_passesOwn hp (thn (hc pins s1 σ1 H1 _ I1 (turn n σ1 H1 w1)) λb s2 r9=>?_)
 obtain⟨H2,I2,q2⟩:=r9
 cases b with
 |true=>
  obtain⟨N,hN,q2⟩:=q2
  rw[if_pos rfl]
  refine wpAny_passesOwn hp (thn (hb pins s2 σ1 H2 _ I2 q2) λf s3 q3=>?_)
  cases f with
  |next=>
   obtain⟨σ3,H3,I3,n3⟩:=q3
   obtain⟨m',hm,w3⟩:=hN σ3 H3 n3
   exact⟨m',hm,σ3,H3,I3,w3⟩
  |cont=>
   obtain⟨σ3,H3,I3,n3⟩:=q3
   obtain⟨m',hm,w3⟩:=hN σ3 H3 n3
   exact⟨m',hm,σ3,H3,I3,w3⟩
  |brk=>exact q3
  |ret v=>exact q3
 |false=>
  rw[if_neg Bool.false_ne_true]
  exact wpAny_execs_nil ⟨σ1,H2,I2,q2⟩
end
structure It where
 go:Nat->Hp->Prop
 yld:Nat->Hp->V->Hp->Prop
 stop:Nat->Hp->Prop
noncomputable def DZ (X:Cx)(pins:List (Addr×Obj))(H:Hp)(b:Addr):Prop:=
 H b=none/\b≠X.env.locals/\b∉X.fs/\(b∈X.ex∨X.s₀.heap.objs.size<=b)/\(∀x c,X.env.cells.lookup x=some c->c≠b)/\∀p∈X.pn++pins,p.1≠b
theorem Inv.fpOk {X:Cx}{pins:List (Addr×Obj)}{σ:St}{H H':Hp}{s:Shared}{b:Addr}(I:Inv X pins σ H s)(hb:s.heap.objs.size<=b)(hn:H' b=none):DZ X pins H' b:=by
 refine⟨hn,Nat.ne_of_gt (Nat.lt_of_lt_of_le I.lt hb),I.nofs hb, .inr (Nat.le_trans I.sz hb),λx c e z=>?_,λp hp z=>?_⟩
 ·obtain⟨v,q⟩:=I.cell x c e
  exact absurd (Nat.lt_of_lt_of_le q.lt (by rw[z];exact hb)) (Nat.lt_irrefl _)
 ·exact absurd (Nat.lt_of_lt_of_le (Heap.lt_size (I.pin p hp).1) (by rw[z];exact hb)) (Nat.lt_irrefl _)
structure Turn (P:Program)(w:World)(K:PySem.W.Frag)(tg:Expr)(J:It)(fp:List Addr)(it:Addr)(tn:Nat->Heap->Prop):Prop where
 mem:it∈fp
 obj:∀i h,tn i h->∀b∈fp,∃o,h.get? b=some o/\∀v,o.data≠ .cell v
 keep:∀i h h',tn i h->(∀b∈fp,∀o,h.get? b=some o->h'.get? b=some o)->tn i h'
 item:∀(X:Cx),X.prog=P->X.w=w->X.K=K->X.calm=true->∀(i:Nat) (pins:List (Addr×Obj)) (s:Shared) (σ:St) (H:Hp) (E:Value->Shared->Prop),Inv X pins σ H s->(∀b∈fp,DZ X pins H b)->tn i s.heap->J.go i H->
  wpAny (model P w) X.A (pyNext (.ref it)) (λr s1=>∃ u,r=some u/\
   wpAny (model P w) X.A (letOwnedTupleGo tg (.ref it) u) (λ_ s2=>∃ x H',Inv X pins σ H' s2/\XW x u/\J.yld i H x H'/\tn (i+1) s2.heap/\∀b∈fp,H' b=none) E s1) E s
 done:∀(X:Cx),X.prog=P->X.w=w->X.K=K->X.calm=true->∀(i:Nat) (pins:List (Addr×Obj)) (s:Shared) (σ:St) (H:Hp) (E:Value->Shared->Prop),Inv X pins σ H s->(∀b∈fp,DZ X pins H b)->tn i s.heap->J.stop i H->
  wpAny (model P w) X.A (pyNext (.ref it)) (λr s1=>r=none/\Inv X pins σ H s1) E s
 self:∀(A:Around) (i:Nat) (s:Shared) (Q:Value->Shared->Prop) (E:Value->Shared->Prop),tn i s.heap->Q (.ref it) s->wpAny (model P w) A (pyIter (.ref it)) Q E s
noncomputable abbrev TI:=St->Hp->(It->Hp->Prop)->Prop
noncomputable def PIE (X:Cx)(pins:List (Addr×Obj))(σ:St)(tg:Expr)(R:It->Hp->Prop)(itv:Value)(s2:Shared):Prop:=
 ∃(it:Addr) (fp:List Addr) (tn:Nat->Heap->Prop) (J:It) (H':Hp),itv= .ref it/\Inv X pins σ H' s2/\Turn X.prog X.w X.K tg J fp it tn/\tn 0 s2.heap/\(∀b∈fp,DZ X pins H' b)/\R J H'
noncomputable def PI (X:Cx)(tg iter:Expr)(wi:TI):Prop:=
 ∀(pins:List (Addr×Obj)) (s:Shared) (σ:St) (H:Hp) (R:It->Hp->Prop),Inv X pins σ H s->wi σ H R->
  wpAny (model X.prog X.w) X.A (eval iter X.env) (λv s1=>wpAny (model X.prog X.w) X.A (pyIter v) (PIE X pins σ tg R) X.xe s1) X.xe s
theorem N4 {M:Model}{A:Around}{E:Value->Shared->Prop}{s:Shared}{tg:Expr}{it:Addr}{u:Value}{o:Obj}{n:String}{vs:Array Value}{Q:Unit->Shared->Prop}(ho:s.heap.get? it=some o)(hc:o.cls= .type n)(hd:o.data= .fields vs)
    (hn: ["enumerate","zip","dict_itemiterator","dict_reverseitemiterator","odict_iterator","itertools.zip_longest","itertools.pairwise"].contains n=false)(hQ:Q () s):wpAny M A (letOwnedTupleGo tg (.ref it) u) Q E s:=by
  unfold letOwnedTupleGo
  cases tg<;> first
    |exact wpAny_pure hQ
    | (cases u<;> first
        |exact wpAny_pure hQ
        | (refine wpAny_bind (wpAny_load ho ?_)
           rw[hc,hd]
           show wpAny M A (if(["enumerate","zip","dict_itemiterator","dict_reverseitemiterator","odict_iterator","itertools.zip_longest","itertools.pairwise"].contains n&&vs[0]?==some (rawInt _))=true then _ else _) Q E s
           rw[if_neg (by intro h;rw[hn,Bool.false_and] at h;cases h)]
           exact wpAny_pure hQ))
noncomputable def Itl (K:PySem.W.Frag)(a:Addr):It:=
 ⟨λi H=>∃ xs x,SqL K H a xs/\xs[i]?=some x,λi H x H'=>H'=H/\∀xs,SqL K H a xs->xs[i]?=some x,λi H=>∃ xs,SqL K H a xs/\xs.length<=i⟩
noncomputable def Itt (K:PySem.W.Frag)(a:Addr):It:=
 ⟨λi H=>∃ xs x,SqT K H a xs/\xs[i]?=some x,λi H x H'=>H'=H/\∀xs,SqT K H a xs->xs[i]?=some x,λi H=>∃ xs,SqT K H a xs/\xs.length<=i⟩
noncomputable def Itr (lo:Int)(n:Nat):It:=⟨λi _=>i<n,λi H x H'=>H'=H/\x= .int (lo+i),λi _=>n<=i⟩
theorem EW {P:Program}{w:World}{K:PySem.W.Frag}{tg:Expr}(a it:Addr):Turn P w K tg (Itl K a) [it] it (λi h=>h.IsListIter it a i) where
 mem:=by simp
 obj:=λi h st b hb=>by
  have e:b=it:=by simpa using hb
  subst e
  obtain⟨o,e,c,d⟩:=st
  exact⟨o,e,λv z=>by rw[d] at z;cases z⟩
 keep:=λi h h' st k=>st.at λo e=>k it (by simp) o e
 item:=by
  intro X hP hw hK hc i pins s σ H E I hf st hg
  subst hP hw hK
  obtain⟨xs,x,hq,hx⟩:=hg
  obtain⟨its,rv,p,hz⟩:=I.list hq
  obtain⟨u,hu,ru⟩:=rv.get hx
  obtain⟨f0,f1,f2,f3,f4,f5⟩:=hf it (by simp)
  refine wpAny_pyNext_list_item st p.isList (x:=u) (by simpa using hu) λh' st' sb=>?_
  have I1:Inv X pins σ H {s with heap:=h'}:=I.turned (t':=s.toks) (λb o hb e=>(sb.2 b hb).trans e) f0 f1 f3 f4 f5
  obtain⟨o,e,c,d⟩:=id st'
  exact⟨u,rfl,N4 (s:={s with heap:=h'}) e c d (by decide) ⟨x,H,I1,ru,⟨rfl,λys hy=>by rw[I.list_inj hy hq];exact hx⟩,st',λb hb=>(hf b hb).1⟩⟩
 done:=by
  intro X hP hw hK hc i pins s σ H E I hf st hg
  subst hP hw hK
  obtain⟨xs,hq,hx⟩:=hg
  obtain⟨its,rv,p,hz⟩:=I.list hq
  obtain⟨f0,f1,f2,f3,f4,f5⟩:=hf it (by simp)
  have hl:=rv.length
  exact wpAny_pyNext_list_end (I.ok.hd hc) st p.isList (by simp;omega) λh' eb=>⟨rfl,I.turned (t':=s.toks) (λb o hb e=>eb b o hb e) f0 f1 f3 f4 f5⟩
 self:=λ_ _ _ _ _ st h=>wpAny_pyIter_listiter st h
theorem Be {P:Program}{w:World}{K:PySem.W.Frag}{tg:Expr}(a it:Addr):Turn P w K tg (Itt K a) [it] it (λi h=>h.IsTupleIter it a i) where
 mem:=by simp
 obj:=λi h st b hb=>by
  have e:b=it:=by simpa using hb
  subst e
  obtain⟨o,e,c,d⟩:=st
  exact⟨o,e,λv z=>by rw[d] at z;cases z⟩
 keep:=λi h h' st k=>st.at λo e=>k it (by simp) o e
 item:=by
  intro X hP hw hK hc i pins s σ H E I hf st hg
  subst hP hw hK
  obtain⟨xs,x,hq,hx⟩:=hg
  obtain⟨its,rv,p,hz⟩:=I.tuple hq
  obtain⟨u,hu,ru⟩:=rv.get hx
  obtain⟨f0,f1,f2,f3,f4,f5⟩:=hf it (by simp)
  refine wpAny_pyNext_tuple_item st (show s.heap.IsTuple a its.toArray from p) (x:=u) (by simpa using hu) λh' st' sb=>?_
  have I1:Inv X pins σ H {s with heap:=h'}:=I.turned (t':=s.toks) (λb o hb e=>(sb.2 b hb).trans e) f0 f1 f3 f4 f5
  obtain⟨o,e,c,d⟩:=id st'
  exact⟨u,rfl,N4 (s:={s with heap:=h'}) e c d (by decide) ⟨x,H,I1,ru,⟨rfl,λys hy=>by rw[I.tuple_inj hy hq];exact hx⟩,st',λb hb=>(hf b hb).1⟩⟩
 done:=by
  intro X hP hw hK hc i pins s σ H E I hf st hg
  subst hP hw hK
  obtain⟨xs,hq,hx⟩:=hg
  obtain⟨its,rv,p,hz⟩:=I.tuple hq
  obtain⟨f0,f1,f2,f3,f4,f5⟩:=hf it (by simp)
  have hl:=rv.length
  exact wpAny_pyNext_tuple_end (I.ok.hd hc) st (show s.heap.IsTuple a its.toArray from p) (by simp;omega) λh' eb=>⟨rfl,I.turned (t':=s.toks) (λb o hb e=>eb b o hb e) f0 f1 f3 f4 f5⟩
 self:=λ_ _ _ _ _ st h=>wpAny_pyIter_tupleiter st h
theorem CY {P:Program}{w:World}{K:PySem.W.Frag}{tg:Expr}(it:Addr)(lo:Int)(n:Nat):Turn P w K tg (Itr lo n) [it] it (λi h=>IsRangeIter h it (lo+(i:Nat)*1) ((n:Int)-(i:Nat)) 1) where
 mem:=by simp
 obj:=λi h st b hb=>by
  have e:b=it:=by simpa using hb
  subst e
  exact⟨_,st,λv z=>by
   have z':Data.fields _=Data.cell v:=z
   cases z'⟩
 keep:=λi h h' st k=>k it (by simp) _ st
 item:=by
  intro X hP hw hK hc i pins s σ H E I hf st hg
  subst hP hw hK
  obtain⟨f0,f1,f2,f3,f4,f5⟩:=hf it (by simp)
  have W:=Walks.range (prog:=X.prog) (w:=X.w) (I.ok.hd hc) it lo 1 n
  refine W.item i s _ _ hg st λv h' tk hv st' kk=>?_
  obtain⟨t,rfl⟩:=hv
  have I1:Inv X pins σ H {s with heap:=h',toks:=tk}:=I.turned (λb o hb e=>kk b o (by simpa using hb) e) f0 f1 f3 f4 f5
  refine⟨_,rfl,N4 (s:={s with heap:=h',toks:=tk}) (n:="range_iterator") st' rfl rfl (by decide) ⟨.int (lo+i),H,I1,⟨t,?_⟩,⟨rfl,rfl⟩,st',λb hb=>(hf b hb).1⟩⟩
  rw[Int.mul_one]
 done:=by
  intro X hP hw hK hc i pins s σ H E I hf st hg
  subst hP hw hK
  obtain⟨f0,f1,f2,f3,f4,f5⟩:=hf it (by simp)
  exact wpAny_pyNext_range_end (I.ok.hd hc) st (by have:n<=i:=hg;omega) λh' eb=>⟨rfl,I.turned (t':=s.toks) (λb o hb e=>eb b o hb e) f0 f1 f3 f4 f5⟩
 self:=λ_ _ _ _ _ st h=>wpAny_pyIter_rangeiter st h
section
variable {X:Cx}{tg:Expr}
noncomputable def Gz (K:PySem.W.Frag)(tl:TE):TI:=λσ H R=>tl σ H λx H1=>∃ a,x= .ref a/\(∃xs,SqL K H1 a xs)/\R (Itl K a) H1
noncomputable def PU (K:PySem.W.Frag)(tl:TE):TI:=λσ H R=>tl σ H λx H1=>∃ a,x= .ref a/\(∃xs,SqT K H1 a xs)/\R (Itt K a) H1
theorem N3 {l:Expr}{tl:TE}(hl:PE X l tl):PI X tg l (Gz X.K tl):=by
 intro pins s σ H R I h
 refine thn (hl pins s σ H _ I h) λv s1 r9=>?_
 obtain⟨x,H1,I1,r1,q1⟩:=r9
 obtain⟨a,e,⟨xs,hq⟩,q⟩:=q1
 subst e
 cases r1
 obtain⟨its,rv,p,hz⟩:=I1.list hq
 refine wpAny_pyIter_list p.isList ?_
 refine⟨s1.heap.objs.size,[s1.heap.objs.size],_,_,H1,rfl,I1.kept (t':=s1.toks) λb o e=>Heap.get?_push_of_some _ e,EW a _,⟨_,Heap.get?_push_size _ rfl,rfl,rfl⟩,λb hb=>?_,q⟩
 have e:b=s1.heap.objs.size:=by simpa using hb
 subst e
 exact I1.fpOk (Nat.le_refl _) (I1.hok.fresh (Nat.le_refl _))
theorem Ol {l:Expr}{tl:TE}(hl:PE X l tl):PI X tg l (PU X.K tl):=by
 intro pins s σ H R I h
 refine thn (hl pins s σ H _ I h) λv s1 r9=>?_
 obtain⟨x,H1,I1,r1,q1⟩:=r9
 obtain⟨a,e,⟨xs,hq⟩,q⟩:=q1
 subst e
 cases r1
 obtain⟨its,rv,p,hz⟩:=I1.tuple hq
 refine wpAny_pyIter_tuple (show s1.heap.IsTuple a its.toArray from p) ?_
 refine⟨s1.heap.objs.size,[s1.heap.objs.size],_,_,H1,rfl,I1.kept (t':=s1.toks) λb o e=>Heap.get?_push_of_some _ e,Be a _,⟨_,Heap.get?_push_size _ rfl,rfl,rfl⟩,λb hb=>?_,q⟩
 have e:b=s1.heap.objs.size:=by simpa using hb
 subst e
 exact I1.fpOk (Nat.le_refl _) (I1.hok.fresh (Nat.le_refl _))
theorem HR {pins:List (Addr×Obj)}{σ:St}{H:Hp}{s:Shared}{R:It->Hp->Prop}{E:Value->Shared->Prop}{lo hi:Int}{t u v:Tok}{tk:Nat}(I:Inv X pins σ H s)(h1: -(2^62)<=lo)(h2:lo<2^62)(h3: -(2^62)<=hi)(h4:hi<2^62)
  (q:R (Itr lo (hi-lo).toNat) H):wpAny (model X.prog X.w) X.A (pyIter (.ref s.heap.objs.size)) (PIE X pins σ tg R) E {s with heap:=s.heap.push {cls:=.type "range",data:=.fields #[.int lo t, .int hi u, .int 1 v]},toks:=tk}:=by
 refine wpAny_pyIter_range (IsRange.new ..) (small_one h1 h2 h3 h4) ?_
 have I1:Inv X pins σ H {s with heap:=s.heap.push {cls:=.type "range",data:=.fields #[.int lo t, .int hi u, .int 1 v]},toks:=tk}:=I.kept λb o e=>Heap.get?_push_of_some _ e
 refine⟨(s.heap.push {cls:=.type "range",data:=.fields #[.int lo t, .int hi u, .int 1 v]}).objs.size,[(s.heap.push {cls:=.type "range",data:=.fields #[.int lo t, .int hi u, .int 1 v]}).objs.size],_,_,H,rfl,
  I1.kept (t':=tk) λb o e=>Heap.get?_push_of_some _ e,CY _ lo (hi-lo).toNat,?_,λb hb=>?_,q⟩
 ·have e1:lo+((0:Nat):Int)*1=lo:=by simp
  have e2:(((hi-lo).toNat:Nat):Int)-((0:Nat):Int)=Builtin.Range.rangeSize lo hi 1:=by rw[rangeSize_one];split<;> omega
  show IsRangeIter _ _ (lo+((0:Nat):Int)*1) ((((hi-lo).toNat:Nat):Int)-((0:Nat):Int)) 1
  rw[e1,e2]
  exact Heap.get?_push_size _ rfl
 ·have e:b=(s.heap.push {cls:= .type "range",data:= .fields #[.int lo t, .int hi u, .int 1 v]}).objs.size:=by simpa using hb
  subst e
  exact I1.fpOk (Nat.le_refl _) (I1.hok.fresh (Nat.le_refl _))
noncomputable def MN (ta:TA):TI:=λσ H R=>ta σ H λvs H1=>∃ j:Int,vs=[.int j]/\ -(2^62)<=j/\j<2^62/\R (Itr 0 j.toNat) H1
noncomputable def ON (ta:TA):TI:=λσ H R=>ta σ H λvs H1=>∃ i j:Int,vs=[.int i, .int j]/\(-(2^62)<=i/\i<2^62/\ -(2^62)<=j/\j<2^62)/\R (Itr i (j-i).toNat) H1
theorem Yu {a:Expr}{ta:TA}{p pos:Pos}(hg:Gl X "range")(hm:X.mg "range" =none)(ha:PA X [a] ta)(hs:starEach [a] X.env=[(false,eval a X.env)]:=by rfl):PI X tg (.Call (.Name "range" p) [a] [] pos) (MN ta):=by
 intro pins s σ H R I h
 refine Call_ (Uk I hg hm boot_range (PyProof.Rows.callWith_type1 (thn (ha pos pins s σ H _ I h) λus s1 r9=>?_) hs rfl))
 obtain⟨vs,H1,I1,r1,q1⟩:=r9
 obtain⟨j,e,q1,q2,q⟩:=q1
 subst e
 cases r1 with
 |cons r rr=>
  cases rr
  obtain⟨t,rfl⟩:=r
  exact call_range_1 (HR I1 (by omega) (by omega) q1 q2 (by simpa using q))
noncomputable def By (wi:TI)(g:TG)(tb:TS):TS:=λD σ H=>wi σ H λJ H1=>∃ W:Nat->Nat->St->Hp->Prop,(∃m,W 0 m σ H1)/\∀i m σ H,W i m σ H->
 (J.stop i H/\D.nx σ H)∨(J.go i H/\∃N:St->Hp->Prop,(∀σ' H',N σ' H'->∃m',m'<m/\W (i+1) m' σ' H')/\∀x H',J.yld i H x H'->g x σ H' λσ2 H2=>tb {D with nx:=N,ct:=N,bk:=D.nx} σ2 H2)
noncomputable def Gm (fp:List Addr)(h:Heap):List (Addr×Obj):=fp.filterMap λb=>(h.get? b).map λo=>(b,o)
theorem JH {fp:List Addr}{h:Heap}{b:Addr}{o:Obj}(hb:b∈fp)(e:h.get? b=some o):(b,o)∈Gm fp h:=List.mem_filterMap.mpr ⟨b,hb,by rw[e];rfl⟩
theorem EN {fp:List Addr}{h:Heap}{p:Addr×Obj}(hp:p∈Gm fp h):p.1∈fp/\h.get? p.1=some p.2:=by
 obtain⟨b,hb,e⟩:=List.mem_filterMap.mp hp
 cases q:h.get? b with
 |none=>rw[q] at e;cases e
 |some o=>
  rw[q] at e
  have e':(b,o)=p:=Option.some.inj e
  subst e'
  exact⟨hb,q⟩
theorem Inv.pinned {pins:List (Addr×Obj)}{σ:St}{H:Hp}{s:Shared}{fp:List Addr}(I:Inv X pins σ H s)(hf:∀b∈fp,DZ X pins H b)(ho:∀b∈fp,∃o,s.heap.get? b=some o/\∀v,o.data≠ .cell v):Inv X (pins++Gm fp s.heap) σ H s:=
 I.pins_of λp hp=>(List.mem_append.mp hp).elim (λz=>I.pin p (List.mem_append_right _ z)) λz=>by
  obtain⟨hb,e⟩:=EN z
  obtain⟨f0,f1,f2,_⟩:=hf p.1 hb
  obtain⟨o,e',d⟩:=ho p.1 hb
  rw[e] at e';cases e'
  exact⟨e,f0,f1,f2,d⟩
theorem Inv.unpinned {pins pl:List (Addr×Obj)}{σ:St}{H:Hp}{s:Shared}(I:Inv X (pins++pl) σ H s):Inv X pins σ H s:=I.pins_of λp hp=>I.pin p (List.mem_append_right _ (List.mem_append_left _ hp))
theorem Yw {iter:Expr}{body:List Stmt}{wi:TI}{g:TG}{tb:TS}{pos:Pos}(hp:PassesOwn (model X.prog X.w) X.A X.env X.xe)(hc:X.calm=true)(hi:PI X tg iter wi)(hg:PG X tg g)(hb:PSs X body tb)
  (hs:∀x,foldedSetIterable iter X.env x=pure x:=by intro _;rfl):PS X (.For tg iter body [] pos) (By wi g tb):=by
 intro pins s σ H D I h
 refine wpAny_For (thn (hi pins s σ H _ I h) λv s1 h1=>thn h1 λitv s2 h2=>?_) hs
 obtain⟨it,fp,tn,J,H2,e,I2,T,st2,f2,W,⟨m0,w0⟩,turn⟩:=h2
 subst e
 -- what stays true of the iterator's objects through the loop
 have stat:∀{H':Hp},(∀b∈fp,H' b=none)->∀b∈fp,DZ X pins H' b:=λhn b hb=>⟨hn b hb,(f2 b hb).2⟩
 refine codeAny_forLoop_any (λn s'=>∃ i σ' H',Inv X pins σ' H' s'/\tn i s'.heap/\(∀b∈fp,H' b=none)/\W i n σ' H') ?_ m0 ⟨0,σ,H2,I2,st2,λb hb=>(f2 b hb).1,w0⟩
 rintro n s3 ⟨i,σ3,H3,I3,st3,fr3,w3⟩
 rcases turn i n σ3 H3 w3 with⟨stop,qn⟩ | ⟨go,N,hN,step⟩
 ·refine wpAny_passesOwn hp (thn (T.done X rfl rfl rfl hc i pins s3 σ3 H3 X.xe I3 (stat fr3) st3 stop) λr s4 r9=>?_)
  obtain⟨hr,I4⟩:=r9
  subst hr
  exact wpAny_execs_nil ⟨σ3,H3,I4,qn⟩
 ·refine wpAny_passesOwn hp (thn (T.item X rfl rfl rfl hc i pins s3 σ3 H3 X.xe I3 (stat fr3) st3 go) λr s4 r9=>?_)
  obtain⟨u,hr,h4⟩:=r9
  subst hr
  refine wpAny_passesOwn hp (thn h4 λ_ s5 r9=>?_)
  obtain⟨x,H5,I5,r5,y5,st5,fr5⟩:=r9
  have I5':=I5.pinned (stat fr5) (T.obj _ _ st5)
  refine wpAny_passesOwn hp (thn (hg _ s5 σ3 H5 x u _ I5' r5 (step x H5 y5)) λ_ s6 r9=>?_)
  obtain⟨σ6,H6,I6,q6⟩:=r9
  refine wpAny_passesOwn hp (thn (hb _ s6 σ6 H6 _ I6 q6) λf s7 q7=>?_)
  have again:∀{σ7:St}{H7:Hp},Inv X (pins++Gm fp s5.heap) σ7 H7 s7->N σ7 H7->∃m,m<n/\∃i σ' H',Inv X pins σ' H' s7/\tn i s7.heap/\(∀b∈fp,H' b=none)/\W i m σ' H':=fun {σ7 H7} I7 n7=>by
   obtain⟨m',hm,w7⟩:=hN σ7 H7 n7
   refine⟨m',hm,i+1,σ7,H7,I7.unpinned,T.keep _ _ _ st5 λb hb o e=>(I7.pin (b,o) (List.mem_append_right _ (List.mem_append_right _ (JH hb e)))).1,λb hb=>?_,w7⟩
   obtain⟨o,e,d⟩:=T.obj _ _ st5 b hb
   exact(I7.pin (b,o) (List.mem_append_right _ (List.mem_append_right _ (JH hb e)))).2.1
  cases f with
  |next=>obtain⟨σ7,H7,I7,n7⟩:=q7;exact again I7 n7
  |cont=>obtain⟨σ7,H7,I7,n7⟩:=q7;exact again I7 n7
  |brk=>obtain⟨σ7,H7,I7,q7⟩:=q7;exact⟨σ7,H7,I7.unpinned,q7⟩
  |ret v=>obtain⟨x7,σ7,H7,I7,r7,q7⟩:=q7;exact⟨x7,σ7,H7,I7.unpinned,r7,q7⟩
end
theorem Il {K:PySem.W.Frag}{a:Addr}{xs:List V}{g:TG}{tb:TS}{D:Ends}{σ:St}{H:Hp}(Pv:Nat->St->Hp->Prop)(h0:Pv 0 σ H)(hl:∀i σ H,i<=xs.length->Pv i σ H->SqL K H a xs)
  (hs:∀i x σ H,xs[i]?=some x->Pv i σ H->g x σ H λσ2 H2=>tb {D with nx:=Pv (i+1),ct:=Pv (i+1),bk:=D.nx} σ2 H2)(hd:∀σ H,Pv xs.length σ H->D.nx σ H):
  ∃W:Nat->Nat->St->Hp->Prop,(∃m,W 0 m σ H)/\∀i m σ H,W i m σ H->
   ((Itl K a).stop i H/\D.nx σ H)∨((Itl K a).go i H/\∃N:St->Hp->Prop,(∀σ' H',N σ' H'->∃m',m'<m/\W (i+1) m' σ' H')/\∀x H',(Itl K a).yld i H x H'->g x σ H' λσ2 H2=>tb {D with nx:=N,ct:=N,bk:=D.nx} σ2 H2):=by
 refine⟨λi m σ H=>m=xs.length-i/\i<=xs.length/\Pv i σ H,⟨xs.length,by simp,Nat.zero_le _,h0⟩,?_⟩
 rintro i m σ H ⟨rfl,hi,p⟩
 have q:=hl i σ H hi p
 by_cases hlt:i<xs.length
 ·refine .inr ⟨⟨xs,xs[i],q,by simp[hlt]⟩,Pv (i+1),λσ' H' p'=>⟨xs.length-(i+1),by omega,rfl,hlt,p'⟩,λx H' y=>?_⟩
  obtain⟨e,y⟩:=y
  subst e
  exact hs i x σ _ (y xs q) p
 ·have e:i=xs.length:=by omega
  subst e
  exact .inl ⟨⟨xs,q,Nat.le_refl _⟩,hd σ H p⟩
noncomputable abbrev R2:=V->V->Hp->VK->Prop
noncomputable def OpR (X:Cx)(f:Value->Value->Sem Value)(r:R2):Prop:=
 ∀(pins:List (Addr×Obj)) (s:Shared) (σ:St) (H:Hp) (x y:V) (v u:Value) (Q:VK),Inv X pins σ H s->XW x v->XW y u->r x y H Q->
  wpAny (model X.prog X.w) X.A (f v u) (EP X pins σ Q) X.xe s
noncomputable def UnR (X:Cx)(f:Value->Sem Value)(r:V->Hp->VK->Prop):Prop:=
 ∀(pins:List (Addr×Obj)) (s:Shared) (σ:St) (H:Hp) (x:V) (v:Value) (Q:VK),Inv X pins σ H s->XW x v->r x H Q->
  wpAny (model X.prog X.w) X.A (f v) (EP X pins σ Q) X.xe s
noncomputable def Zc (X:Cx)(f:Value)(r:List V->Hp->VK->Prop):Prop:=
 ∀(pins:List (Addr×Obj)) (s:Shared) (σ:St) (H:Hp) (xs:List V) (us:List Value) (Q:VK),Inv X pins σ H s->XZ xs us->r xs H Q->
  wpAny (model X.prog X.w) X.A (call f us) (EP X pins σ Q) X.xe s
noncomputable def tOp (r:R2)(ta tb:TE):TE:=λσ H Q=>ta σ H λx H1=>tb σ H1 λy H2=>r x y H2 Q
noncomputable def tUn (r:V->Hp->VK->Prop)(ta:TE):TE:=λσ H Q=>ta σ H λx H1=>r x H1 Q
noncomputable def rI (C:Int->Int->Prop)(g:Int->Int->V):R2:=λx y H Q=>∃ i j,x= .int i/\y= .int j/\C i j/\Q (g i j) H
noncomputable def rI0 (g:Int->Int->V):R2:=λx y H Q=>∃ i j,x= .int i/\y= .int j/\Q (g i j) H
noncomputable def rU (g:Int->V):V->Hp->VK->Prop:=λx H Q=>∃ i,x= .int i/\Q (g i) H
section
variable {X:Cx}{a b c:Expr}{ta tb tc:TE}{pos:Pos}
theorem RE (ha:PE X a ta)(hb:PE X b tb){pins:List (Addr×Obj)}{s:Shared}{σ:St}{H:Hp}{R:V->V->Hp->Prop}(I:Inv X pins σ H s)
  (h:ta σ H λx H1=>tb σ H1 λy H2=>R x y H2){Q:Value->Shared->Prop}{f:Value->Value->Sem Value}
  (hf:∀v u s2 x y H2,Inv X pins σ H2 s2->XW x v->XW y u->R x y H2->wpAny (model X.prog X.w) X.A (f v u) Q X.xe s2):
  wpAny (model X.prog X.w) X.A (eval a X.env) (λv s₁=>wpAny (model X.prog X.w) X.A (eval b X.env) (λu s₂=>wpAny (model X.prog X.w) X.A (f v u) Q X.xe s₂) X.xe s₁) X.xe s:=by
 refine thn (ha pins s σ H _ I h) λv s1 r9=>?_
 obtain⟨x,H1,I1,r1,q1⟩:=r9
 refine thn (hb pins s1 σ H1 _ I1 q1) λu s2 r9=>?_
 obtain⟨y,H2,I2,r2,q2⟩:=r9
 exact hf v u s2 x y H2 I2 r1 r2 q2
theorem Xn {op:Operator}{r:R2}(ho:OpR X (binaryOp op) r)(ha:PE X a ta)(hb:PE X b tb):PE X (.BinOp a op b pos) (tOp r ta tb):=by
 intro pins s σ H Q I h
 exact wpAny_BinOp (RE ha hb I h λv u s2 x y H2 I2 rx ry q=>ho pins s2 σ H2 x y v u Q I2 rx ry q)
theorem Yr {op:UnaryOp}{r:V->Hp->VK->Prop}(ho:UnR X (unaryOp op) r)(ha:PE X a ta):PE X (.UnaryOp op a pos) (tUn r ta):=by
 intro pins s σ H Q I h
 exact UnaryOp_ (thn (ha pins s σ H _ I h) λv s1 r9=>by obtain⟨x,H1,I1,r1,q1⟩:=r9;exact ho pins s1 σ H1 x v Q I1 r1 q1)
theorem opI {f:Value->Value->Sem Value}{C:Int->Int->Prop}{g:Int->Int->Int}
  (rule:∀(i j:Int) (t u:Tok) (s:Shared) (Q:Value->Shared->Prop) (E:Value->Shared->Prop),C i j->Q (.int (g i j) s.toks) {s with toks:=s.toks+1}->wpAny (model X.prog X.w) X.A (f (.int i t) (.int j u)) Q E s):
  OpR X f (rI C λi j=>.int (g i j)):=by
 intro pins s σ H x y v u Q I rx ry h
 obtain⟨i,j,rfl,rfl,hc,q⟩:=h
 obtain⟨t,rfl⟩:=rx
 obtain⟨t',rfl⟩:=ry
 exact rule i j t t' s _ _ hc ⟨.int (g i j),H,I.tok _,⟨_,rfl⟩,q⟩
theorem Sa {f:Value->Value->Sem Value}{g:Int->Int->Int}
  (rule:∀(i j:Int) (t u:Tok) (s:Shared) (Q:Value->Shared->Prop) (E:Value->Shared->Prop),Q (.int (g i j) s.toks) {s with toks:=s.toks+1}->wpAny (model X.prog X.w) X.A (f (.int i t) (.int j u)) Q E s):
  OpR X f (rI0 λi j=>.int (g i j)):=by
 intro pins s σ H x y v u Q I rx ry h
 obtain⟨i,j,rfl,rfl,q⟩:=h
 obtain⟨t,rfl⟩:=rx
 obtain⟨t',rfl⟩:=ry
 exact rule i j t t' s _ _ ⟨.int (g i j),H,I.tok _,⟨_,rfl⟩,q⟩
theorem PP {f:Value->Value->Sem Value}{g:Int->Int->Bool}
  (rule:∀(i j:Int) (t u:Tok) (s:Shared) (Q:Value->Shared->Prop) (E:Value->Shared->Prop),Q (.bool (g i j)) s->wpAny (model X.prog X.w) X.A (f (.int i t) (.int j u)) Q E s):
  OpR X f (rI0 λi j=>.bl (g i j)):=by
 intro pins s σ H x y v u Q I rx ry h
 obtain⟨i,j,rfl,rfl,q⟩:=h
 obtain⟨t,rfl⟩:=rx
 obtain⟨t',rfl⟩:=ry
 exact rule i j t t' s _ _ ⟨.bl (g i j),H,I,rfl,q⟩
noncomputable def RA (i j:Int):Prop:=0<=j/\j<=1000000/\i.natAbs<2^64
noncomputable def Oz (i j:Int):Prop:=(-(2^64)<i/\i<2^64)∨(-(2^64)<j/\j<2^64)
theorem Oz.ok {i j:Int}(h:Oz i j):IntMulOk i j:=by
 rcases h with⟨h1,h2⟩ | ⟨h1,h2⟩
 ·exact .of_left (intBits_le_64 h1 h2)
 ·exact .of_right (intBits_le_64 h1 h2)
theorem XE:OpR X (binaryOp .Add) (rI0 λi j=>.int (i+j)):=Sa λ_ _ _ _ _ _ _ q=>add_int q
theorem Zd:OpR X (binaryOp .Sub) (rI0 λi j=>.int (i-j)):=Sa λ_ _ _ _ _ _ _ q=>sub_int q
theorem XY:OpR X (binaryOp .Mult) (rI Oz λi j=>.int (i*j)):=opI λ_ _ _ _ _ _ _ hc q=>mul_int q hc.ok
theorem Yb:OpR X (binaryOp .Mod) (rI (λ_ j=>0<j) λi j=>.int (i % j)):=opI λi j _ _ _ _ _ hc q=>by
 have h1:(0:Int)<j:=hc
 exact mod_int' (by omega) (by rw[Int.fmod_eq_emod_of_nonneg i (by omega)];exact q)
theorem J7:OpR X (binaryOp .Pow) (rI RA λi j=>.int (i^j.toNat)):=opI λ_ _ _ _ _ _ _ hc q=>pow_int_small hc.1 hc.2.1 hc.2.2 q
theorem unI {f:Value->Sem Value}{g:Int->Int}
  (rule:∀(i:Int) (t:Tok) (s:Shared) (Q:Value->Shared->Prop) (E:Value->Shared->Prop),Q (.int (g i) s.toks) {s with toks:=s.toks+1}->wpAny (model X.prog X.w) X.A (f (.int i t)) Q E s):
  UnR X f (rU λi=>.int (g i)):=by
 intro pins s σ H x v Q I rx h
 obtain⟨i,rfl,q⟩:=h
 obtain⟨t,rfl⟩:=rx
 exact rule i t s _ _ ⟨.int (g i),H,I.tok _,⟨_,rfl⟩,q⟩
theorem XU:UnR X (unaryOp .USub) (rU λi=>.int (-i)):=unI λ_ _ _ _ _ q=>neg_int q
end
noncomputable def Ro:V->V->Bool
 | .non, .non=>true | .non, .int _=>true | .int _, .non=>true | .non, .bl _=>true | .bl _, .non=>true | .non, .str _=>true | .str _, .non=>true
 | .int _, .int _=>true | .bl _, .bl _=>true | .str _, .str _=>true | .byt _, .byt _=>true
 | .int _, .str _=>true | .str _, .int _=>true | .bl _, .str _=>true | .str _, .bl _=>true
 |_,_=>false
noncomputable def rEq:R2:=λx y H Q=>Ro x y=true/\Q (.bl (decide (x=y))) H
noncomputable def rNe:R2:=λx y H Q=>Ro x y=true/\Q (.bl (!decide (x=y))) H
theorem Ej {i j:Int}:decide (V.int i=V.int j)=(i==j):=by
 rw[Bool.eq_iff_iff]
 simp
theorem Lh {i j:Bool}:decide (V.bl i=V.bl j)=(i==j):=by
 rw[Bool.eq_iff_iff]
 simp
theorem Hw {i j:Str}:decide (V.str i=V.str j)=(i==j):=by
 rw[Bool.eq_iff_iff]
 simp
theorem ES {i j:Array UInt8}:decide (V.byt i=V.byt j)=(i.toList==j.toList):=by
 rw[Bool.eq_iff_iff]
 cases i
 cases j
 simp
section
variable {X:Cx}{a b c:Expr}{ta tb tc:TE}{pos:Pos}
theorem X5 {pins:List (Addr×Obj)}{σ:St}{H:Hp}{s:Shared}{Q:VK}{k k':Bool}(I:Inv X pins σ H s)(q:Q (.bl k) H)(e:k=k'):EP X pins σ Q (.bool k') s:=by
 subst e
 exact⟨.bl k,H,I,rfl,q⟩
theorem Ya:OpR X (compareOp .Eq) rEq:=by
 intro pins s σ H x y v u Q I rx ry h
 obtain⟨hs,q⟩:=h
 cases x with
 |non=>
  cases rx
  cases y with
  |non=>cases ry;exact PySem.EqNone.eq_none_none (X5 I q (by simp))
  |bl j=>cases ry;exact PySem.EqNone.eq_none_bool (X5 I q (by simp))
  |int j=>obtain⟨t',rfl⟩:=ry;exact PySem.EqNone.eq_none_int (X5 I q (by simp))
  |str j=>obtain⟨t',rfl⟩:=ry;exact PySem.EqNone.eq_none_str (X5 I q (by simp))
  |_=>exact absurd (show false=true from hs) Bool.false_ne_true
 |bl i=>
  cases rx
  cases y with
  |non=>cases ry;exact PySem.EqNone.eq_bool_none (X5 I q (by simp))
  |bl j=>cases ry;exact eq_bool (X5 I q Lh)
  |str j=>obtain⟨t',rfl⟩:=ry;exact PySem.EqMixed.eq_bool_str (X5 I q (by simp))
  |_=>exact absurd (show false=true from hs) Bool.false_ne_true
 |int i=>
  obtain⟨t,rfl⟩:=rx
  cases y with
  |non=>cases ry;exact PySem.EqNone.eq_int_none (X5 I q (by simp))
  |int j=>obtain⟨t',rfl⟩:=ry;exact eq_int (X5 I q Ej)
  |str j=>obtain⟨t',rfl⟩:=ry;exact PySem.EqMixed.eq_int_str (X5 I q (by simp))
  |_=>exact absurd (show false=true from hs) Bool.false_ne_true
 |str i=>
  obtain⟨t,rfl⟩:=rx
  cases y with
  |non=>cases ry;exact PySem.EqNone.eq_str_none (X5 I q (by simp))
  |bl j=>cases ry;exact PySem.EqMixed.eq_str_bool (X5 I q (by simp))
  |int j=>obtain⟨t',rfl⟩:=ry;exact PySem.EqMixed.eq_str_int (X5 I q (by simp))
  |str j=>obtain⟨t',rfl⟩:=ry;exact eq_str (X5 I q Hw)
  |_=>exact absurd (show false=true from hs) Bool.false_ne_true
 |byt i=>
  obtain⟨t,rfl⟩:=rx
  cases y with
  |byt j=>obtain⟨t',rfl⟩:=ry;exact PySem.W.eq_bytes (X5 I q ES)
  |_=>exact absurd (show false=true from hs) Bool.false_ne_true
 |_=>cases y<;> exact absurd (show false=true from hs) Bool.false_ne_true
theorem Ba:OpR X (compareOp .NotEq) rNe:=by
 intro pins s σ H x y v u Q I rx ry h
 obtain⟨hs,q⟩:=h
 cases x with
 |non=>
  cases rx
  cases y with
  |non=>cases ry;exact PySem.EqNone.ne_none_none (X5 I q (by simp))
  |bl j=>cases ry;exact PySem.EqNone.ne_none_bool (X5 I q (by simp))
  |int j=>obtain⟨t',rfl⟩:=ry;exact PySem.EqNone.ne_none_int (X5 I q (by simp))
  |str j=>obtain⟨t',rfl⟩:=ry;exact PySem.EqNone.ne_none_str (X5 I q (by simp))
  |_=>exact absurd (show false=true from hs) Bool.false_ne_true
 |bl i=>
  cases rx
  cases y with
  |non=>cases ry;exact PySem.EqNone.ne_bool_none (X5 I q (by simp))
  |bl j=>cases ry;exact ne_bool (X5 I q (congrArg not Lh))
  |str j=>obtain⟨t',rfl⟩:=ry;exact PySem.EqMixed.ne_bool_str (X5 I q (by simp))
  |_=>exact absurd (show false=true from hs) Bool.false_ne_true
 |int i=>
  obtain⟨t,rfl⟩:=rx
  cases y with
  |non=>cases ry;exact PySem.EqNone.ne_int_none (X5 I q (by simp))
  |int j=>obtain⟨t',rfl⟩:=ry;exact ne_int (X5 I q (congrArg not Ej))
  |str j=>obtain⟨t',rfl⟩:=ry;exact PySem.EqMixed.ne_int_str (X5 I q (by simp))
  |_=>exact absurd (show false=true from hs) Bool.false_ne_true
 |str i=>
  obtain⟨t,rfl⟩:=rx
  cases y with
  |non=>cases ry;exact PySem.EqNone.ne_str_none (X5 I q (by simp))
  |bl j=>cases ry;exact PySem.EqMixed.ne_str_bool (X5 I q (by simp))
  |int j=>obtain⟨t',rfl⟩:=ry;exact PySem.EqMixed.ne_str_int (X5 I q (by simp))
  |str j=>obtain⟨t',rfl⟩:=ry;exact ne_str (X5 I q (congrArg not Hw))
  |_=>exact absurd (show false=true from hs) Bool.false_ne_true
 |byt i=>
  obtain⟨t,rfl⟩:=rx
  cases y with
  |byt j=>obtain⟨t',rfl⟩:=ry;exact PySem.W.ne_bytes (X5 I q (congrArg not ES))
  |_=>exact absurd (show false=true from hs) Bool.false_ne_true
 |_=>cases y<;> exact absurd (show false=true from hs) Bool.false_ne_true
theorem Vy:OpR X (compareOp .Lt) (rI0 λi j=>.bl (decide (i<j))):=PP λ_ _ _ _ _ _ _ q=>lt_int q
theorem EU:OpR X (compareOp .LtE) (rI0 λi j=>.bl (decide (i<=j))):=PP λ_ _ _ _ _ _ _ q=>le_int q
theorem F9:OpR X (compareOp .Gt) (rI0 λi j=>.bl (decide (j<i))):=PP λ_ _ _ _ _ _ _ q=>gt_int q
theorem Rb:OpR X (compareOp .GtE) (rI0 λi j=>.bl (decide (j<=i))):=PP λ_ _ _ _ _ _ _ q=>ge_int q
theorem EA:OpR X (compareOp .Is) (λx y H Q=>y= .non/\Q (.bl (decide (x= .non))) H):=by
 intro pins s σ H x y v u Q I rx ry h
 obtain⟨rfl,q⟩:=h
 cases ry
 refine is_none_gen (X5 I q ?_)
 cases x<;> first
  | (cases rx;rfl)
  | (obtain⟨t,rfl⟩:=rx;rfl)
theorem Df:OpR X (compareOp .IsNot) (λx y H Q=>y= .non/\Q (.bl (!decide (x= .non))) H):=by
 intro pins s σ H x y v u Q I rx ry h
 obtain⟨rfl,q⟩:=h
 cases ry
 refine isnot_none_gen (X5 I q ?_)
 cases x<;> first
  | (cases rx;rfl)
  | (obtain⟨t,rfl⟩:=rx;rfl)
theorem OpR.or {f:Value->Value->Sem Value}{r r':R2}(h:OpR X f r)(h':OpR X f r'):OpR X f (λx y H Q=>r x y H Q∨r' x y H Q):=by
 intro pins s σ H x y v u Q I rx ry q
 rcases q with q |q
 ·exact h pins s σ H x y v u Q I rx ry q
 ·exact h' pins s σ H x y v u Q I rx ry q
theorem Xs (b:Expr){op:CmpOp}(h:op≠ .In:=by decide)(h2:op≠ .NotIn:=by decide):behindInMarks op b=false:=by
 have e1:(op==CmpOp.In)=false:=by cases op<;> first |rfl |exact absurd rfl h
 have e2:(op==CmpOp.NotIn)=false:=by cases op<;> first |rfl |exact absurd rfl h2
 cases b<;> simp[behindInMarks,e1,e2]
theorem X1 {op:CmpOp}{r:R2}(ho:OpR X (compareOp op) r)(ha:PE X a ta)(hb:PE X b tb)(hm:behindInMarks op b=false):PE X (.Compare a [op] [b] pos) (tOp r ta tb):=by
 intro pins s σ H Q I h
 exact wpAny_Compare1 (RE ha hb I h λv u s2 x y H2 I2 rx ry q=>ho pins s2 σ H2 x y v u Q I2 rx ry q) hm
noncomputable def Lc (t:TE):TT:=λσ H Q=>t σ H λx H'=>∃ k,x= .bl k/\Q k H'
theorem Xq {op:CmpOp}{r:R2}(ho:OpR X (compareOp op) r)(ha:PE X a ta)(hb:PE X b tb)(hm:behindInMarks op b=false):PT X (.Compare a [op] [b] pos) (Lc (tOp r ta tb)):=by
 intro pins s σ H Q I h
 refine wpAny_isTrue_Compare1 (thn (ha pins s σ H _ I h) λv s1 ⟨x,H1,I1,r1,q1⟩=>thn (hb pins s1 σ H1 _ I1 q1) λu s2 ⟨y,H2,I2,r2,q2⟩=>
  thn (ho pins s2 σ H2 x y v u _ I2 r1 r2 q2) λc s3 ⟨z,H3,I3,r3,k,e,q3⟩=>?_) hm
 subst e
 cases r3
 exact wpAny_truthy_bool ⟨H3,I3,q3⟩
noncomputable def Bx (r r':R2)(ta tb tc:TE):TE:=λσ H Q=>ta σ H λx H1=>tb σ H1 λy H2=>r x y H2 λz H3=>∃ k,z= .bl k/\
 (if k=true then tc σ H3 λw' H4=>r' y w' H4 Q else Q (.bl false) H3)
theorem Dv {op op':CmpOp}{r r':R2}(ho:OpR X (compareOp op) r)(ho':OpR X (compareOp op') r')(ha:PE X a ta)(hb:PE X b tb)(hc:PE X c tc)
  (hm:lastMarks [op,op'] [b,c]=false:=by with_unfolding_all rfl):PE X (.Compare a [op,op'] [b,c] pos) (Bx r r' ta tb tc):=by
 intro pins s σ H Q I h
 refine Compare_chain (thn (ha pins s σ H _ I h) λv s1 ⟨x,H1,I1,r1,q1⟩=>chain_link (thn (hb pins s1 σ H1 _ I1 q1) λu s2 ⟨y,H2,I2,r2,q2⟩=>
  thn (ho pins s2 σ H2 x y v u _ I2 r1 r2 q2) λd s3 ⟨z,H3,I3,r3,k,e,q3⟩=>?_)) hm
 subst e
 cases r3
 refine wpAny_truthy_bool ?_
 cases k with
 |false=>exact ite_ff ⟨.bl false,H3,I3,rfl,q3⟩
 |true=>exact ite_tt (chain_last (thn (hc pins s3 σ H3 _ I3 q3) λw' s4 r9=>by obtain⟨z',H4,I4,r4,q4⟩:=r9;exact ho' pins s4 σ H4 y z' u w' Q I4 r2 r4 q4))
theorem Ct {op op':CmpOp}{r r':R2}(ho:OpR X (compareOp op) r)(ho':OpR X (compareOp op') r')(ha:PE X a ta)(hb:PE X b tb)(hc:PE X c tc)
  (hm:lastMarks [op,op'] [b,c]=false:=by with_unfolding_all rfl):PT X (.Compare a [op,op'] [b,c] pos) (Lc (Bx r r' ta tb tc)):=by
 intro pins s σ H Q I h
 refine isTrue_chain (thn (ha pins s σ H _ I h) λv s1 ⟨x,H1,I1,r1,q1⟩=>test_link (thn (hb pins s1 σ H1 _ I1 q1) λu s2 ⟨y,H2,I2,r2,q2⟩=>
  thn (ho pins s2 σ H2 x y v u _ I2 r1 r2 q2) λd s3 ⟨z,H3,I3,r3,k,e,q3⟩=>?_)) hm
 subst e
 cases r3
 refine wpAny_truthy_bool ?_
 cases k with
 |false=>
  obtain⟨k',e',q'⟩:=q3
  cases e'
  exact ite_ff ⟨H3,I3,q'⟩
 |true=>
  refine ite_tt (test_last (thn (hc pins s3 σ H3 _ I3 q3) λw' s4 ⟨z',H4,I4,r4,q4⟩=>thn (ho' pins s4 σ H4 y z' u w' _ I4 r2 r4 q4) λd' s5 r9=>?_))
  obtain⟨z2,H5,I5,r5,k2,e2,q5⟩:=r9
  subst e2
  cases r5
  exact wpAny_truthy_bool ⟨H5,I5,q5⟩
theorem DI:(sizeLine:Nat)<2^63:=by rw[sizeLine_eq];decide
theorem Jk {x:V}{us:List Value}(r:XZ [x] us):∃u,us=[u]/\XW x u:=by
 cases r with
 |cons r1 r2=>cases r2;exact⟨_,rfl,r1⟩
theorem Po {x y:V}{us:List Value}(r:XZ [x,y] us):∃u w',us=[u,w']/\XW x u/\XW y w':=by
 cases r with
 |cons r1 r2=>
  cases r2 with
  |cons r3 r4=>cases r4;exact⟨_,_,rfl,r1,r3⟩
theorem HQ:Zc X (.builtin "abs") (λxs H Q=>∃ i,xs=[.int i]/\Q (.int (if i<0 then-i else i)) H):=by
 intro pins s σ H xs us Q I r h
 obtain⟨i,rfl,q⟩:=h
 obtain⟨u,rfl,t,rfl⟩:=Jk r
 exact call_abs_int λu tk=>⟨.int (if i<0 then-i else i),H,I.tok _,⟨_,rfl⟩,q⟩
theorem E7 (hc:X.calm=true):Zc X (.builtin "max") (λxs H Q=>∃ i j,xs=[.int i, .int j]/\Q (.int (if j > i then j else i)) H):=by
 intro pins s σ H xs us Q I r h
 obtain⟨i,j,rfl,q⟩:=h
 obtain⟨u,w',rfl,⟨t,rfl⟩,⟨t',rfl⟩⟩:=Po r
 refine max_two_ints (I.ok.hd hc) λh' tk k=>⟨_,H,I.kept k,?_,q⟩
 by_cases hj:j > i
 ·rw[if_pos hj,if_pos hj];exact⟨_,rfl⟩
 ·rw[if_neg hj,if_neg hj];exact⟨_,rfl⟩
theorem BQ (hc:X.calm=true):Zc X (.builtin "min") (λxs H Q=>∃ i j,xs=[.int i, .int j]/\Q (.int (if j<i then j else i)) H):=by
 intro pins s σ H xs us Q I r h
 obtain⟨i,j,rfl,q⟩:=h
 obtain⟨u,w',rfl,⟨t,rfl⟩,⟨t',rfl⟩⟩:=Po r
 refine min_two_ints (I.ok.hd hc) λh' tk k=>⟨_,H,I.kept k,?_,q⟩
 by_cases hj:j<i
 ·rw[if_pos hj,if_pos hj];exact⟨_,rfl⟩
 ·rw[if_neg hj,if_neg hj];exact⟨_,rfl⟩
theorem Qk:Zc X (.type "int") (λxs H Q=>(∃i,xs=[.int i]/\Q (.int i) H)∨∃k,xs=[.bl k]/\Q (.int (if k then 1 else 0)) H):=by
 intro pins s σ H xs us Q I r h
 rcases h with⟨i,rfl,q⟩ | ⟨k,rfl,q⟩
 ·obtain⟨u,rfl,t,rfl⟩:=Jk r
  exact call_int_int ⟨.int i,H,I,⟨_,rfl⟩,q⟩
 ·obtain⟨u,rfl,r1⟩:=Jk r
  cases r1
  exact call_int_bool ⟨.int (if k then 1 else 0),H,I.tok _,⟨_,rfl⟩,q⟩
end
structure ObjM (h:Heap)(x dx C:Addr)(mA:Str->Option Value):Prop where
 obj:h.get? x=some (PySem.W.instObj C dx)
 ns:h.Ns1 dx mA
 ne:dx≠x
theorem Hd {h:Heap}{dx:Addr}{mA:Str->Option Value}(n:h.Ns1 dx mA):∃od,h.get? dx=some od/\∀name,PySem.W.lookIn name od=some (mA name):=by
 obtain⟨o,es,ep,ho,hd,hk,_,hm⟩:=n
 refine⟨o,ho,λname=>?_⟩
 have e:=hm name
 unfold nsFind findBy at e
 rw[←Array.find?_toList] at e
 unfold PySem.W.lookIn
 rw[hd]
 dsimp only
 split
 ·rename_i y q
  rw[q] at e
  exact congrArg some e
 ·rename_i q
  rw[q] at e
  have a:es.toList.any (·.refKey)=false:=by
   rw[List.any_eq_false]
   intro y hy
   obtain⟨z,t,hkey⟩:=hk y (Array.mem_toList_iff.mp hy)
   simp[DictEntry.refKey,hkey]
  have a':¬es.toList.any (·.refKey)=true:=by rw[a];exact Bool.false_ne_true
  rw[if_neg a']
  exact congrArg some e
theorem ObjM.look {h:Heap}{x dx C:Addr}{mA:Str->Option Value}(I:ObjM h x dx C mA):∃od,PySem.W.InstAt h x (PySem.W.instObj C dx) C (some od)/\∀name,PySem.W.lookIn name od=some (mA name):=
 let ⟨od,ho,hl⟩:=Hd I.ns
 ⟨od,⟨I.obj,rfl,rfl,ho⟩,hl⟩
section
variable {prog:Program}{w:World}{A:Around}{E:Value->Shared->Prop}{s:Shared}{K:PySem.W.Frag}{x dx C f:Addr}{mA:Str->Option Value}{name:Str}{v:Value}
end
theorem Cr.some_of {v:V}{o:Option Value}(r:Cr (some v) o):∃u,o=some u/\XW v u:=by
 cases o with
 |none=>exact(show False from r).elim
 |some u=>exact⟨u,rfl,r⟩
section
variable {P:Program}{w:World}{H H':Hp}{h h':Heap}{a C dx:Addr}{fs fs':List (Str×V)}
theorem Nj (hok:HOk P w H h)(e:H a=some (.ins C dx fs)):∃mA,ObjM h a dx C mA/\(∀f,Cr (fs.lookup f) (mA f))/\PySem.Within mA (fs.map (·.1))/\fs.length<=1000/\H dx=some (.own a):=by
 obtain⟨d,z,ne,ob,mA,n,r,q⟩:=(show Yp P w H h a (.ins C dx fs) from hok a _ e)
 exact⟨mA,⟨ob,n,ne⟩,r,q,z,d⟩
end
structure Cls (K:PySem.W.Frag)(C:Addr):Prop where
 pg:PySem.W.plainGet K C Str.empty=true
 hd:PySem.W.hasDictIn K C=true
 po:PySem.W.plainOver K C=true
 sa:PySem.W.findIn K (.ref C) "__setattr__" =some (some (.builtin "object.__setattr__"))
theorem Cls.get {K:PySem.W.Frag}{C:Addr}(c:Cls K C)(f:Str):PySem.W.plainGet K C f=true:=c.pg
section
variable {X:Cx}{pins:List (Addr×Obj)}{σ:St}{H:Hp}{s:Shared}{a C dx:Addr}{fs:List (Str×V)}{f:Str}{v:V}{A:Around}{E:Value->Shared->Prop}
theorem Inv.made (I:Inv X pins σ H s):Inv X pins σ (upd (upd H s.heap.objs.size (.own (s.heap.objs.size+1))) (s.heap.objs.size+1) (.ins C s.heap.objs.size []))
  {s with heap:=(s.heap.push PySem.W.emptyDict).push (PySem.W.instObj C s.heap.objs.size)}:=by
 have e1:(s.heap.push PySem.W.emptyDict).get? s.heap.objs.size=some PySem.W.emptyDict:=Heap.get?_push_size s.heap rfl
 have e2:((s.heap.push PySem.W.emptyDict).push (PySem.W.instObj C s.heap.objs.size)).get? (s.heap.objs.size+1)=some (PySem.W.instObj C s.heap.objs.size):=by
  have:=Heap.get?_push_size (s.heap.push PySem.W.emptyDict) (o:=PySem.W.instObj C s.heap.objs.size) rfl
  rwa [Heap.size_push] at this
 have e3:(s.heap.push PySem.W.emptyDict).Ns s.heap.objs.size (λ_=>none):=⟨PySem.W.emptyDict, #[],_,e1,rfl,(λe he=>absurd he (by simp)),λ_=>rfl⟩
 have I1:=I.laid (a:=s.heap.objs.size) (o:=.own (s.heap.objs.size+1)) (h':=s.heap.push PySem.W.emptyDict) (t':=s.toks) (λb u q=>Heap.get?_push_of_some _ q) (Nat.le_refl _) ⟨_,e1⟩
 refine I1.laid (a:=s.heap.objs.size+1) (o:=.ins C s.heap.objs.size []) (t':=s.toks) (λb u q=>Heap.get?_push_of_some _ q) (Nat.le_of_eq (Heap.size_push _ _)) ?_
 have ne:s.heap.objs.size≠s.heap.objs.size+1:=Nat.ne_of_lt (Nat.lt_succ_self _)
 refine⟨by rw[XT ne,X9],Nat.zero_le _,ne,e2,λ_=>none,(Heap.Ns1.of_empty e3).at λo q=>Heap.get?_push_of_some _ q,λ_=>True.intro,λy hy=>absurd rfl hy⟩
end
section
variable {X:Cx}{o e value:Expr}{f:Str}{pos pos' tpos:Pos}{ta tv:TE}
end
section
variable {X:Cx}{pins:List (Addr×Obj)}{σ:St}{H:Hp}{s:Shared}{A:Around}{E:Value->Shared->Prop}{Q:Value->Shared->Prop}{c:Value}{b:Bool}
inductive TyOf (K:PySem.W.Frag)(H:Hp):V->Value->Prop where
 |non:TyOf K H .non (.type "NoneType")
 |bl (x:Bool):TyOf K H (.bl x) (.type "bool")
 |int (i:Int):TyOf K H (.int i) (.type "int")
 |str (x:Str):TyOf K H (.str x) (.type "str")
 |flt (x:UInt64):TyOf K H (.flt x) (.type "float")
 |lst {a:Addr}{xs:List V} (e:H a=some (.lst xs)):TyOf K H (.ref a) (.type "list")
 |frz {a:Addr}{o:Obj}{xs:List V} (e:H a=some (.frz o (.lst xs))):TyOf K H (.ref a) (.type "list")
 |tup {a:Addr}{xs:List V} (e:H a=some (.tup xs)):TyOf K H (.ref a) (.type "tuple")
 |dK {a:Addr}{kvs:List (Key×V)} (e:H a=some (.dK kvs)):TyOf K H (.ref a) (.type "dict")
 |dT {a:Addr}{kvs:List (List Key×V)} (e:H a=some (.dT kvs)):TyOf K H (.ref a) (.type "dict")
 |ins {a C dx:Addr}{fs:List (Str×V)} (e:H a=some (.ins C dx fs)) (cl:Cls K C) (ha:PySem.W.findIn K (.ref C) "__class__" =some (some (.builtin "object.__class__")))
   (hn:PySem.W.specialIn K (.builtin "object.__class__") "__get__" =some (some (.builtin "getset_descriptor.__get__"))) (htk:PySem.W.takesIn K (.builtin "object.__class__")=some true)
   (hm:PySem.W.mroIn K C (.type "object")=some true):TyOf K H (.ref a) (.ref C)
theorem B6 {x:V}{u t:Value}(I:Inv X pins σ H s)(rx:XW x u)(ty:TyOf X.K H x t)(e:PySem.W.kitOne X.K t c=some b)(h:∀tk,Q (.bool b) {s with toks:=tk}):
  wpAny (model X.prog X.w) A (call (.builtin "isinstance") [u,c]) Q E s:=by
 cases ty with
 |non=>cases(show u=Value.none from rx);exact PySem.W.kia_one PySem.W.kitx_none I.kIn True.intro e (λz=>nomatch z) h
 |bl y=>cases(show u=Value.bool y from rx);exact PySem.W.kia_one PySem.W.kitx_bool I.kIn True.intro e (λz=>nomatch z) h
 |int i=>obtain⟨t,q⟩:=(show ∃t,u=Value.int i t from rx);cases q;exact PySem.W.kia_one PySem.W.kitx_int I.kIn True.intro e (λz=>nomatch z) h
 |str y=>obtain⟨t,q⟩:=(show ∃t,u=Value.str y t from rx);cases q;exact PySem.W.kia_one PySem.W.kitx_str I.kIn True.intro e (λz=>nomatch z) h
 |flt y=>obtain⟨t,q⟩:=(show ∃t,u=Value.float y t from rx);cases q;exact PySem.W.kia_one PySem.W.kitx_float I.kIn True.intro e (λz=>nomatch z) h
 | @lst a xs ea=>
  cases(show u=Value.ref a from rx)
  obtain⟨_,_,n,_,h1⟩:=(show Yp X.prog X.w H s.heap a (.lst xs) from I.hok a _ ea)
  exact PySem.W.kia_one PySem.W.kitx_list I.kIn ⟨_,h1,rfl⟩ e (λz=>nomatch z) h
 | @frz a ob xs ea=>
  cases(show u=Value.ref a from rx)
  obtain⟨_,_,_,n,_,h1⟩:=(show Yp X.prog X.w H s.heap a (.frz ob (.lst xs)) from I.hok a _ ea)
  exact PySem.W.kia_one PySem.W.kitx_list I.kIn ⟨_,h1,rfl⟩ e (λz=>nomatch z) h
 | @tup a xs ea=>
  cases(show u=Value.ref a from rx)
  obtain⟨_,_,_,p⟩:=(show Yp X.prog X.w H s.heap a (.tup xs) from I.hok a _ ea)
  obtain⟨o,h1,h2,_⟩:=p
  exact PySem.W.kia_one PySem.W.kitx_tuple I.kIn ⟨o,h1,h2.1⟩ e (λz=>nomatch z) h
 | @dK a kvs ea=>
  cases(show u=Value.ref a from rx)
  obtain⟨_,_,vs,_,p⟩:=(show Yp X.prog X.w H s.heap a (.dK kvs) from I.hok a _ ea)
  obtain⟨o,es,ep,h1,h2,_⟩:=p
  exact PySem.W.kia_one PySem.W.kitx_dict I.kIn ⟨o,h1,h2.1⟩ e (λz=>nomatch z) h
 | @dT a kvs ea=>
  cases(show u=Value.ref a from rx)
  obtain⟨_,_,xs,_,o,es,ep,h1,h2,_⟩:=(show Yp X.prog X.w H s.heap a (.dT kvs) from I.hok a _ ea)
  exact PySem.W.kia_one PySem.W.kitx_dict I.kIn ⟨o,h1,h2.1⟩ e (λz=>nomatch z) h
 | @ins a C dx fs ea cl ha hn htk hm=>
  cases(show u=Value.ref a from rx)
  obtain⟨mA,O,_⟩:=Nj I.hok ea
  obtain⟨od,J,_⟩:=O.look
  exact PySem.W.kia_one (PySem.W.kitx_own (cl.get _) cl.hd ha hn htk hm) I.kIn J e (λz=>nomatch z) h
end
structure Room (k:Nat)(A:Around):Prop where
 hd:A.handled=none
 dp:A.depth+3*k+5<recursionLimit
 un:A.units+16*k+200<cLine
theorem Room.mono {j k:Nat}{A:Around}(r:Room k A)(h:j<=k):Room j A:=⟨r.hd,by have:=r.dp;omega,by have:=r.un;omega⟩
theorem Room.deeper {k:Nat}{A:Around}(r:Room (k+1) A)(env:Env):Room k (A.deeper env):=
 ⟨r.hd,by have:=r.dp;show A.depth+1+3*k+5<_;omega,by have:=r.un;show A.units+3+16*k+200<_;omega⟩
theorem Room.in1 {k:Nat}{A:Around}(r:Room (k+1) A):Room k A.in1:=
 ⟨r.hd,by have:=r.dp;show A.depth+3*k+5<_;omega,by have:=r.un;show A.units+1+16*k+200<_;omega⟩
theorem Room.depth {k:Nat}{A:Around}(r:Room k A):A.depth<recursionLimit:=by have:=r.dp;omega
theorem Room.units {k:Nat}{A:Around}(r:Room k A):A.units+64<cLine:=by have:=r.un;omega
noncomputable def Yq:TA:=λ_ H Q=>Q [] H
noncomputable def Xv (ta:TE)(tr:TA):TA:=λσ H Q=>ta σ H λx H1=>tr σ H1 λxs H2=>Q (x::xs) H2
section
variable {X:Cx}{e:Expr}{es:List Expr}{te:TE}{t:TA}{pos:Pos}
theorem Xd:PA X [] Yq:=λ_ _ _ _ H Q I h=>Calls.spliced_nil ⟨[],H,I, .nil,h⟩
theorem Xa (ha:PE X e te)(hr:PA X es t)(hs:starEach (e::es) X.env=(false,eval e X.env)::starEach es X.env:=by rfl):PA X (e::es) (Xv te t):=by
 intro pos pins s σ H Q I h
 rw[hs]
 show wpAny _ _ (spliced ((false,eval e X.env)::backTo pos (starEach es X.env))) _ _ s
 refine Calls.spliced_cons (thn (ha pins s σ H _ I h) λu s1 r9=>?_)
 obtain⟨x,H1,I1,r1,q1⟩:=r9
 exact thn (hr pos pins s1 σ H1 _ I1 q1) λus s2 r9=>by obtain⟨xs,H2,I2,r2,q2⟩:=r9;exact⟨x::xs,H2,I2, .cons r1 r2,q2⟩
noncomputable def N9 (t:TA):TE:=λσ H Q=>t σ H λxs H1=>xs.length<=sizeLine/\∀p,H1 p=none->Q (.ref p) (upd H1 p (.tup xs))
noncomputable def HK (t:TA):TE:=λσ H Q=>t σ H λxs H1=>xs.length<=sizeLine/\∀p,H1 p=none->Q (.ref p) (upd H1 p (.lst xs))
theorem XR {x1}(h:PA X es t):PE X (.Tuple es x1 pos) (N9 t):=by
 intro pins s σ H Q I hq
 refine wpAny_Tuple_spliced (thn (h pos pins s σ H _ I hq) λus s1 ⟨xs,H1,I1,r,z,q⟩=>⟨by rw[←r.length];exact z,?_⟩)
 have hf:H1 s1.heap.objs.size=none:=I1.hok.fresh (Nat.le_refl _)
 refine⟨.ref s1.heap.objs.size,upd H1 s1.heap.objs.size (.tup xs),I1.laid (t':=s1.toks) (λb u e=>Heap.get?_push_of_some _ e) (Nat.le_refl _) ?_,rfl,q _ hf⟩
 exact⟨z,us,r,⟨_,Heap.get?_push_size _ rfl,⟨rfl,rfl⟩,_,rfl⟩⟩
theorem XF (h:PA X es t):PE X (.List es pos) (HK t):=by
 intro pins s σ H Q I hq
 refine wpAny_List_spliced (thn (h pos pins s σ H _ I hq) λus s1 ⟨xs,H1,I1,r,z,q⟩=>⟨by rw[←r.length];exact z,?_⟩)
 have hf:H1 s1.heap.objs.size=none:=I1.hok.fresh (Nat.le_refl _)
 refine⟨.ref s1.heap.objs.size,upd H1 s1.heap.objs.size (.lst xs),I1.laid (t':=s1.toks) (λb u e=>Heap.get?_push_of_some _ e) (Nat.le_refl _) ?_,rfl,q _ hf⟩
 exact⟨z,us,0,r,Heap.get?_push_size _ rfl⟩
end
noncomputable abbrev Sp:=List V->Hp->VK->XK->Prop
noncomputable abbrev CXT:=List Env->Hp->Shared->XK->Value->Shared->Prop
structure Env0 (P:Program)(w:World)(K:PySem.W.Frag)(mg:Str->Option Value)(base:Heap)(A:Around)(outer:List Env)(s:Shared)(H:Hp):Prop where
 frames:A.frames=some outer
 mod:Mod K mg base
 bs:∀b o,base.get? b=some o->s.heap.get? b=some o/\H b=none
 bsz:base.objs.size<=s.heap.objs.size
 funs:s.heap.FunFrames base outer
 frf:∀b∈frs outer,H b=none
 hok:HOk P w H s.heap
 bare:AllBare s.gens
noncomputable def CE (outer:List Env)(P:Program)(w:World)(H:Hp)(s:Shared)(Q:VK)(u:Value)(s':Shared):Prop:=
 ∃v H',s'.os=s.os/\AllBare s'.gens/\Un (frs outer) [] H H' s.heap s'.heap/\HOk P w H' s'.heap/\XW v u/\Q v H'
noncomputable def CR (CX:CXT)(outer:List Env)(P:Program)(w:World)(H:Hp)(s:Shared)(Q:VK)(E:XK)(r:Result)(s':Shared):Prop:=
 match r with
 | .ok (.ret u)=>CE outer P w H s Q u s'
 | .ok _=>False
 | .error e=>CX outer H s E e s'
structure FnOk (P:Program)(w:World)(K:PySem.W.Frag)(mg:Str->Option Value)(base:Heap)(CX:CXT)(k:Nat)(f:Addr)(fd:FuncData)(ps:List Str)(sp:Sp):Prop where
 len:∀vs H Q E,sp vs H Q E->vs.length=ps.length
 run:∀(A:Around) (outer:List Env) (s:Shared) (H:Hp) (args:Args) (us:List Value) (vs:List V) (Q:VK) (E:XK),Room k A->Env0 P w K mg base A outer s H->BindsTo s fd args (ps.zip us)->XZ vs us->sp vs H Q E->
  codeAny (model P w) A (.call (.ref f) args) (CR CX outer P w H s Q E) s
theorem FnOk.mono {P:Program}{w:World}{K:PySem.W.Frag}{mg:Str->Option Value}{base:Heap}{CX:CXT}{j k:Nat}{f:Addr}{fd:FuncData}{ps:List Str}{sp:Sp}(F:FnOk P w K mg base CX j f fd ps sp)(h:j<=k):
  FnOk P w K mg base CX k f fd ps sp:=⟨F.len,λA outer s H args us vs Q E hr=>F.run A outer s H args us vs Q E (hr.mono h)⟩
theorem FnOk.imp {P:Program}{w:World}{K:PySem.W.Frag}{mg:Str->Option Value}{base:Heap}{CX:CXT}{k:Nat}{f:Addr}{fd:FuncData}{ps:List Str}{sp sp':Sp}(F:FnOk P w K mg base CX k f fd ps sp)
  (h:∀vs H Q E,sp' vs H Q E->sp vs H Q E):FnOk P w K mg base CX k f fd ps sp':=
 ⟨λvs H Q E q=>F.len vs H Q E (h _ _ _ _ q),λA outer s H args us vs Q E hr he hb hv hs=>F.run A outer s H args us vs Q E hr he hb hv (h _ _ _ _ hs)⟩
theorem Env0.in1 {P:Program}{w:World}{K:PySem.W.Frag}{mg:Str->Option Value}{base:Heap}{A:Around}{outer:List Env}{s:Shared}{H:Hp}(e:Env0 P w K mg base A outer s H):
  Env0 P w K mg base A.in1 outer s H:=⟨e.frames,e.mod,e.bs,e.bsz,e.funs,e.frf,e.hok,e.bare⟩
section
variable {X:Cx}{pins:List (Addr×Obj)}{σ:St}{H:Hp}{s s':Shared}
theorem Inv.env0 (I:Inv X pins σ H s):Env0 X.prog X.w X.K X.mg X.base X.A X.stack s H:=
 ⟨I.ok.frames,I.ok.mod,I.bs,Nat.le_trans I.ok.bsz I.sz,I.stack,I.stkFree,I.hok,I.bare⟩
theorem Inv.after {Q:VK}{u:Value}(I:Inv X pins σ H s)(h:CE X.stack X.prog X.w H s Q u s'):EP X pins σ Q u s':=by
 obtain⟨v,H',os,bare,un,hok,r,q⟩:=h
 obtain⟨hh,g,d,t,os'⟩:=s'
 obtain rfl:os'=s.os:=os
 exact⟨v,H',I.call (h':=hh) (g':=g) (d':=d) (t':=t) (ch:=[]) un hok bare (λb z=>absurd z (by simp)),r,q⟩
end
noncomputable def Q0 (sp:Sp)(dvs:List V)(E:XK)(t:TA):TE:=λσ H Q=>t σ H λvs H1=>sp (vs++dvs) H1 Q E
noncomputable def Fk (K:PySem.W.Frag)(fd:FuncData)(ps:List Str)(ds:List Value):Prop:=
 ∀(s:Shared) (us:List Value),K.In s.heap->(us++ds).length=ps.length->BindsTo s fd ⟨us,[]⟩ (ps.zip (us++ds))
theorem Fk.all {K:PySem.W.Frag}{fd:FuncData}{ps:List Str}(h:∀us:List Value,us.length=ps.length->bindArgs fd ⟨us,[]⟩=pure (ps.zip us)):Fk K fd ps []:=λs us _ hl=>by
 rw[List.append_nil] at hl⊢
 exact .of_eq (h us hl)
noncomputable def Ht (CX:CXT)(X:Cx)(E:XK):Prop:=∀ (pins:List (Addr×Obj)) (σ:St) (H:Hp) (s:Shared) (e:Value) (s':Shared),Inv X pins σ H s->CX X.stack H s E e s'->X.xe e s'
section
variable {X:Cx}{CX:CXT}{k:Nat}{f C:Addr}{fd:FuncData}{ps:List Str}{sp:Sp}{dvs:List V}{ds:List Value}{E:XK}{x m:Str}{p pos apos:Pos}{e o:Expr}{es:List Expr}{ta:TE}{t:TA}
theorem OF {pins:List (Addr×Obj)}{σ:St}{H:Hp}{s:Shared}{Q:VK}{us:List Value}{vs:List V}(F:FnOk X.prog X.w X.K X.mg X.base CX k f fd ps sp)(hr:Room k X.A)(hb:Fk X.K fd ps ds)(hd:XZ dvs ds)(hx:Ht CX X E)
  (I:Inv X pins σ H s)(r:XZ vs us)(h:sp (vs++dvs) H Q E):wpAny (model X.prog X.w) X.A (call (.ref f) us) (EP X pins σ Q) X.xe s:=by
 have r2:XZ (vs++dvs) (us++ds):=r.append hd
 have hl:(us++ds).length=ps.length:=by rw[←r2.length];exact F.len _ _ _ _ h
 refine wpAny_call (codeAny_mono (F.run X.A X.stack s H ⟨us,[]⟩ (us++ds) (vs++dvs) Q E hr I.env0 (hb s us I.kIn hl) r2 h) λr s' hq=>?_)
 cases r with
 |error e=>exact hx pins σ H s e s' I hq
 |ok fl=>
  cases fl with
  |ret u=>exact I.after hq
  |next=>exact False.elim hq
  |brk=>exact False.elim hq
  |cont=>exact False.elim hq
theorem MX (F:FnOk X.prog X.w X.K X.mg X.base CX k f fd ps sp)(hr:Room k X.A)(hg:Gl X x)(hm:X.mg x=some (.ref f))(hk:PySem.W.keepIn X.K (.ref f)=true)(hb:Fk X.K fd ps ds)(hd:XZ dvs ds)(hx:Ht CX X E)
  (ha:PA X (e::es) t)(hdb:(x==("__debug__":Str))=false:=by decide)(he:starEach (e::es) X.env=(false,eval e X.env)::starEach es X.env:=by rfl)(hpl:(backTo pos (starEach es X.env)).any (·.1)=false:=by rfl):
  PE X (.Call (.Name x p) (e::es) [] pos) (Q0 sp dvs E t):=by
 intro pins s σ H Q I h
 refine wpAny_Call_Name_kw (Hx I hg hm ?_ hdb)
 refine PySem.W.callWith_K (h₀:=X.base) I.ok.mod.kin hk (thn (ha pos pins s σ H _ I h) λus s1 ⟨vs,H1,I1,r,q⟩=>⟨I1.kIn,?_⟩) he hpl
 exact OF F hr hb hd hx I1 r q
end
section
variable {X:Cx}{CX:CXT}{k:Nat}{f C:Addr}{fd:FuncData}{ps ks:List Str}{sp:Sp}{E:XK}{x m:Str}{p pos apos kpos:Pos}{e o:Expr}{es:List Expr}{kws:List Keyword}{te ta:TE}{t tk:TA}{nm:Option Str}
variable {g:List Value->List Value->List Value}{gV:List V->List V->List V}
end
structure FnScope (N P:List Str)(sc:Scope):Prop where
 kind:sc.kind= .function
 co:sc.isCoroutine=false
 gen:sc.isGenerator=false
 nd:N.Nodup
 pre:N.take P.length=P
 par:∀x∈P,sc.names.lookup x=some .local∨sc.names.lookup x=some .cell
 nofree:∀y∈sc.names,y.2≠ .free
theorem GK {kindOf:Str->Option NameKind}{x:Str}:∀{binds:List (Str×Value)}{m:Str->Option Value},(∀v,(x,v)∉binds)->bindL kindOf binds m x=m x
 | [],_,_=>rfl
 | (n,v)::r,m,h=>by
  unfold bindL
  rw[GK λw hw=>h w (List.mem_cons_of_mem _ hw)]
  split
  ·have:x≠n:=by rintro rfl;exact h v List.mem_cons_self
   simp[this]
  ·rfl
theorem GL {kindOf:Str->Option NameKind}{x:Str}:∀{binds:List (Str×Value)}{m:Str->Option Value},(∀v,(x,v)∉binds)->bindC kindOf binds m x=m x
 | [],_,_=>rfl
 | (n,v)::r,m,h=>by
  unfold bindC
  rw[GL λw hw=>h w (List.mem_cons_of_mem _ hw)]
  split
  ·rfl
  ·have:x≠n:=by rintro rfl;exact h v List.mem_cons_self
   simp[this]
theorem G1 {kindOf:Str->Option NameKind}{x:Str}{v:Value}:∀{P:List Str}{vs:List Value}{i:Nat}{m:Str->Option Value},P.Nodup->P[i]?=some x->vs[i]?=some v->kindOf x=some .local->
  bindL kindOf (P.zip vs) m x=some v
 | [],_,_,_,_,h,_,_=>by simp at h
 |_::_,[],_,_,_,_,h,_=>by simp at h
 |p::P,w::vs,0,m,nd,h1,h2,hk=>by
  simp at h1 h2;subst h1;subst h2
  show bindL kindOf ((p,w)::P.zip vs) m p=_
  unfold bindL
  rw[GK λv hv=>(List.nodup_cons.mp nd).1 (List.of_mem_zip hv).1,if_pos hk]
  simp
 |p::P,w::vs,i+1,m,nd,h1,h2,hk=>by
  show bindL kindOf ((p,w)::P.zip vs) m x=_
  unfold bindL
  exact G1 (i:=i) (List.nodup_cons.mp nd).2 (by simpa using h1) (by simpa using h2) hk
theorem G9 {kindOf:Str->Option NameKind}{x:Str}{v:Value}:∀{P:List Str}{vs:List Value}{i:Nat}{m:Str->Option Value},P.Nodup->P[i]?=some x->vs[i]?=some v->kindOf x≠some .local->
  bindC kindOf (P.zip vs) m x=some v
 | [],_,_,_,_,h,_,_=>by simp at h
 |_::_,[],_,_,_,_,h,_=>by simp at h
 |p::P,w::vs,0,m,nd,h1,h2,hk=>by
  simp at h1 h2;subst h1;subst h2
  show bindC kindOf ((p,w)::P.zip vs) m p=_
  unfold bindC
  rw[GL λv hv=>(List.nodup_cons.mp nd).1 (List.of_mem_zip hv).1,if_neg hk]
  simp
 |p::P,w::vs,i+1,m,nd,h1,h2,hk=>by
  show bindC kindOf ((p,w)::P.zip vs) m x=_
  unfold bindC
  exact G9 (i:=i) (List.nodup_cons.mp nd).2 (by simpa using h1) (by simpa using h2) hk
noncomputable def Uz (N:List Str)(vs:List V):St:=vs.map some++List.replicate (N.length-vs.length) none
noncomputable def Bs (CX:CXT)(P:Program)(w:World)(K:PySem.W.Frag)(mg:Str->Option Value)(base:Heap)(N:List Str)(qual:Str)(scope:Scope)(f:Addr)(cd:Value)(A:Around)(outer:List Env)(s:Shared)(H:Hp)(E:XK):Cx where
 prog:=P
 w:=w
 K:=K
 mg:=mg
 base:=base
 A:=A.deeper (envOfC qual scope s.heap.objs.size f cd)
 N:=N
 s₀:=s
 H₀:=H
 env:=envOfC qual scope s.heap.objs.size f cd
 outer:=outer
 stack:=envOfC qual scope s.heap.objs.size f cd::outer
 ex:=[]
 calm:=true
 fn:=λ_=>true
 pn:=[]
 xe:=λe s'=>wpAny (model P w) (A.deeper (envOfC qual scope s.heap.objs.size f cd)) (leaving (envOfC qual scope s.heap.objs.size f cd) e) (λ_ s''=>CX outer H s E e s'') (λe' s''=>CX outer H s E e' s'') s'
theorem Ci {sc:Scope}{n:Nat}{x:Str}(h:sc.names.lookup x=some .cell):∃c,(cellsFrom n sc.names []).lookup x=some c:=by
 have q:=PySem.W.cellsFrom_some sc.names n [] (.inl h)
 exact Option.isSome_iff_exists.mp q
theorem E4 {CX:CXT}{P:Program}{w:World}{K:PySem.W.Frag}{mg:Str->Option Value}{base:Heap}{N ps:List Str}{qual:Str}{scope:Scope}{f:Addr}{cd:Value}{A:Around}{outer:List Env}{s s1:Shared}{H:Hp}{E:XK}{us:List Value}{vs:List V}
  (S:FnScope N ps scope)(hd:A.handled=none)(e0:Env0 P w K mg base A outer s H)(hl:vs.length=ps.length)(r:XZ vs us)
  (x:InCallC s s.heap.objs.size (bindL (envOfC qual scope s.heap.objs.size f cd).kindOf (ps.zip us) λ_=>none) (cellsFrom (s.heap.objs.size+1) scope.names []) (bindC (envOfC qual scope s.heap.objs.size f cd).kindOf (ps.zip us) λ_=>none) s1):
  Inv (Bs CX P w K mg base N qual scope f cd A outer s H E) [] (Uz N vs) H s1:=by
 have hpl:ps.length<=N.length:=by have:=congrArg List.length S.pre;rw[List.length_take] at this;omega
 obtain⟨h1,tk,rfl,hk⟩:=x.done
 have noA:∀b:Addr,b∉(Bs CX P w K mg base N qual scope f cd A outer s H E).ex:=λb z=>absurd (show b∈([]:List Addr) from z) (by simp)
 refine⟨⟨e0.mod,S.kind,rfl,rfl,Nat.le_refl _,λy z c h1 h2=>?_,λy hy=>?_,λy c _ h=>?_,λ_=>hd,Around.frames_deeper e0.frames, .inr ⟨rfl,rfl⟩,λb z=>absurd z (noA b),e0.bs,e0.bsz,λb _ _=>noA b,λb z=>absurd z (noA b),e0.funs,e0.frf⟩,
  rfl,e0.bare,Un.kept hk,⟨_,x.toInCall.ns,λi y v h1 h2 h3=>?_⟩,λy c h=>⟨_,x.cell y c h⟩,e0.hok.fresh (Nat.le_refl _),λy c h=>?_,λp hp=>absurd (show p∈([]:List (Addr×Obj)) from hp) (by simp),e0.hok.kept hk,?_⟩
 ·exact name_of_addr x.apart (PySem.mem_of_lookup h1) (PySem.mem_of_lookup h2)
 ·have hy:scope.names.lookup y=some .cell∨scope.names.lookup y=some .free:=hy
  rcases hy with hy |hy
  ·exact Ci hy
  ·exact absurd rfl (S.nofree _ (PySem.mem_of_lookup hy))
 ·exact Nat.le_of_lt (x.above y c (PySem.mem_of_lookup h))
 ·have hi:i<vs.length:=by
   unfold Uz at h2
   by_cases hi:i<vs.length
   ·exact hi
   ·rw[List.getElem?_append_right (by simpa using hi)] at h2
    rw[List.getElem?_replicate] at h2
    split at h2<;> cases h2
  have ha:vs[i]?=some v:=by
   unfold Uz at h2
   rw[List.getElem?_append_left (by simpa using hi),List.getElem?_map] at h2
   cases e:vs[i]? with
   |none=>rw[e] at h2;cases h2
   |some a=>rw[e] at h2;cases h2;rfl
  obtain⟨u,hu,rv⟩:=r.get ha
  have hp:ps[i]?=some y:=by
   rw[←S.pre,List.getElem?_take_of_lt (by omega)];exact h1
  have ndP:ps.Nodup:=by rw[←S.pre];exact S.nd.sublist (List.take_sublist _ _)
  refine⟨u,rv,?_⟩
  rcases S.par y (List.mem_of_getElem? hp) with k |k
  ·exact .inl ⟨k,G1 ndP hp hu k⟩
  ·obtain⟨c,e⟩:=Ci (n:=s.heap.objs.size+1) k
   refine .inr ⟨.inl k,c,e,?_⟩
   have q:=x.cell y c e
   rw[G9 ndP hp hu (by show scope.names.lookup y≠_;rw[k];decide)] at q
   exact q
 ·exact e0.hok.fresh (Nat.le_of_lt (x.above y c (PySem.mem_of_lookup h)))
 ·unfold Uz
  show _=N.length
  rw[List.length_append,List.length_map,List.length_replicate]
  omega
theorem Rr {CX:CXT}{P:Program}{w:World}{K:PySem.W.Frag}{mg:Str->Option Value}{base:Heap}{k:Nat}{f:Addr}{name qual:Str}{params:Arguments}{body:List Stmt}{scope:Scope}{dV kV doc pm cdv ct oc:Value}{an od:Option Addr}
  {osl:Array (Option Value)}{N ps:List Str}{sp:Sp}(lk:K.lookup f=some ⟨oc,od, .func (PySem.W.fnOf name qual params body scope dV kV doc pm an cdv ct),osl⟩)(hcd:PySem.W.codeIn K cdv qual=true)(S:FnScope N ps scope)
  (len:∀vs H Q E,sp vs H Q E->vs.length=ps.length)
  (hbody:∀(A:Around) (outer:List Env) (s:Shared) (H:Hp) (vs:List V) (Q:VK) (E:XK),Room k (A.deeper (envOfC qual scope s.heap.objs.size f cdv))->sp vs H Q E->
   ∃t,PSs (Bs CX P w K mg base N qual scope f cdv A outer s H E) body t/\t {nx:=λ_ H'=>Q .non H',rt:=Q} (Uz N vs) H):
  FnOk P w K mg base CX (k+1) f (PySem.W.fnOf name qual params body scope dV kV doc pm an cdv ct) ps sp:=by
 refine⟨len,λA outer s H args us vs Q E hr e0 hb r hsp=>?_⟩
 have hl:=len _ _ _ _ hsp
 have KX:K.In s.heap:=e0.mod.kin.keeps λb o e=>(e0.bs b o e).1
 have lim:s.heap.NoLimit:=e0.mod.nolimit.keeps λb o e=>(e0.bs b o e).1
 have hkind:∀y∈ps.zip us,scope.names.lookup y.1=some .local∨(scope.names.lookup y.1=some .cell/\((cellsFrom (s.heap.objs.size+1) scope.names []).lookup y.1).isSome=true):=λ⟨n,v⟩ hy=>by
  rcases S.par n (List.of_mem_zip hy).1 with q |q
  ·exact .inl q
  ·exact .inr ⟨q,PySem.W.cellsFrom_some _ _ _ (.inl q)⟩
 refine codeAny_call_function hr.depth (KX _ _ lk) rfl S.co S.gen rfl (PySem.W.codeRec_of KX hcd) (hb _ _ _ _ ?_)
 refine wpAny_newFunctionEnv_cells S.kind hkind λenv he s1 x=>?_
 subst he
 refine⟨lim.keeps x.toInCall.keep,codeAny_func ?_⟩
 obtain⟨t,ht,hq⟩:=hbody A outer s H vs Q E (hr.deeper _) hsp
 have I:Inv (Bs CX P w K mg base N qual scope f cdv A outer s H E) [] (Uz N vs) H s1:=E4 S hr.hd e0 hl r x
 refine wpAny_mono (ht [] s1 (Uz N vs) H _ I hq) (λfl s' hs=>?_) λe s' hs=>hs
 have fin:∀{σ':St}{H':Hp}{v:V}{u:Value},Inv (Bs CX P w K mg base N qual scope f cdv A outer s H E) [] σ' H' s'->XW v u->Q v H'->CE outer P w H s Q u s':=
  fun {σ' H' v u} J rv q=>⟨v,H',J.os,J.bare,J.base,J.hok,rv,q⟩
 cases fl with
 |ret u=>
  obtain⟨v,σ',H',J,rv,q⟩:=hs
  exact fin J rv q
 |next=>
  obtain⟨σ',H',J,q⟩:=hs
  exact fin (v:=V.non) (u:=Value.none) J rfl q
 |brk=>
  obtain⟨_,_,_,q⟩:=hs
  exact False.elim q
 |cont=>
  obtain⟨_,_,_,q⟩:=hs
  exact False.elim q
section
variable {X:Cx}{x:Str}{p pos:Pos}{e:Expr}{es:List Expr}{t:TA}{id T:String}{r:List V->Hp->VK->Prop}
noncomputable def tCB (r:List V->Hp->VK->Prop)(t:TA):TE:=λσ H Q=>t σ H λvs H1=>r vs H1 Q
theorem Xm (hc:Zc X (.builtin id) r)(hg:Gl X x)(hm:X.mg x=none)(hv:bootBuiltins x=some (.builtin id))(ha:PA X (e::es) t)(hn:x≠ "__name__":=by decide)(hdb:(x==("__debug__":Str))=false:=by decide)
  (he:starEach (e::es) X.env=(false,eval e X.env)::starEach es X.env:=by rfl)(hpl:(backTo pos (starEach es X.env)).any (·.1)=false:=by rfl):PE X (.Call (.Name x p) (e::es) [] pos) (tCB r t):=by
 intro pins s σ H Q I h
 refine wpAny_Call_Name_kw (Uk I hg hm hv ?_ hn hdb)
 exact PyProof.Rows.callWith_builtin1 (thn (ha pos pins s σ H _ I h) λus s1 r9=>by obtain⟨vs,H1,I1,r1,q1⟩:=r9;exact hc pins s1 σ H1 vs us Q I1 r1 q1) he hpl
theorem XL (hc:Zc X (.type T) r)(hg:Gl X x)(hm:X.mg x=none)(hv:bootBuiltins x=some (.type T))(ha:PA X (e::es) t)(hn:x≠ "__name__":=by decide)(hdb:(x==("__debug__":Str))=false:=by decide)
  (he:starEach (e::es) X.env=(false,eval e X.env)::starEach es X.env:=by rfl)(hpl:(backTo pos (starEach es X.env)).any (·.1)=false:=by rfl):PE X (.Call (.Name x p) (e::es) [] pos) (tCB r t):=by
 intro pins s σ H Q I h
 refine wpAny_Call_Name_kw (Uk I hg hm hv ?_ hn hdb)
 exact PyProof.Rows.callWith_type1 (thn (ha pos pins s σ H _ I h) λus s1 r9=>by obtain⟨vs,H1,I1,r1,q1⟩:=r9;exact hc pins s1 σ H1 vs us Q I1 r1 q1) he hpl
end
end L2
namespace HT
open PySem PyProof.Rows
section
open PySem.SeqAt
open PySem.AutoSeq1 (wpAny_loadPart')
open PySem.MeetsSeq PySem.MeetsSeq2 PySem.MeetsSeq3
end
section
variable {prog:Program}{w:World}{A:Around}{E:Value->Shared->Prop}{s:Shared}
theorem cat_tup {t b:Addr}{vs ws:List Value}{Q:Value->Shared->Prop}(ht:IsTup s.heap t vs.toArray)(hb:IsTup s.heap b ws.toArray)(hv:vs≠ [])
  (h1:ws=[]->Q (.ref t) s)(h2:ws≠ []->Q (.ref s.heap.objs.size) {s with heap:=s.heap.push {cls:=.type "tuple",data:=.seq (vs++ws).toArray}})
  (hsz:vs.length+ws.length<=sizeLine):wpAny (model prog w) A (binaryOp .Add (.ref t) (.ref b)) Q E s:=by
 obtain⟨⟨cls,dd,data,sl⟩,ho,hc,n,hd⟩:=id ht
 obtain⟨⟨cls2,dd2,data2,sl2⟩,ho2,hc2,n2,hd2⟩:=id hb
 simp only at hc hd hc2 hd2
 subst hc hd hc2 hd2
 have e:vs.toArray++ws.toArray=(vs++ws).toArray:=by simp
 by_cases hw:ws=[]
 ·exact concat_meets ⟨_,ho,rfl⟩ ⟨_,ho2,rfl⟩ noFill_tuple_add seq_tuple_add PySem.F.slot_tuple_add PySem.F.entry_tuple_add (PySem.F.args_tuple_add_2 _ _)
   (tuple_addW1 t b vs.toArray ws.toArray n n2 dd dd2 sl sl2 (by simpa using hv) (by simp[hw])) ⟨ho,ho2,h1 hw⟩
 ·refine concat_meets ⟨_,ho,rfl⟩ ⟨_,ho2,rfl⟩ noFill_tuple_add seq_tuple_add PySem.F.slot_tuple_add PySem.F.entry_tuple_add (PySem.F.args_tuple_add_2 _ _)
   (tuple_addW2 t b vs.toArray ws.toArray n n2 dd dd2 sl sl2 (by simpa using hv) (by simpa using hw) (by rw[List.size_toArray,List.size_toArray];exact hsz)) ⟨ho,ho2,?_⟩
  rw[e]
  exact h2 hw
noncomputable def sIx (n d:Nat):Option Int->Nat
 |none=>d
 |some v=>if v<0 then(v+(n:Int)).toNat else min v.toNat n
theorem sIx_none (n d:Nat):sIx n d none=d:=rfl
theorem sIx_nat (n d k:Nat):sIx n d (some (k:Int))=min k n:=by
 show(if(k:Int)<0 then((k:Int)+(n:Int)).toNat else min (k:Int).toNat n)=min k n
 rw[if_neg (by omega),Int.toNat_natCast]
theorem sIx_le (n d:Nat)(hd:d<=n)(o:Option Int):sIx n d o<=n:=by
 cases o with
 |none=>exact hd
 |some v=>
  show(if v<0 then(v+(n:Int)).toNat else min v.toNat n)<=n
  by_cases hv:v<0
  ·rw[if_pos hv];omega
  ·rw[if_neg hv];exact Nat.min_le_right _ _
theorem HG (v:Int)(n d:Nat):(if v<0 then max (v+(n:Int)) 0 else min v (n:Int))=((sIx n d (some v):Nat):Int):=by
 show(if v<0 then max (v+(n:Int)) 0 else min v (n:Int))=(((if v<0 then(v+(n:Int)).toNat else min v.toNat n):Nat):Int)
 by_cases hv:v<0
 ·simp only[if_pos hv];omega
 ·simp only[if_neg hv];omega
theorem CC (lo hi:Option Int)(n:Nat):Builtin.Slice.sliceAdjust lo hi 1 (n:Int)=(((sIx n 0 lo:Nat):Int),((sIx n n hi:Nat):Int)):=by
 have h1:¬((1:Int)<0):=by omega
 unfold Builtin.Slice.sliceAdjust
 simp only[h1,if_false]
 refine Prod.ext ?_ ?_
 ·cases lo with
  |none=>rfl
  |some v=>exact HG v n 0
 ·cases hi with
  |none=>rfl
  |some v=>exact HG v n n
theorem Bh (i j:Nat):Builtin.Slice.slicePlaces (i:Int) (j:Int) 1=j-i:=by
 unfold Builtin.Slice.slicePlaces
 have h1:(1:Int) > 0:=by omega
 simp only[h1,if_true,Int.ediv_one]
 split<;> omega
theorem Kl {v:Value}{o:Option Int}{Q:Option Int->Shared->Prop}(p:IsPart v o)(h:Q o s):wpAny (model prog w) A (Builtin.Slice.slicePartIndex v) Q E s:=by
 cases p with
 |none=>exact slicePart_none h
 |int i t=>exact slicePart_int h
theorem Vv {sl:Addr}{vl vu:Value}{lo hi:Option Int}{n:Nat}{Q:Int×Int×Nat->Shared->Prop}(hs:s.heap.IsSliceOf sl vl vu .none)(pl:IsPart vl lo)(pu:IsPart vu hi)
  (h:Q (((sIx n 0 lo:Nat):Int),1,sIx n n hi-sIx n 0 lo) s):wpAny (model prog w) A (Builtin.Slice.sliceApplied (.ref sl) (pure (n:Int))) Q E s:=by
 obtain⟨os,hos,hcs,hds⟩:=id hs
 unfold Builtin.Slice.sliceApplied Builtin.Slice.sliceFields
 refine wpAny_bind (wpAny_bind (wpAny_field hos hds (x:=vl) rfl (wpAny_bind (wpAny_field hos hds (x:=vu) rfl (wpAny_bind (wpAny_field hos hds (x:=.none) rfl (wpAny_pure ?_)))))))
 refine wpAny_bind (slicePart_none ?_)
 show wpAny _ _ (if((1:Int)==0)=true then _ else _) _ _ s
 rw[if_neg (by decide)]
 refine wpAny_bind (Kl pl (wpAny_bind (Kl pu (wpAny_bind (wpAny_pure ?_)))))
 show wpAny _ _ (match Builtin.Slice.sliceAdjust lo hi 1 (n:Int) with | (lo,hi)=>pure (lo,(1:Int),Builtin.Slice.slicePlaces lo hi 1)) _ _ s
 rw[CC lo hi n]
 show wpAny _ _ (pure (((sIx n 0 lo:Nat):Int),(1:Int),Builtin.Slice.slicePlaces ((sIx n 0 lo:Nat):Int) ((sIx n n hi:Nat):Int) 1)) _ _ s
 rw[Bh]
 exact wpAny_pure h
theorem IC (xs:Array Value)(i k:Nat):((List.range k).filterMap λ(m:Nat)=>xs[((i:Int)+(m:Int)*1).toNat]?).toArray=((xs.toList.drop i).take k).toArray:=by
 have e:(λ(m:Nat)=>xs[((i:Int)+(m:Int)*1).toNat]?)=λm=>xs[i+m]?:=by
  funext m
  have:((i:Int)+(m:Int)*1).toNat=i+m:=by omega
  rw[this]
 rw[e]
 have:=pick_run xs i k
 rw[List.filterMap_map] at this
 have e2:((λx=>xs[x]?)∘λx=>i+x)=λm=>xs[i+m]?:=rfl
 rw[e2] at this
 rw[this]
theorem getItem_tuple_cut {t sl:Addr}{items:Array Value}{vl vu:Value}{lo hi:Option Int}{Q:Value->Shared->Prop}(ht:IsTup s.heap t items)(hs:s.heap.IsSliceOf sl vl vu .none)(pl:IsPart vl lo)(pu:IsPart vu hi)
  (hw:¬(sIx items.size 0 lo=0/\sIx items.size items.size hi=items.size))
  (h:Q (.ref s.heap.objs.size) {s with heap:=s.heap.push {cls:=.type "tuple",data:=.seq ((items.toList.drop (sIx items.size 0 lo)).take (sIx items.size items.size hi-sIx items.size 0 lo)).toArray}})
  (hsz:items.size<=sizeLine):wpAny (model prog w) A (getItem (.ref t) (.ref sl)) Q E s:=by
 have htake:sizeOk (.seq ((items.toList.drop (sIx items.size 0 lo)).take (sIx items.size items.size hi-sIx items.size 0 lo)).toArray):=by
  show((items.toList.drop (sIx items.size 0 lo)).take (sIx items.size items.size hi-sIx items.size 0 lo)).toArray.size<=sizeLine
  rw[List.size_toArray,List.length_take,List.length_drop,Array.length_toList]
  omega
 have hj:sIx items.size items.size hi<=items.size:=sIx_le _ _ (Nat.le_refl _) hi
 obtain⟨os,hos,hcs,hds⟩:=id hs
 have hTs:s.TypeIs (.ref sl) "slice":=⟨os,hos,hcs⟩
 unfold getItem
 try with_reducible refine wpAny_holding ?_
 first |refine wpAny_bind (wpAny_pure ?_) |skip
 refine wpAny_bind (wpAny_sequenceKey ht.typeIs (by decide) ?_)
 refine wpAny_bind (wpAny_callSpecial?_slot (name:=Str.ofString "__getitem__") ht.typeIs PyProof.Rows.slot_tuple_getitem
  (wpAny_call_entry PyProof.Rows.slot_tuple_getitem ht.typeIs entry_tuple_getitem ?_ (args_tuple_getitem _ _)))
 show wpAny _ _ (Builtin.Tuple.tupleItemsOf (.ref t) >>= _) _ _ s
 refine wpAny_bind (tupleItemsOf_ ht ?_)
 refine wpAny_bind (wpAny_typeOf hTs ?_)
 rw[if_pos (by decide)]
 refine wpAny_bind (Vv hs pl pu ?_)
 have hno:¬((((sIx items.size 0 lo:Nat):Int)==0&&(1:Int)==1&&(sIx items.size items.size hi-sIx items.size 0 lo)==items.size)=true):=by
  intro q
  rw[Bool.and_eq_true,Bool.and_eq_true] at q
  have q1:((sIx items.size 0 lo:Nat):Int)=0:=eq_of_beq q.1.1
  have q2:sIx items.size items.size hi-sIx items.size 0 lo=items.size:=eq_of_beq q.2
  exact hw ⟨by omega,by omega⟩
 show wpAny _ _ (if(((sIx items.size 0 lo:Nat):Int)==0&&(1:Int)==1&&(sIx items.size items.size hi-sIx items.size 0 lo)==items.size)=true then _ else _) _ _ s
 rw[if_neg hno,IC]
 first
  |exact wpAny_bind (m:=Builtin.Tuple.tupleExact _) (wpAny_newObj_type (wpAny_pure ⟨_,rfl,wpAny_pure h⟩) htake)
  |exact wpAny_bind (m:=Builtin.Tuple.tupleExact _) (wpAny_newObj_type (wpAny_bind (wpAny_pure (wpAny_pure ⟨_,rfl,wpAny_pure h⟩))) htake)
  |exact wpAny_bind (wpAny_bind (m:=Builtin.Tuple.tupleExact _) (wpAny_newObj_type (wpAny_pure (wpAny_pure ⟨_,rfl,wpAny_pure h⟩)) htake))
  |exact wpAny_bind (wpAny_bind (m:=Builtin.Tuple.tupleExact _) (wpAny_newObj_type (wpAny_pure ⟨_,rfl,wpAny_pure h⟩) htake))
end
end HT
namespace L2
open PySem PySem.Spec PyProof.Rows
noncomputable abbrev TO:=St->Hp->(Option Int->Hp->Prop)->Prop
noncomputable def PO (X:Cx)(e:Option Expr)(t:TO):Prop:=
 ∀(pins:List (Addr×Obj)) (s:Shared) (σ:St) (H:Hp) (Q:Option Int->Hp->Prop),Inv X pins σ H s->t σ H Q->
  wpAny (model X.prog X.w) X.A (evalPart e X.env) (λu s'=>∃ o H',Inv X pins σ H' s'/\IsPart u o/\Q o H') X.xe s
noncomputable def Fz:TO:=λ_ H Q=>Q none H
noncomputable def Mb (t:TE):TO:=λσ H Q=>t σ H λx H1=>∃ i,x= .int i/\Q (some i) H1
section
variable {X:Cx}{e:Expr}{te:TE}{lo hi:Option Expr}{tl th:TO}{pos p2:Pos}
theorem X3:PO X none Fz:=by
 intro pins s σ H Q I h
 rw[evalPart_none]
 exact wpAny_pure ⟨none,H,I, .none,h⟩
theorem XG (h:PE X e te):PO X (some e) (Mb te):=by
 intro pins s σ H Q I hw
 rw[evalPart_some]
 refine thn (h pins s σ H _ I hw) λu s1 r9=>?_
 obtain⟨x,H1,I1,r1,q1⟩:=r9
 obtain⟨i,rfl,q⟩:=q1
 obtain⟨t,rfl⟩:=r1
 exact⟨some i,H1,I1, .int i t,q⟩
noncomputable def SlR (X:Cx)(r:V->Option Int->Option Int->Hp->VK->Prop):Prop:=
 ∀(pins:List (Addr×Obj)) (s:Shared) (σ:St) (H:Hp) (x:V) (v vl vu:Value) (lo hi:Option Int) (sl:Addr) (Q:VK),Inv X pins σ H s->XW x v->s.heap.IsSliceOf sl vl vu .none->IsPart vl lo->IsPart vu hi->r x lo hi H Q->
  ∃T id,typeLookup (.type T) "__getitem__" =pure (some (.builtin id))/\s.TypeIs v T/\wpAny (model X.prog X.w) X.A (getItem v (.ref sl)) (EP X pins σ Q) X.xe s
theorem SlR.or {r r':V->Option Int->Option Int->Hp->VK->Prop}(h:SlR X r)(h':SlR X r'):SlR X (λx lo hi H Q=>r x lo hi H Q∨r' x lo hi H Q):=by
 intro pins s σ H x v vl vu lo hi sl Q I rx hs pl pu q
 rcases q with q |q
 ·exact h pins s σ H x v vl vu lo hi sl Q I rx hs pl pu q
 ·exact h' pins s σ H x v vl vu lo hi sl Q I rx hs pl pu q
noncomputable def tSl (r:V->Option Int->Option Int->Hp->VK->Prop)(te:TE)(tl th:TO):TE:=λσ H Q=>te σ H λx H1=>tl σ H1 λl H2=>th σ H2 λu H3=>r x l u H3 Q
theorem XC {r:V->Option Int->Option Int->Hp->VK->Prop}(hr:SlR X r)(he:PE X e te)(hl:PO X lo tl)(hu:PO X hi th):PE X (.Subscript e (.Slice lo hi none p2) pos) (tSl r te tl th):=by
 intro pins s σ H Q I h
 refine Subscript_ (thn (he pins s σ H _ I h) λv s1 r9=>?_)
 obtain⟨x,H1,I1,r1,q1⟩:=r9
 refine wpAny_Slice (thn (hl pins s1 σ H1 _ I1 q1) λvl s2 ⟨l,H2,I2,pl,q2⟩=>thn (hu pins s2 σ H2 _ I2 q2) λvu s3 r9=>?_)
 obtain⟨u,H3,I3,pu,q3⟩:=r9
 rw[evalPart_none]
 refine wpAny_pure ?_
 have I4:Inv X pins σ H3 {s3 with heap:=s3.heap.push {cls:=.type "slice",data:=.fields #[vl,vu, .none]}}:=I3.kept (t':=s3.toks) λb ob q=>Heap.get?_push_of_some _ q
 obtain⟨T,id,hT,ht,hg⟩:=hr pins {s3 with heap:=s3.heap.push {cls:=.type "slice",data:=.fields #[vl,vu, .none]}} σ H3 x v vl vu l u s3.heap.objs.size Q I4 r1 (Heap.IsSliceOf.new ..) pl pu q3
 show wpAny (model X.prog X.w) X.A (subscriptTail e (.Slice lo hi none p2) v (.ref s3.heap.objs.size)) (EP X pins σ Q) X.xe {s3 with heap:=s3.heap.push {cls:=.type "slice",data:=.fields #[vl,vu, .none]}}
 exact tail_any (ops:=[.ref s3.heap.objs.size,v]) ht hT hg (by with_unfolding_all rfl)
noncomputable def LB (xs:List V)(lo hi:Option Int):List V:=(xs.drop (HT.sIx xs.length 0 lo)).take (HT.sIx xs.length xs.length hi-HT.sIx xs.length 0 lo)
theorem UR (xs:List V)(lo hi:Option Int):(LB xs lo hi).length<=xs.length:=by
 unfold LB
 rw[List.length_take,List.length_drop]
 omega
noncomputable def P7 (K:PySem.W.Frag):V->Option Int->Option Int->Hp->VK->Prop:=λx lo hi H Q=>∃ a xs,x= .ref a/\SqT K H a xs/\
 ¬(HT.sIx xs.length 0 lo=0/\HT.sIx xs.length xs.length hi=xs.length)/\∀p,H p=none->Q (.ref p) (upd H p (.tup (LB xs lo hi)))
theorem Ot:SlR X (P7 X.K):=by
 intro pins s σ H x v vl vu lo hi sl Q I rx hs pl pu h
 obtain⟨a,xs,rfl,hx,hw,q⟩:=h
 cases rx
 obtain⟨its,r,ht,hz⟩:=I.tuple hx
 have hlen:its.toArray.size=xs.length:=by rw[List.size_toArray];exact r.length.symm
 refine⟨"tuple",_,PyProof.Rows.slot_tuple_getitem.lookup,ht.typeIs,?_⟩
 refine HT.getItem_tuple_cut ht hs pl pu (by rw[hlen];exact hw) ?_ (by rw[hlen];exact hz)
 rw[hlen]
 refine⟨.ref s.heap.objs.size,_,I.laid (t':=s.toks) (o:=.tup (LB xs lo hi)) (λb ob q=>Heap.get?_push_of_some _ q) (Nat.le_refl _) ?_,rfl,q _ (I.hok.fresh (Nat.le_refl _))⟩
 exact⟨Nat.le_trans (UR xs lo hi) hz,_,(r.drop (HT.sIx xs.length 0 lo)).take (HT.sIx xs.length xs.length hi-HT.sIx xs.length 0 lo),Va.new _ _⟩
noncomputable def Rg (K:PySem.W.Frag):R2:=λx y H Q=>∃ a b xs ys,x= .ref a/\y= .ref b/\SqT K H a xs/\SqT K H b ys/\xs≠ []/\xs.length+ys.length<=sizeLine/\
 (ys=[]->Q (.ref a) H)/\(ys≠ []->∀p,H p=none->Q (.ref p) (upd H p (.tup (xs++ys))))
theorem XZ.nil_iff {xs:List V}{us:List Value}(r:XZ xs us):us=[]↔xs=[]:=by
 cases r with
 |nil=>simp
 |cons _ _=>simp
theorem NP:OpR X (binaryOp .Add) (Rg X.K):=by
 intro pins s σ H x y v u Q I rx ry h
 obtain⟨a,b,xs,ys,rfl,rfl,ha,hb,hx,hz,q1,q2⟩:=h
 cases rx
 cases ry
 obtain⟨its,r1,p1,_⟩:=I.tuple ha
 obtain⟨its2,r2,p2,_⟩:=I.tuple hb
 refine HT.cat_tup p1 p2 (λz=>hx (r1.nil_iff.mp z)) (λz=>⟨.ref a,H,I,rfl,q1 (r2.nil_iff.mp z)⟩) (λz=>?_) (by rw[←r1.length, ←r2.length];exact hz)
 refine⟨.ref s.heap.objs.size,_,I.laid (t':=s.toks) (o:=.tup (xs++ys)) (λb ob q=>Heap.get?_push_of_some _ q) (Nat.le_refl _) ?_,rfl,q2 (λw=>z (r2.nil_iff.mpr w)) _ (I.hok.fresh (Nat.le_refl _))⟩
 exact⟨by rw[List.length_append];exact hz,_,r1.append r2,Va.new _ _⟩
end
noncomputable def ixN (n:Nat)(i:Int):Option Nat:=if 0<=i then(if i<n then some i.toNat else none) else if-(n:Int)<=i then some (i+n).toNat else none
noncomputable def atI {α:Type}(xs:List α)(i:Int):Option α:=(ixN xs.length i).bind λj=>xs[j]?
theorem HC {n:Nat}{i:Int}{j:Nat}(h:ixN n i=some j):seqIndex? i n=some j/\j<n/\ -(n:Int)<=i/\i<n:=by
 unfold ixN at h
 by_cases h0:0<=i
 ·rw[if_pos h0] at h
  by_cases h1:i<n
  ·rw[if_pos h1] at h
   have e:i.toNat=j:=Option.some.inj h
   exact⟨by rw[seqIndex_of h0 h1,e],by omega,by omega,h1⟩
  ·rw[if_neg h1] at h;cases h
 ·rw[if_neg h0] at h
  by_cases h1: -(n:Int)<=i
  ·rw[if_pos h1] at h
   have e:(i+n).toNat=j:=Option.some.inj h
   exact⟨by rw[seqIndex_neg (by omega) h1,e],by omega,h1,by omega⟩
  ·rw[if_neg h1] at h;cases h
theorem Hl {α:Type}{xs:List α}{i:Int}{v:α}(h:atI xs i=some v):∃j,seqIndex? i xs.length=some j/\xs[j]?=some v/\j<xs.length/\ -(xs.length:Int)<=i/\i<xs.length:=by
 unfold atI at h
 cases e:ixN xs.length i with
 |none=>rw[e] at h;cases h
 |some j=>
  rw[e] at h
  obtain⟨h1,h2,h3,h4⟩:=HC e
  exact⟨j,h1,h,h2,h3,h4⟩
noncomputable def Mn (b:Expr):Prop:=∀ o i,subscripted b false o i=operate [o,i] (getItem o i)
noncomputable def IxR (X:Cx)(r:R2):Prop:=
 ∀(value slice:Expr) (pins:List (Addr×Obj)) (s:Shared) (σ:St) (H:Hp) (x y:V) (v u:Value) (Q:VK),Inv X pins σ H s->XW x v->XW y u->r x y H Q->
  subscripted slice false v u=operate [v,u] (getItem v u)->wpAny (model X.prog X.w) X.A (subscriptTail value slice v u) (EP X pins σ Q) X.xe s
noncomputable def MtR (X:Cx)(id:String)(r:V->List V->Hp->VK->Prop):Prop:=
 ∀(pins:List (Addr×Obj)) (s:Shared) (σ:St) (H:Hp) (x:V) (xs:List V) (v:Value) (us:List Value) (Q:VK),Inv X pins σ H s->XW x v->XZ xs us->r x xs H Q->
  wpAny (model X.prog X.w) X.A (call (.builtin id) (v::us)) (EP X pins σ Q) X.xe s
section
variable {X:Cx}{a b:Expr}{ta tb:TE}{pos:Pos}
theorem IxR.or {r r':R2}(h:IxR X r)(h':IxR X r'):IxR X (λx y H Q=>r x y H Q∨r' x y H Q):=by
 intro value slice pins s σ H x y v u Q I rx ry q hs
 rcases q with q |q
 ·exact h value slice pins s σ H x y v u Q I rx ry q hs
 ·exact h' value slice pins s σ H x y v u Q I rx ry q hs
theorem MtR.or {id:String}{r r':V->List V->Hp->VK->Prop}(h:MtR X id r)(h':MtR X id r'):MtR X id (λx xs H Q=>r x xs H Q∨r' x xs H Q):=by
 intro pins s σ H x xs v us Q I rx rs q
 rcases q with q |q
 ·exact h pins s σ H x xs v us Q I rx rs q
 ·exact h' pins s σ H x xs v us Q I rx rs q
theorem Xh {r:R2}(hr:IxR X r)(ha:PE X a ta)(hb:PE X b tb)(hs:Mn b):PE X (.Subscript a b pos) (tOp r ta tb):=by
 intro pins s σ H Q I h
 exact Subscript_ (RE ha hb I h λv u s2 x y H2 I2 rx ry q=>hr a b pins s2 σ H2 x y v u Q I2 rx ry q (hs _ _))
noncomputable def B9 (K:PySem.W.Frag):R2:=λx y H Q=>∃ p xs i v,x= .ref p/\y= .int i/\SqL K H p xs/\atI xs i=some v/\Q v H
noncomputable def Fj (K:PySem.W.Frag):R2:=λx y H Q=>∃ p xs i v,x= .ref p/\y= .int i/\SqT K H p xs/\atI xs i=some v/\Q v H
theorem MQ:IxR X (B9 X.K):=by
 intro value slice pins s σ H x y v u Q I rx ry h hs
 obtain⟨p,xs,i,z,rfl,rfl,hq,he,q⟩:=h
 cases rx
 obtain⟨t,rfl⟩:=ry
 obtain⟨its,r,pl,hz⟩:=I.list hq
 obtain⟨j,h1,h2,h3,h4,h5⟩:=Hl he
 obtain⟨w,ew,rw'⟩:=r.get h2
 have hl:=r.length
 have hn:=DI
 have fin:EP X pins σ Q w s:=⟨z,H,I,rw',q⟩
 by_cases h0:0<=i
 ·have hj:i.toNat=j:=by
   rw[seqIndex_of h0 h5] at h1
   exact Option.some.inj h1
  exact item_listR pl.isList h0 (by omega) (by rw[hj];simpa using ew) fin hs
 ·have hj:(i+(its.toArray.size:Int)).toNat=j:=by
   rw[seqIndex_neg (by omega) h4] at h1
   rw[List.size_toArray, ←hl]
   exact Option.some.inj h1
  exact subscriptTail_builtinR (x:=w) pl.isList.typeIs slot_list_getitem.lookup
   (wpAny_getItem_list_neg (Q:=λr s'=>r=w/\EP X pins σ Q r s') pl.isList (by omega) (by rw[List.size_toArray]<;> omega) (by omega) (by rw[hj];simpa using ew) ⟨rfl,fin⟩) hs
theorem OY:IxR X (Fj X.K):=by
 intro value slice pins s σ H x y v u Q I rx ry h hs
 obtain⟨p,xs,i,z,rfl,rfl,hq,he,q⟩:=h
 cases rx
 obtain⟨t,rfl⟩:=ry
 obtain⟨its,r,pl,hz⟩:=I.tuple hq
 obtain⟨j,h1,h2,h3,h4,h5⟩:=Hl he
 obtain⟨w,ew,rw'⟩:=r.get h2
 have hl:=r.length
 have hn:=DI
 have fin:EP X pins σ Q w s:=⟨z,H,I,rw',q⟩
 exact subscriptTail_builtinR (x:=w) pl.typeIs slot_tuple_getitem.lookup
  (getItem_tuple (j:=j) (Q:=λr s'=>r=w/\EP X pins σ Q r s') pl (by omega) (by omega) (by rw[List.size_toArray, ←hl];exact h1) (by simpa using ew) ⟨rfl,fin⟩) hs
theorem CJ (its:List Value)(n j:Nat)(u:Value):Obj.mapSeq (·.setIfInBounds j u) {cls:=.type "list",data:=.seq its.toArray n}={cls:=.type "list",data:=.seq (its.set j u).toArray n}:=by
 simp[Obj.mapSeq]
theorem Inv.lst {pins:List (Addr×Obj)}{σ:St}{H:Hp}{s:Shared}{p:Addr}{xs:List V}(I:Inv X pins σ H s)(h:H p=some (.lst xs)):
  ∃(its:List Value) (n:Nat),XZ xs its/\s.heap.get? p=some {cls:=.type "list",data:=.seq its.toArray n}/\xs.length<=sizeLine:=by
 obtain⟨z,its,n,r,e⟩:=I.hok p _ h
 exact⟨its,n,r,e,z⟩
theorem Inv.lstUpd {pins:List (Addr×Obj)}{σ:St}{H:Hp}{s:Shared}{p:Addr}{xs ys:List V}{its its':List Value}{n n':Nat}{f:Obj->Obj}(I:Inv X pins σ H s)(h:H p=some (.lst xs))
  (ho:s.heap.get? p=some {cls:=.type "list",data:=.seq its.toArray n})(hf:f {cls:=.type "list",data:=.seq its.toArray n}={cls:=.type "list",data:=.seq its'.toArray n'})(r:XZ ys its')(hz:ys.length<=sizeLine)(t:Nat):
  Inv X pins σ (upd H p (.lst ys)) {s with heap:=s.heap.update p f,toks:=t}:=by
 have e:(s.heap.update p f).get? p=some {cls:=.type "list",data:=.seq its'.toArray n'}:=by
  rw[Heap.get?_update_self f ho (by rw[hf]<;> rfl),hf]
 refine I.write (x:=p) (e:=p) (by rw[h];trivial) (.inl rfl) (λb u hb q=>(Heap.get?_update_other _ _ (Ne.symm hb)).trans q) ⟨_,e⟩ ?_
 exact⟨hz,its',n',r,e⟩
noncomputable def Ij:V->V->V->Hp->(Hp->Prop)->Prop:=λo i v H Q=>∃ p xs k j,o= .ref p/\i= .int k/\H p=some (.lst xs)/\ixN xs.length k=some j/\Q (upd H p (.lst (xs.set j v)))
theorem YA:Sd X Ij:=by
 intro pins s σ H o i v ov iv u Q I ro ri rv h
 obtain⟨p,xs,k,j,rfl,rfl,hp,hj,q⟩:=h
 cases ro
 obtain⟨t,rfl⟩:=ri
 obtain⟨its,n,r,ho,hz⟩:=I.lst hp
 obtain⟨h1,h2,h3,h4⟩:=HC hj
 have hl:=r.length
 have hn:=DI
 have I':Inv X pins σ (upd H p (.lst (xs.set j v))) {s with heap:=s.heap.update p (Obj.mapSeq (·.setIfInBounds j u))}:=
  I.lstUpd hp ho (CJ its n j u) (r.set rv j) (by rw[List.length_set];exact hz) s.toks
 by_cases h0:0<=k
 ·have hk:k.toNat=j:=by
   rw[seqIndex_of h0 h4] at h1
   exact Option.some.inj h1
  exact PySem.W.ki_setAt ho h0 (by omega) (by rw[List.size_toArray, ←hl];exact h4) (by rw[hk];exact⟨_,I',q⟩)
 ·have hk:(k+(its.toArray.size:Int)).toNat=j:=by
   rw[seqIndex_neg (by omega) h3] at h1
   rw[List.size_toArray, ←hl]
   exact Option.some.inj h1
  exact PySem.W.ki_setBack ho (by omega) (by rw[List.size_toArray, ←hl];exact h3) (by omega) (by rw[hk];exact⟨_,I',q⟩)
theorem Vd (lo hi:Option Int)(n:Nat):(sliceBounds lo hi none n).1=((HT.sIx n 0 lo:Nat):Int)/\(sliceBounds lo hi none n).2.1=((HT.sIx n n hi:Nat):Int)/\(sliceBounds lo hi none n).2.2=1:=by
 refine⟨?_,?_,rfl⟩
 ·cases lo with
  |none=>simp[sliceBounds,HT.sIx]
  |some i=>
   simp only[sliceBounds,HT.sIx,Option.getD_none,show(1:Int) > 0 by decide,if_true]
   by_cases h:i<0
   ·simp only[h,if_true]<;> omega
   ·simp only[h,if_false]<;> omega
 ·cases hi with
  |none=>simp[sliceBounds,HT.sIx]
  |some i=>
   simp only[sliceBounds,HT.sIx,Option.getD_none,show(1:Int) > 0 by decide,if_true]
   by_cases h:i<0
   ·simp only[h,if_true]<;> omega
   ·simp only[h,if_false]<;> omega
theorem Gg (its:List Value)(lo hi:Option Int):slicePick its.toArray lo hi none=((its.drop (HT.sIx its.length 0 lo)).take (HT.sIx its.length its.length hi-HT.sIx its.length 0 lo)).toArray:=by
 obtain⟨h1,h2,h3⟩:=Vd lo hi its.toArray.size
 unfold slicePick
 rw[h1,h2,h3]
 simp only[sliceRange_one,pick_run,List.size_toArray]<;> rfl
noncomputable def Pl (K:PySem.W.Frag):V->Option Int->Option Int->Hp->VK->Prop:=λx lo hi H Q=>∃ a xs,x= .ref a/\SqL K H a xs/\∀p,H p=none->Q (.ref p) (upd H p (.lst (LB xs lo hi)))
theorem ML:SlR X (Pl X.K):=by
 intro pins s σ H x v vl vu lo hi sl Q I rx hs pl pu h
 obtain⟨a,xs,rfl,hx,q⟩:=h
 cases rx
 obtain⟨its,r,ht,hz⟩:=I.list hx
 have hlen:=r.length
 refine⟨"list",_,slot_list_getitem.lookup,ht.isList.typeIs,?_⟩
 refine wpAny_getItem_list_slice ht.isList hs pl pu .none (by simp) ?_ (by rw[List.size_toArray]<;> omega)
 rw[Gg, ←hlen]
 refine⟨.ref s.heap.objs.size,_,I.laid (t':=s.toks) (o:=.lst (LB xs lo hi)) (λb ob q=>Heap.get?_push_of_some _ q) (Nat.le_refl _) ?_,rfl,q _ (I.hok.fresh (Nat.le_refl _))⟩
 exact⟨Nat.le_trans (UR xs lo hi) hz,_,0,(r.drop (HT.sIx xs.length 0 lo)).take (HT.sIx xs.length xs.length hi-HT.sIx xs.length 0 lo),Heap.get?_push_size _ rfl⟩
noncomputable def UT:V->Bool
 | .non=>true
 | .bl _=>true
 | .int _=>true
 | .str _=>true
 |_=>false
noncomputable def eqV:V->V->Bool
 | .non, .non=>true
 | .bl a, .bl b=>a==b
 | .bl a, .int b=>(if a then 1 else 0)==b
 | .int a, .bl b=>a==(if b then 1 else 0)
 | .int a, .int b=>a==b
 | .str a, .str b=>a==b
 |_,_=>false
theorem O4 {A:Around}{s:Shared}{y x:V}{u v:Value}(ry:XW y u)(rx:XW x v)(fy:UT y=true)(fx:UT x=true):SeqAt.EqAt A s u v (eqV y x):=by
 cases y with
 |non=>
  cases ry
  cases x with
  |non=>cases rx;exact SeqAt.EqAt.same _
  |bl b=>cases rx;exact SeqAt.EqAt.none_bool b
  |int b=>obtain⟨t,rfl⟩:=rx;exact SeqAt.EqAt.none_int b t
  |str b=>obtain⟨t,rfl⟩:=rx;exact SeqAt.EqAt.none_str b t
  |_=>exact absurd (show false=true from fx) Bool.false_ne_true
 |bl a=>
  cases ry
  cases x with
  |non=>cases rx;exact SeqAt.EqAt.bool_none a
  |bl b=>cases rx;exact SeqAt.EqAt.bool_bool a b
  |int b=>obtain⟨t,rfl⟩:=rx;exact SeqAt.EqAt.bool_int a b t
  |str b=>obtain⟨t,rfl⟩:=rx;exact SeqAt.EqAt.bool_str a b t
  |_=>exact absurd (show false=true from fx) Bool.false_ne_true
 |int a=>
  obtain⟨t',rfl⟩:=ry
  cases x with
  |non=>cases rx;exact SeqAt.EqAt.int_none a t'
  |bl b=>cases rx;exact SeqAt.EqAt.int_bool a t' b
  |int b=>obtain⟨t,rfl⟩:=rx;exact SeqAt.EqAt.int_int a t' b t
  |str b=>obtain⟨t,rfl⟩:=rx;exact SeqAt.EqAt.int_str a t' b t
  |_=>exact absurd (show false=true from fx) Bool.false_ne_true
 |str a=>
  obtain⟨t',rfl⟩:=ry
  cases x with
  |non=>cases rx;exact SeqAt.EqAt.str_none a t'
  |bl b=>cases rx;exact SeqAt.EqAt.str_bool a t' b
  |int b=>obtain⟨t,rfl⟩:=rx;exact SeqAt.EqAt.str_int a t' b t
  |str b=>obtain⟨t,rfl⟩:=rx;exact SeqAt.EqAt.str_str a t' b t
  |_=>exact absurd (show false=true from fx) Bool.false_ne_true
 |_=>exact absurd (show false=true from fy) Bool.false_ne_true
noncomputable def eqU (x:V)(u:Value):Bool:=match u with
 | .none=>eqV .non x
 | .bool b=>eqV (.bl b) x
 | .int i _=>eqV (.int i) x
 | .str z _=>eqV (.str z) x
 |_=>false
theorem LY {x y:V}{u:Value}(r:XW y u)(f:UT y=true):eqU x u=eqV y x:=by
 cases y with
 |non=>cases r;rfl
 |bl b=>cases r;rfl
 |int i=>obtain⟨t,rfl⟩:=r;rfl
 |str z=>obtain⟨t,rfl⟩:=r;rfl
 |_=>exact absurd (show false=true from f) Bool.false_ne_true
theorem VU {x:V}:∀{xs:List V}{us:List Value},XZ xs us->xs.all UT=true->us.any (eqU x)=xs.any λy=>eqV y x
 |_,_, .nil,_=>rfl
 |y::xs,u::us, .cons r t,f=>by
  rw[List.all_cons,Bool.and_eq_true] at f
  rw[List.any_cons,List.any_cons,LY r f.1,VU t f.2]
theorem Js {A:Around}{s:Shared}{x:V}{v:Value}(rx:XW x v)(fx:UT x=true):∀{xs:List V}{us:List Value},XZ xs us->xs.all UT=true->∀u∈us,SeqAt.EqAt A s u v (eqU x u)
 |_,_, .nil,_=>λu hu=>by cases hu
 |y::xs,u::us, .cons r t,f=>λu' hu=>by
  rw[List.all_cons,Bool.and_eq_true] at f
  rcases List.mem_cons.mp hu with rfl |hu
  ·rw[LY r f.1];exact O4 r rx f.1 fx
  ·exact Js rx fx t f.2 u' hu
noncomputable def inV (x:V)(xs:List V):Bool:=xs.any λy=>eqV y x
noncomputable def rIn (K:PySem.W.Frag)(neg:Bool):R2:=λx y H Q=>∃ p xs,y= .ref p/\(SqL K H p xs∨SqT K H p xs)/\UT x=true/\xs.all UT=true/\Q (.bl (if neg then !inV x xs else inV x xs)) H
theorem Uc:OpR X (compareOp .In) (rIn X.K false):=by
 intro pins s σ H x y v u Q I rx ry h
 obtain⟨p,xs,rfl,hq,fx,fs,q⟩:=h
 cases ry
 rcases hq with hq |hq
 ·obtain⟨its,r,pl,hz⟩:=I.list hq
  refine SeqAt.in_listAt (eqU x) pl.isList (λw hw=>Js rx fx r fs w (by simpa using hw)) ⟨.bl _,H,I,rfl,?_⟩
  rw[show its.toArray.any (eqU x)=its.any (eqU x) by simp,VU r fs]
  exact q
 ·obtain⟨its,r,pl,hz⟩:=I.tuple hq
  refine SeqAt.in_tupleAt (eqU x) pl (λw hw=>Js rx fx r fs w (by simpa using hw)) ⟨.bl _,H,I,rfl,?_⟩
  rw[show its.toArray.any (eqU x)=its.any (eqU x) by simp,VU r fs]
  exact q
theorem Qp:OpR X (compareOp .NotIn) (rIn X.K true):=by
 intro pins s σ H x y v u Q I rx ry h
 obtain⟨p,xs,rfl,hq,fx,fs,q⟩:=h
 cases ry
 rcases hq with hq |hq
 ·obtain⟨its,r,pl,hz⟩:=I.list hq
  refine SeqAt.notIn_listAt (eqU x) pl.isList (λw hw=>Js rx fx r fs w (by simpa using hw)) ⟨.bl _,H,I,rfl,?_⟩
  rw[show its.toArray.any (eqU x)=its.any (eqU x) by simp,VU r fs]
  exact q
 ·obtain⟨its,r,pl,hz⟩:=I.tuple hq
  refine SeqAt.notIn_tupleAt (eqU x) pl (λw hw=>Js rx fx r fs w (by simpa using hw)) ⟨.bl _,H,I,rfl,?_⟩
  rw[show its.toArray.any (eqU x)=its.any (eqU x) by simp,VU r fs]
  exact q
theorem G7:Zc X (.builtin "len") (λxs H Q=>∃ p ys,xs=[.ref p]/\(SqL X.K H p ys∨SqT X.K H p ys)/\Q (.int ys.length) H):=by
 intro pins s σ H xs us Q I r h
 obtain⟨p,ys,rfl,hq,q⟩:=h
 obtain⟨u,rfl,rx⟩:=Jk r
 cases rx
 have hn:=DI
 rcases hq with hq |hq
 ·obtain⟨its,r',pl,hz⟩:=I.list hq
  have hlen:=r'.length
  exact Calls.call_len_list pl.isList (by simp only[List.size_toArray]<;> omega) ⟨.int ys.length,H,I.tok _,⟨s.toks+1,by rw[List.size_toArray,hlen]⟩,q⟩
 ·obtain⟨its,r',pl,hz⟩:=I.tuple hq
  have hlen:=r'.length
  exact len_tuple pl (by simp only[List.size_toArray]<;> omega) ⟨.int ys.length,H,I.tok _,⟨s.toks+1,by rw[List.size_toArray,hlen]⟩,q⟩
theorem Zc.or {f:Value}{r r':List V->Hp->VK->Prop}(h:Zc X f r)(h':Zc X f r'):Zc X f (λxs H Q=>r xs H Q∨r' xs H Q):=by
 intro pins s σ H xs us Q I rs q
 rcases q with q |q
 ·exact h pins s σ H xs us Q I rs q
 ·exact h' pins s σ H xs us Q I rs q
theorem GU:Zc X (.type "list") (λxs H Q=>∃ p ys,xs=[.ref p]/\(SqL X.K H p ys∨SqT X.K H p ys)/\∀l,H l=none->Q (.ref l) (upd H l (.lst ys))):=by
 intro pins s σ H xs us Q I r h
 obtain⟨p,ys,rfl,hq,q⟩:=h
 obtain⟨u,rfl,rx⟩:=Jk r
 cases rx
 have fin:∀(its:List Value),XZ ys its->ys.length<=sizeLine->∀(h':Heap) (c':Nat),(∀b o',s.heap.get? b=some o'->h'.get? b=some o')->
   h'.get? s.heap.objs.size=some {cls:=.type "list",dict:=none,data:=.seq its.toArray c',slots:=#[]}->EP X pins σ Q (.ref s.heap.objs.size) {s with heap:=h'}:=λits r' hz h' c' kp e=>
  ⟨.ref s.heap.objs.size,_,I.laid (t':=s.toks) kp (Nat.le_refl _) (show Yp X.prog X.w _ h' _ (.lst ys) from⟨hz,its,c',r',e⟩),rfl,q _ (I.hok.fresh (Nat.le_refl _))⟩
 rcases hq with hq |hq
 ·obtain⟨its,r',pl,hz⟩:=I.list hq
  have hlen:=r'.length
  obtain⟨o,ho,hc,n,hd⟩:=pl.isList
  exact call_list_seq p (.inl rfl) ho hc hd (λh' c' kp e=>fin its r' hz h' c' kp e) (by simp only[List.size_toArray]<;> omega)
 ·obtain⟨its,r',pl,hz⟩:=I.tuple hq
  have hlen:=r'.length
  obtain⟨o,ho,hc,n,hd⟩:=pl
  exact call_list_seq p (.inr rfl) ho hc hd (λh' c' kp e=>fin its r' hz h' c' kp e) (by simp only[List.size_toArray]<;> omega)
noncomputable def tyV (K:PySem.W.Frag)(T:String)(x:V)(H:Hp):Prop:=match x with
 | .str _=>T= "str"
 | .int _=>T= "int"
 | .ref p=>(T= "list" /\∃xs,SqL K H p xs)∨(T= "tuple" /\∃o,K.lookup p=some o/\o.cls= .type "tuple" /\o.dict=none)∨
   (T= "dict" /\((∃kvs,H p=some (.dK kvs))∨∃kvs,H p=some (.dT kvs)))∨(T= "set" /\∃S n,H p=some (.set S n))
 |_=>False
theorem Pc {pins:List (Addr×Obj)}{σ:St}{H:Hp}{s:Shared}{T:String}{x:V}{v:Value}(I:Inv X pins σ H s)(r:XW x v)(ty:tyV X.K T x H):
  s.TypeIs v T/\∀a,v= .ref a->∃ob,s.heap.get? a=some ob/\ob.dict=none:=by
 cases x with
 |str z=>
  obtain⟨t,rfl⟩:=r
  cases(show T= "str" from ty)
  exact⟨typeIs_str s z t,λ_ e=>nomatch e⟩
 |int i=>
  obtain⟨t,rfl⟩:=r
  cases(show T= "int" from ty)
  exact⟨typeIs_int s i t,λ_ e=>nomatch e⟩
 |ref p=>
  cases r
  rcases ty with⟨rfl,xs,hq⟩ | ⟨rfl,o,hk,hc,hd⟩ | ⟨rfl,hk⟩ | ⟨rfl,S,n,hk⟩
  ·obtain⟨its,_,pl,_⟩:=I.list hq
   refine⟨pl.isList.typeIs,λa e=>?_⟩
   cases e
   obtain⟨o,n,e,c,hd,_⟩:=pl
   exact⟨o,e,hd⟩
  ·refine⟨⟨o,I.kIn p o hk,hc⟩,λa e=>?_⟩
   cases e
   exact⟨o,I.kIn _ o hk,hd⟩
  ·have z:∃o,s.heap.get? p=some o/\o.ExactDict:=by
    rcases hk with⟨kvs,hk⟩ | ⟨kvs,hk⟩
    ·obtain⟨_,_,_,_,o,_,_,e,ex,_⟩:=I.hok p _ hk
     exact⟨o,e,ex⟩
    ·obtain⟨_,_,_,_,o,_,_,e,ex,_⟩:=I.hok p _ hk
     exact⟨o,e,ex⟩
   obtain⟨o,e,ex⟩:=z
   refine⟨⟨o,e,ex.1⟩,λa e2=>?_⟩
   cases e2
   exact⟨o,e,ex.2.1⟩
  ·obtain⟨o,_,_,_,e,ex,_⟩:=I.hok p _ hk
   refine⟨⟨o,e,ex.1⟩,λa e2=>?_⟩
   cases e2
   exact⟨o,e,ex.2.1⟩
 |_=>exact False.elim ty
noncomputable def tBM (K:PySem.W.Frag)(T:String)(r:V->List V->Hp->VK->Prop)(to:TE)(t:TA):TE:=λσ H Q=>to σ H λx H1=>tyV K T x H1/\t σ H1 λxs H2=>r x xs H2 Q
variable {o e:Expr}{es:List Expr}{to:TE}{t:TA}{name:Str}{apos cpos:Pos}{T id:String}{r:V->List V->Hp->VK->Prop}
theorem QB (pa:PlainAttrs T)(slot:Slot T name id)(hty:typeOf (.builtin id)=pure (.type "method_descriptor"))(hm:MtR X id r)(ho:PE X o to)(ha:PA X (e::es) t)
  (hbase:attributeBase o name X.env (eval o X.env)=eval o X.env:=by rfl)
  (hfew:((backTo cpos (starEach (e::es) X.env)).all (λx=>!x.1)&&(backToKw cpos (keywordEach [] X.env)).all (λx=>x.1.isSome)
   &&decide ((e::es).length+([]:List Keyword).length+(if([]:List Keyword).isEmpty then 0 else 1)<30))=true:=by rfl)
  (hline:(apos.endLine==cpos.line)=true:=by rfl)(hs:starEach (e::es) X.env=(false,eval e X.env)::starEach es X.env:=by rfl)(hplain:(backTo cpos (starEach es X.env)).any (·.1)=false:=by rfl):
  PE X (.Call (.Attribute o name apos) (e::es) [] cpos) (tBM X.K T r to t):=by
 intro pins s σ H Q I h
 refine wpAny_Call_method_late hbase hfew hline rfl (thn (ho pins s σ H _ I h) λv s1 r9=>?_)
 obtain⟨x,H1,I1,r1,ty,q1⟩:=r9
 obtain⟨h1,h2⟩:=Pc I1 r1 ty
 refine⟨T,id,pa,slot,hty,h1,h2,?_⟩
 have hA:=ha cpos pins s1 σ H1 _ I1 q1
 rw[hs] at hA⊢
 refine Calls.callWith_builtin (by show(false || (backTo cpos (starEach es X.env)).any (·.1))=false;rw[hplain]<;> rfl) (Calls.evalArgs_plain ?_)
 exact thn hA λus s2 r9=>by obtain⟨vs,H2,I2,r2,q2⟩:=r9;exact hm pins s2 σ H2 x vs v us Q I2 r1 r2 q2
/- xs.append(e), list.index on a module's tuple .. are MtR facts of 06m -/
end
noncomputable def MtM (X:Cx)(id:String)(r:V->List V->Hp->VK->Prop):Prop:=
 ∀(pins:List (Addr×Obj)) (s:Shared) (σ:St) (H:Hp) (x:V) (xs:List V) (v:Value) (us:List Value) (Q:VK),Inv X pins σ H s->XW x v->XZ xs us->r x xs H Q->
  wpAny (model X.prog X.w) X.A (call (.builtin id) (v::us)) (EP X pins σ Q) X.xe s
theorem XZ.one:∀{x:V}{us:List Value},XZ [x] us->∃u,us=[u]/\XW x u:=fun {x us} h=>by
 cases h with
 |cons r t=>
  cases t
  exact⟨_,rfl,r⟩
theorem XZ.two:∀{x y:V}{us:List Value},XZ [x,y] us->∃u v,us=[u,v]/\XW x u/\XW y v:=fun {x y us} h=>by
 cases h with
 |cons r t=>
  cases t with
  |cons q t=>
   cases t
   exact⟨_,_,rfl,r,q⟩
theorem XZ.zero:∀{us:List Value},XZ [] us->us=[]
 |_, .nil=>rfl
theorem XZ.eraseIdx:∀{xs:List V}{us:List Value} (i:Nat),XZ xs us->XZ (xs.eraseIdx i) (us.eraseIdx i)
 |_,_,_, .nil=>.nil
 |_,_,0, .cons _ t=>t
 |_,_,i+1, .cons r t=>.cons r (XZ.eraseIdx i t)
theorem XZ.reverse {xs:List V}{us:List Value}(h:XZ xs us):XZ xs.reverse us.reverse:=by
 induction h with
 |nil=>exact .nil
 |cons r t ih=>rw[List.reverse_cons,List.reverse_cons];exact XZ.append ih (.cons r .nil)
theorem XZ.rep {xs:List V}{us:List Value}(h:XZ xs us):∀k:Nat,XZ (List.replicate k xs).flatten (List.replicate k us).flatten
 |0=>.nil
 |k+1=>by
  rw[List.replicate_succ,List.replicate_succ,List.flatten_cons,List.flatten_cons]
  exact XZ.append h (XZ.rep h k)
theorem Gv {α:Type}:∀(l:List α) (i:Nat),(l.eraseIdx i).length<=l.length
 | [],_=>Nat.le_refl _
 |_::_,0=>Nat.le_succ _
 |_::r,i+1=>Nat.succ_le_succ (Gv r i)
theorem GS (its:List Value):∀(k:Nat) (acc:List Value),
  List.foldl (λx1 x2=>x1++x2) acc.toArray (List.replicate k its.toArray)=(acc++(List.replicate k its).flatten).toArray
 |0,acc=>by simp
 |k+1,acc=>by
  have e:acc.toArray++its.toArray=(acc++its).toArray:=by simp
  have e2:(acc++its)++(List.replicate k its).flatten=acc++(List.replicate (k+1) its).flatten:=by
   rw[List.replicate_succ,List.flatten_cons,List.append_assoc]
  rw[←e2, ←GS its k (acc++its), ←e,List.replicate_succ,List.foldl_cons]
section
variable {X:Cx}{pins:List (Addr×Obj)}{σ:St}{H:Hp}{s:Shared}{l b:Addr}{xs ys zs:List V}
theorem Inv.lset {its its':List Value}{n:Nat}{f:Array Value->Array Value}{t':Nat}(I:Inv X pins σ H s)(hH:H l=some (.lst xs))
  (e:s.heap.get? l=some {cls:=.type "list",data:=.seq its.toArray n})(hf:f its.toArray=its'.toArray)(hv:XZ ys its')(hz:ys.length<=sizeLine):
  Inv X pins σ (upd H l (.lst ys)) {s with heap:=s.heap.update l (Obj.mapSeq f),toks:=t'}:=by
 have q:=PySem.IsL.update e f
 rw[hf] at q
 refine I.write (x:=l) (e:=l) (by rw[hH];exact trivial) (.inl rfl) (λb' u hb hu=>(Heap.get?_update_other s.heap (Obj.mapSeq f) (Ne.symm hb)).trans hu) ⟨_,q⟩ ?_
 exact⟨hz,its',_,hv,q⟩
theorem Inv.lnew {its:List Value}{t':Nat}(I:Inv X pins σ H s)(hv:XZ ys its)(hz:ys.length<=sizeLine):
  Inv X pins σ (upd H s.heap.objs.size (.lst ys)) {s with heap:=s.heap.push {cls:=.type "list",data:=.seq its.toArray},toks:=t'}:=
 I.laid (λ_ _ q=>Heap.get?_push_of_some _ q) (Nat.le_refl _) ⟨hz,its,0,hv,Heap.get?_push_size _ rfl⟩
theorem Inv.fresh (I:Inv X pins σ H s):H s.heap.objs.size=none:=I.hok.fresh (Nat.le_refl _)
theorem Inv.lstM (I:Inv X pins σ H s)(hH:H l=some (.lst xs)):xs.length<=sizeLine/\∃(its:List Value) (n:Nat),XZ xs its/\xs.length=its.length/\s.heap.get? l=some {cls:=.type "list",data:=.seq its.toArray n}:=by
 obtain⟨z,its,n,r,e⟩:=I.hok l _ hH
 exact⟨z,its,n,r,r.length,e⟩
theorem VL {n:Nat}(h:n<=sizeLine):Builtin.List.listTooLong n=false:=by
 unfold Builtin.List.listTooLong
 exact decide_eq_false (by omega)
end
section
variable {X:Cx}
noncomputable def Qd:V->List V->Hp->VK->Prop:=λx vs H Q=>∃ l xs y,x= .ref l/\vs=[y]/\H l=some (.lst xs)/\xs.length<sizeLine/\Q .non (upd H l (.lst (xs++[y])))
theorem X8:MtM X "list.append" Qd:=by
 intro pins s σ H x vs v us Q I rx rv h
 obtain⟨l,xs,y,rfl,rfl,hH,hz,q⟩:=h
 cases rx
 obtain⟨u,rfl,ru⟩:=rv.one
 obtain⟨z,its,n,r,hl,e⟩:=I.lstM hH
 refine call_meets F.slot_list_append ⟨_,e,rfl⟩ F.entry_list_append (F.args_list_append_2 _ _) (PySem.list_append l its.toArray n u (by rw[List.size_toArray];omega)) ⟨e,?_⟩
 refine⟨.non,_,I.lset (its':=its++[u]) hH e (by simp) (r.append (.cons ru .nil)) ?_,rfl,q⟩
 rw[List.length_append,List.length_singleton]
 omega
noncomputable def FN:V->List V->Hp->VK->Prop:=λx vs H Q=>∃ l b xs zs,x= .ref l/\vs=[.ref b]/\H l=some (.lst xs)/\H b=some (.lst zs)/\xs.length+zs.length<=sizeLine/\Q .non (upd H l (.lst (xs++zs)))
theorem El:MtM X "list.extend" FN:=by
 intro pins s σ H x vs v us Q I rx rv h
 obtain⟨l,b,xs,zs,rfl,rfl,hH,hB,hz,q⟩:=h
 cases rx
 obtain⟨u,rfl,ru⟩:=rv.one
 cases ru
 obtain⟨z,its,n,r,hl,e⟩:=I.lstM hH
 obtain⟨z2,its2,n2,r2,hl2,e2⟩:=I.lstM hB
 have hsz:its.toArray.size+its2.toArray.size<=sizeLine:=by rw[List.size_toArray,List.size_toArray];omega
 have hlong:¬(!its.toArray.isEmpty&&Builtin.List.listTooLong (its.toArray.size+its2.toArray.size))=true:=by
  rw[VL hsz,Bool.and_false]
  exact Bool.false_ne_true
 refine call_meets F.slot_list_extend ⟨_,e,rfl⟩ F.entry_list_extend (F.args_list_extend_2 _ _)
  (AutoSeq1.list_extend_list_list_0 l its.toArray n b its2.toArray n2 hlong (by rw[List.size_toArray];omega) (by omega)) ⟨e,e2,?_⟩
 refine⟨.non,_,I.lset (its':=its++its2) hH e (by simp) (r.append r2) ?_,rfl,q⟩
 rw[List.length_append]
 omega
noncomputable def Cu:V->List V->Hp->VK->Prop:=λx vs H Q=>∃ l xs i k y,x= .ref l/\vs=[.int i]/\H l=some (.lst xs)/\ -(2^63)<=i/\i<2^63/\seqIndex? i xs.length=some k/\xs[k]?=some y/\Q y (upd H l (.lst (xs.eraseIdx k)))
theorem IJ:MtM X "list.pop" Cu:=by
 intro pins s σ H x vs v us Q I rx rv h
 obtain⟨l,xs,i,k,y,rfl,rfl,hH,h1,h2,hk,hy,q⟩:=h
 cases rx
 obtain⟨u,rfl,ru⟩:=rv.one
 obtain⟨t,rfl⟩:=ru
 obtain⟨z,its,n,r,hl,e⟩:=I.lstM hH
 obtain⟨w,hw,rw'⟩:=r.get hy
 refine call_meets F.slot_list_pop ⟨_,e,rfl⟩ F.entry_list_pop (F.args_list_pop_2 _ _)
  (MeetsSeq.list_pop_at l its.toArray n i t k w (fitsIndex_both h1 h2) (by rw[List.size_toArray, ←hl];exact hk) (by rw[←Array.getElem?_toList];exact hw) (by rw[List.size_toArray];omega)) ⟨e,?_⟩
 refine⟨y,_,I.lset (its':=its.eraseIdx k) hH e ?_ (r.eraseIdx k) ?_,rw',q⟩
 ·show its.toArray.eraseIdxIfInBounds k=(its.eraseIdx k).toArray
  rw[List.eraseIdxIfInBounds_toArray]
 ·have:=Gv xs k
  omega
noncomputable def RZ:R2:=λx y H Q=>∃ l b xs zs,x= .ref l/\y= .ref b/\H l=some (.lst xs)/\H b=some (.lst zs)/\xs.length+zs.length<=sizeLine/\∀p,H p=none->Q (.ref p) (upd H p (.lst (xs++zs)))
theorem Zr:OpR X (binaryOp .Add) RZ:=by
 intro pins s σ H x y v u Q I rx ry h
 obtain⟨l,b,xs,zs,rfl,rfl,hH,hB,hz,q⟩:=h
 cases rx
 cases ry
 obtain⟨z,its,n,r,hl,e⟩:=I.lstM hH
 obtain⟨z2,its2,n2,r2,hl2,e2⟩:=I.lstM hB
 refine PySem.P.add_list e e2 ?_ (by rw[List.size_toArray,List.size_toArray];omega)
 have ea:its.toArray++its2.toArray=(its++its2).toArray:=by simp
 rw[ea]
 exact⟨.ref _,_,I.lnew (t':=s.toks) (r.append r2) (by rw[List.length_append];omega),rfl,q _ I.fresh⟩
noncomputable def RT:R2:=λx y H Q=>∃ l k xs,x= .ref l/\y= .int k/\H l=some (.lst xs)/\ -(2^63)<=k/\k<2^63/\xs.length*k.toNat<=sizeLine/\
 ∀p,H p=none->Q (.ref p) (upd H p (.lst (List.replicate k.toNat xs).flatten))
theorem MM {α:Type}(xs:List α)(k:Nat):(List.replicate k xs).flatten.length=k*xs.length:=by
 induction k with
 |zero=>simp
 |succ k ih=>rw[List.replicate_succ,List.flatten_cons,List.length_append,ih,Nat.succ_mul,Nat.add_comm]
theorem BL:OpR X (binaryOp .Mult) RT:=by
 intro pins s σ H x y v u Q I rx ry h
 obtain⟨l,k,xs,rfl,rfl,hH,h1,h2,hz,q⟩:=h
 cases rx
 obtain⟨t,rfl⟩:=ry
 obtain⟨z,its,n,r,hl,e⟩:=I.lstM hH
 have hlen:its.toArray.size*k.toNat<=sizeLine:=by rw[List.size_toArray, ←hl];exact hz
 have hcap:¬its.toArray.size*k.toNat > (2^63-1)/8:=by
  have:(sizeLine:Nat)<=(2^63-1)/8:=by decide
  omega
 have hfit:¬(!Builtin.List.listFitsIndex k)=true:=by
  rw[fitsIndex_both h1 h2]
  exact Bool.false_ne_true
 have hlong:¬Builtin.List.listTooLong (its.toArray.size*k.toNat)=true:=by
  rw[VL hlen]
  exact Bool.false_ne_true
 have hnew:List.foldl (λx1 x2=>x1++x2) #[] (List.replicate (if its.toArray.isEmpty=true then 0 else k.toNat) its.toArray)=(List.replicate k.toNat its).flatten.toArray:=by
  have f0:∀m:Nat,List.foldl (λx1 x2=>x1++x2) #[] (List.replicate m its.toArray)=(List.replicate m its).flatten.toArray:=λm=>by
   have:=GS its m []
   rw[List.nil_append] at this
   exact this
  rw[f0]
  cases its with
  |nil=>simp
  |cons a r'=>rw[if_neg (by simp)]
 refine wpAny_binaryOp_repeat_ref (T:="list") (U:="int") (by decide) ⟨_,e,rfl⟩ (λs'=>typeIs_int s' k t) noFill_list_mul F.fills_int_mul F.slot_int_rmul repeat_list F.slot_int_index.lookup
  (call_meets F.slot_int_rmul (typeIs_int s k t) F.entry_int_rmul (F.args_int_rmul_2 _ _) (int___rmul___int_list k t l its.toArray n)
   ⟨e,rfl,⟨_,e,rfl⟩,call_meets F.slot_list_mul ⟨_,e,rfl⟩ F.entry_list_mul (F.args_list_mul_2 _ _) (AutoListH.list___mul___list_int_3 l its.toArray n k t hfit hcap hlong) ⟨e,?_⟩⟩)
 rw[hnew]
 exact⟨.ref _,_,I.lnew (t':=s.toks) (r.rep k.toNat) (by rw[MM,Nat.mul_comm];exact hz),rfl,q _ I.fresh⟩
end
section
variable {prog:Program}{w:World}{A:Around}{E:Value->Shared->Prop}{s:Shared}
theorem E5 (its its2:List Value)(a c:Nat):its.toArray.extract 0 a++its2.toArray++its.toArray.extract c its.toArray.size=(its.take a++its2++its.drop c).toArray:=by
  apply Array.toList_inj.mp
  first
    | (simp
       exact List.take_of_length_le (by simp))
    |simp[List.take_of_length_le]
    |simp
end
section
variable {X:Cx}
end
end L2
namespace Att
open PySem PySem.W PySem.Calls PyProof.Rows
theorem V4 {P:Params}{h:Heap}:∀(ns:List Int) (vs:List Value),WellAll P h vs (ns.map WData.int)->IntsAre vs ns:=by
 intro ns
 induction ns with
 |nil=>
  intro vs w
  rw[List.map_nil] at w
  cases w
  exact .nil
 |cons n ns ih=>
  intro vs w
  rw[List.map_cons] at w
  cases w with
  |cons a b=>
   cases a
   exact .cons _ _ (ih _ b)
theorem BK {l:OpenLaw}{n:Nat}(hn:l.most=some n){P:Params}{h:Heap}{args:List WData}{vals:List Value}
  (hpre:l.row.toRowW.claim.pre args=true)(hwl:WellAll P h vals args):
  ∃a vs ns,vals=[Value.ref a]/\args=[WData.list (ns.map WData.int)]/\h.get? a=some {cls:=.type "list",data:=.seq vs.toArray}/\IntsAre vs ns/\ns.length<=n:=by
 have hsh:WShape.hasAll [] args [.list .int]=true:=(pre_splitW hpre).1
 have hc:l.pre.holds [] {args:=args}=true:=(pre_splitW hpre).2
 obtain⟨d,r,rfl,h1,h2⟩:=hasAllW_cons hsh
 obtain rfl:=hasAllW_nil h2
 obtain⟨xs,rfl,h3⟩:=hasW_list h1
 obtain⟨ns,rfl⟩:=items_int h3
 have hlen:ns.length<=n:=by
  unfold OpenLaw.pre at hc
  have h4:(WTm.not (.lt (.lit (.int (n:Int))) (.len (.arg 0)))).holds [] {args:=[.list (ns.map .int)]}=true:=by
   have h4:=(holds_andW hc).1
   rw[hn] at h4
   exact h4
  have h5:=condW_of h4 (w_not (w_lt w_lit (w_len_list (w_arg rfl))))
  rw[List.length_map] at h5
  refine Nat.le_of_not_lt λq=>?_
  have q':(n:Int)<((ns.length:Nat):Int):=by omega
  first
   | (rw[decide_eq_true q'] at h5;exact absurd h5 (by decide))
   | (simp at h5;omega)
 cases hwl with
 |cons w1 w2=>
  cases w2
  cases w1 with
  |list ho hall=>exact⟨_,_,ns,rfl,rfl,ho,V4 ns _ hall,hlen⟩
theorem EX (l:OpenLaw)(args:List WData):l.row.toRowW.claim.post args (.bool true) args=true:=
 postW_of (r:=l.row.toRowW) (X:=(true==true))
  (show WShape.has [] (.bool true) .bool=true by first |rfl |decide |simp[WShape.has,WShape.arms,WShape.armsAll])
  (show(WTm.eq .res (.lit (.bool true))).value [] {args:=args,res:=some (.bool true),after:=args}=some (.bool (true==true)) from w_eq_bool (w_res rfl) w_lit) rfl
theorem attach_call {l:OpenLaw}{n:Nat}{q:Program}{loose:List Str}{XP:(Str->Option Value)->Heap->Prop}{YP:World->Heap->Prop}{d:DefRec}
  (hn:l.most=some n)(hdf:d.params.defaults=[])
  (call:∀(w:World) (s₀ s₁:Shared) (mg mb:Str->Option Value) (fa:Addr) (o:Obj) (pm cd doc:Value) (a:Addr) (vs:List Value) (ns:List Int),
   Ground q loose [] XP w s₀ mg mb s₁.heap->YP w s₁.heap->
   s₁.heap.get? fa=some o->o.data= .func (docDef d.name d.params d.body d.scope pm cd doc)->s₁.heap.CodeRec cd d.name->mg d.name=some (.ref fa)->
   s₁.heap.get? a=some {cls:=.type "list",data:=.seq vs.toArray}->IntsAre vs ns->ns.length<=n->s₁.gens= #[]->
   codeAny (model l.prog w) callerA (.call (.ref fa) ⟨[.ref a],[]⟩) (λr s'=>r= .ok (.ret (.bool true))/\OldK s₁.heap s'.heap/\s'.os=s₁.os/\AllBare s'.gens) s₁):
  WalkO q loose XP YP l.row.toRowW d [] (λf vs=>PySem.call f vs):=by
 intro w s₀ s₁ mg mb G Y fa o pm cd doc dV kV ho hd hcd hD hmg hg args vals as hpre hlay hrd hwl hlo
 obtain rfl:dV= .none:=Dflts.none hD hdf
 obtain rfl:kV= .none:=Dflts.noKw hD
 obtain⟨a,vs,ns,rfl,rfl,hobj,hints,hlen⟩:=BK hn hpre hwl
 refine enter_call (codeAny_mono (call w s₀ s₁ mg mb fa o pm cd doc a vs ns G Y ho (fd_plain hd) hcd hmg hobj hints hlen hg) λr s' hq=>?_)
 obtain⟨rfl,h2,h3,h4⟩:=hq
 exact⟨.inl ⟨.bool true, .bool true,[],rfl,λ_=>rfl, .bool true,EX l _,λ_=>⟨List.Pairwise.nil,λ_ hm=>(nomatch hm)⟩⟩,h2,h3,h4⟩
section
variable {prog:Program}{w:World}{A:Around}{E:Value->Shared->Prop}{s:Shared}{K:Frag}
noncomputable def R3 (h:Heap)(L d:Addr):List (Addr×Obj):=(List.range h.objs.size).filterMap λa=>if a=L∨a=d then none else(h.get? a).map λo=>(a,o)
end
end Att
namespace L2
open PySem PySem.Spec PyProof.Rows
theorem Uw:∀{vs:List Value}{ns:List Int},IntsAre vs ns->XZ (ns.map V.int) vs:=λp=>by
 induction p with
 |nil=>exact .nil
 |cons n t _ ih=>exact .cons ⟨t,rfl⟩ ih
noncomputable def Rz (H:Hp):Prop:=∀ b,H b=none∨∃o xs,H b=some (.frz o (.lst xs))
theorem IW {P:Program}{w:World}{K:PySem.W.Frag}{mg mb:Str->Option Value}{CX:CXT}{k:Nat}{fa a:Addr}{fd:FuncData}{x:Str}{sp:Sp}{s₁:Shared}{vs:List Value}{ns:List Int}
  (KX:K.In s₁.heap)(hns:s₁.heap.Ns mainGlobals mg)(hb:s₁.heap.Ns builtinsNs mb)(hbb:∀x:Str,x≠ "__name__" ->mb x=bootBuiltins x)(hlim:s₁.heap.NoLimit)(hg:s₁.gens= #[])
  (ha:s₁.heap.get? a=some {cls:=.type "list",data:=.seq vs.toArray})(hi:IntsAre vs ns)(hl:ns.length<=sizeLine)(hr:Room k callerA)
  (F:∀base:Heap,K.In base->base.Ns mainGlobals mg->FnOk P w K mg base CX k fa fd [x] sp)(hbind:∀(s:Shared) (u:Value),BindsTo s fd ⟨[u],[]⟩ [(x,u)])
  (hsp:∀H:Hp,Rz H->SqL K H a (ns.map V.int)->sp [.ref a] H (λv _=>v= .bl true) λ_ _ _=>False)
  (hCX:∀H e s',CX [] H s₁ (λ_ _ _=>False) e s'->False):
  codeAny (model P w) callerA (.call (.ref fa) ⟨[.ref a],[]⟩) (λr s'=>r= .ok (.ret (.bool true))/\OldK s₁.heap s'.heap/\s'.os=s₁.os/\AllBare s'.gens) s₁:=by
 have rv:=Uw hi
 have lenV:=hi.length
 -- from an abstract heap in which nothing but the script may be tracked
 have core:∀H:Hp,Rz H->SqL K H a (ns.map V.int)->HOk P w H s₁.heap->(∀b,H b≠none->b=a)->(H a≠none->K.lookup a=none)->
   codeAny (model P w) callerA (.call (.ref fa) ⟨[.ref a],[]⟩) (λr s'=>r= .ok (.ret (.bool true))/\OldK s₁.heap s'.heap/\s'.os=s₁.os/\AllBare s'.gens) s₁:=by
  intro H hO hS hok hA hK
  have base_of:∀{b:Addr}{o:Obj},s₁.heap.get? b=some o->H b=none->(HL s₁.heap H).get? b=some o:=λe n=>Du e n
  have noA:∀{b:Addr}{o:Obj}{es:Array DictEntry}{ep:Nat},s₁.heap.get? b=some o->o.data= .dict es ep->H b=none:=fun {b o es ep} e d=>by
   cases q:H b with
   |none=>rfl
   |some u=>
    have e':b=a:=hA b (by rw[q];simp)
    subst e'
    rw[ha] at e;cases e
    have d':Data.seq vs.toArray _=Data.dict es ep:=d
    cases d'
  have nsK:∀{b:Addr}{m:Str->Option Value},s₁.heap.Ns b m->(HL s₁.heap H).Ns b m:=fun {b m} ⟨o,es,ep,e,d,r⟩=>⟨o,es,ep,base_of e (noA e d),d,r⟩
  have hKb:K.In (HL s₁.heap H):=λb o e=>base_of (KX b o e) (by
   cases q:H b with
   |none=>rfl
   |some u=>
    have e':b=a:=hA b (by rw[q];simp)
    subst e'
    rw[hK (by rw[q];simp)] at e;cases e)
  have hM:Mod K mg (HL s₁.heap H):=⟨hKb,nsK hns,⟨mb,nsK hb,hbb⟩,let ⟨mc,h1,h2⟩:=hlim;⟨mc,nsK h1,h2⟩⟩
  have e0:Env0 P w K mg (HL s₁.heap H) callerA [] s₁ H:=⟨rfl,hM,λb o e=>M9 e,Nat.le_of_eq (BD _ _),trivial,λb hb=>absurd (show b∈([]:List Addr) from hb) (by simp),hok, .of_eq hg⟩
  refine codeAny_mono ((F _ hKb (nsK hns)).run callerA [] s₁ H ⟨[.ref a],[]⟩ [.ref a] [.ref a] _ _ hr e0 (hbind s₁ (.ref a)) (.cons rfl .nil) (hsp H hO hS)) λr s' h=>?_
  cases r with
  |error e=>exact(hCX H e s' h).elim
  |ok fl=>
   cases fl with
   |next=>exact False.elim h
   |brk=>exact False.elim h
   |cont=>exact False.elim h
   |ret u=>
    obtain⟨v,H',os,bare,un,hok',r',q⟩:=h
    have q':v= .bl true:=q
    subst q'
    obtain rfl:u=Value.bool true:=r'
    refine⟨rfl,OldK.of_keep λb o e=>?_,os,bare⟩
    cases q:H b with
    |none=>exact un.keep b o e q (by intro z;exact absurd (show b∈([]:List Addr) from z) (by simp)) (by simp)
    |some u=>
     rcases hO b with z | ⟨ob,xs,z⟩
     ·rw[q] at z;cases z
     ·have z2:=un.frzs b ob _ z
      obtain⟨e1,_⟩:=hok b _ z
      obtain⟨e2,_⟩:=hok' b _ z2
      rw[e] at e1;cases e1
      exact e2
 cases hk:K.lookup a with
 |some o=>
  -- the script is one of the module's own objects
  have e:=KX a o hk
  rw[ha] at e
  cases e
  refine core (λ_=>none) (λ_=>.inl rfl) (.inr ⟨_,vs.toArray,_,hk,rfl,rfl,rfl,by rw[List.size_toArray,lenV];exact hl,by simpa using rv⟩) (λb u z=>by have z':(none:Option HO)=some u:=z;cases z') (λb z=>absurd rfl z) λz=>absurd rfl z
 |none=>
  refine core (λb=>if b=a then some (.frz {cls:=.type "list",data:=.seq vs.toArray} (.lst (ns.map V.int))) else none) (λb=>?_) (.inl (.inr ⟨{cls:=.type "list",data:=.seq vs.toArray},if_pos rfl⟩)) (λb u z=>?_) (λb z=>?_) λ_=>hk
  ·by_cases hb:b=a
   ·exact .inr ⟨_,_,if_pos hb⟩
   ·exact .inl (if_neg hb)
  ·by_cases hb:b=a
   ·have z':=(if_pos hb).symm.trans z
    cases z'
    subst hb
    exact⟨ha,by rw[List.length_map];exact hl,vs,_,rv,ha⟩
   ·have z':=(if_neg hb).symm.trans z
    cases z'
  ·by_cases hb:b=a
   ·exact hb
   ·exact absurd (if_neg hb) z
theorem Ng {l:PySem.W.OpenLaw}{n k:Nat}{q:Program}{loose:List Str}{XP:(Str->Option Value)->Heap->Prop}{YP:World->Heap->Prop}{d:DefRec}{K:Params->PySem.W.Frag}{CX:World->CXT}{sp:World->Sp}{x:Str}
  (hn:l.most=some n)(hn2:n<=sizeLine)(hdf:d.params.defaults=[])(hr:Room k callerA)
  (hY:∀(w:World) (h:Heap),YP w h->(K w.params).In h)
  (F:∀(w:World) (mg:Str->Option Value) (fa:Addr) (h:Heap),(K w.params).In h->h.Ns mainGlobals mg->mg d.name=some (.ref fa)->
   ∃fd:FuncData,(∀(s:Shared) (u:Value),BindsTo s fd ⟨[u],[]⟩ [(x,u)])/\
    ∀base:Heap,(K w.params).In base->base.Ns mainGlobals mg->FnOk l.prog w (K w.params) mg base (CX w) k fa fd [x] (sp w))
  (hsp:∀(w:World) (H:Hp) (a:Addr) (ns:List Int),ns.length<=n->Rz H->SqL (K w.params) H a (ns.map V.int)->sp w [.ref a] H (λv _=>v= .bl true) λ_ _ _=>False)
  (hCX:∀(w:World) (H:Hp) (s:Shared) (e:Value) (s':Shared),CX w [] H s (λ_ _ _=>False) e s'->False):
  PySem.W.WalkO q loose XP YP l.row.toRowW d [] (λf vs=>PySem.call f vs):=by
 refine Att.attach_call hn hdf λw s₀ s₁ mg mb fa o pm cd doc a vs ns G Y ho hd hcd hmg hobj hints hlen hg=>?_
 have KX:=hY w _ Y
 obtain⟨fd,hb,hF⟩:=F w mg fa _ KX G.T.g hmg
 exact IW KX G.T.g G.T.b G.T.builtins G.T.nolimit hg hobj hints (Nat.le_trans hlen hn2) hr hF hb (λH hO hS=>hsp w H a ns hlen hO hS) λH e s'=>hCX w H s₁ e s'
noncomputable def Yx (s:Stmt):Arguments:=match s with
 | .FunctionDef _ a _ _ _ _ _ _ _ _=>a
 |_=>{posonlyargs:=[],args:=[],vararg:=none,kwonlyargs:=[],kw_defaults:=[],kwarg:=none,defaults:=[]}
noncomputable def X6 (s:Stmt):List Stmt:=match s with
 | .FunctionDef _ _ b _ _ _ _ _ _ _=>b
 |_=>[]
noncomputable def Xj (s:Stmt):Scope:=match s with
 | .FunctionDef _ _ _ _ _ _ sc _ _ _=>sc
 |_=>{kind:=.function,names:=[],isGenerator:=false,isCoroutine:=false}
noncomputable abbrev CX0:CXT:=λ_ _ _ _ _ _=>False
noncomputable abbrev E0:XK:=λ_ _ _=>False
theorem Ry {X:Cx}:Ht CX0 X E0:=λ_ _ _ _ _ _ _ h=>h.elim
structure Fun (K:PySem.W.Frag)(x qual:Str)(st:Stmt)(f:Addr)(fd:FuncData):Prop where
 ex:∃(oc:Value) (od:Option Addr) (kV doc pm:Value) (an:Option Addr) (cdv ct:Value) (osl:Array (Option Value)),
  fd=PySem.W.fnOf x qual (Yx st) (X6 st) (Xj st) .none kV doc pm an cdv ct/\K.lookup f=some ⟨oc,od, .func fd,osl⟩/\PySem.W.codeIn K cdv qual=true
 kp:PySem.W.keepIn K (.ref f)=true
section
variable {P:Program}{w:World}{K:PySem.W.Frag}{mg:Str->Option Value}{base:Heap}
theorem Fun.ok {x qual:Str}{st:Stmt}{f:Addr}{fd:FuncData}{N ps:List Str}{k:Nat}{sp:Sp}(F:Fun K x qual st f fd)(S:FnScope N ps (Xj st))(len:∀vs H Q E,sp vs H Q E->vs.length=ps.length)
  (hbody:∀(cdv:Value) (A:Around) (outer:List Env) (s:Shared) (H:Hp) (vs:List V) (Q:VK) (E:XK),Room k (A.deeper (envOfC qual (Xj st) s.heap.objs.size f cdv))->sp vs H Q E->
   ∃t,PSs (Bs CX0 P w K mg base N qual (Xj st) f cdv A outer s H E).nox (X6 st) t/\t {nx:=λ_ H'=>Q .non H',rt:=Q} (Uz N vs) H):FnOk P w K mg base CX0 (k+1) f fd ps sp:=by
 obtain⟨oc,od,kV,doc,pm,an,cdv,ct,osl,rfl,lk,hcd⟩:=F.ex
 refine Rr lk hcd S len λA outer s H vs Q E hr hsp=>?_
 obtain⟨t,h,q⟩:=hbody cdv A outer s H vs Q E hr hsp
 exact⟨t,h.nox,q⟩
theorem Fun.binds {x qual:Str}{st:Stmt}{f:Addr}{fd:FuncData}{ps:List Str}(F:Fun K x qual st f fd)
  (h:∀(kV doc pm:Value) (an:Option Addr) (cdv ct:Value) (us:List Value),us.length=ps.length->bindArgs (PySem.W.fnOf x qual (Yx st) (X6 st) (Xj st) .none kV doc pm an cdv ct) ⟨us,[]⟩=pure (ps.zip us)):Fk K fd ps []:=by
 obtain⟨oc,od,kV,doc,pm,an,cdv,ct,osl,rfl,lk,hcd⟩:=F.ex
 exact .all (h kV doc pm an cdv ct)
theorem QF {x qual:Str}{st:Stmt}{f:Addr}{oc:Value}{od an:Option Addr}{osl:Array (Option Value)}{kV doc pm cdv ct:Value}(l:K.lookup f=some ⟨oc,od, .func (PySem.W.fnOf x qual (Yx st) (X6 st) (Xj st) .none kV doc pm an cdv ct),osl⟩)
  (c:PySem.W.codeIn K cdv qual=true)(k:PySem.W.keepIn K (.ref f)=true):Fun K x qual st f (PySem.W.fnOf x qual (Yx st) (X6 st) (Xj st) .none kV doc pm an cdv ct):=⟨⟨oc,od,kV,doc,pm,an,cdv,ct,osl,rfl,l,c⟩,k⟩
end
theorem Uu {A:Around}{k:Nat}(hr:Room k A):A.units+1<cLine:=Nat.lt_of_le_of_lt (Nat.add_le_add_left (by decide:1<=64) _) hr.units
theorem BN {n:Nat}(h:n<=1000):n<sizeLine:=Nat.lt_of_le_of_lt h (by decide)
section
variable {X:Cx}
theorem pv (i:Nat){x:Str}{pos:Pos}(hN:X.N[i]?=some x:=by rfl)(hv:Vis X.env.scope x:=by first |exact Or.inl rfl |exact Or.inr (Or.inl rfl) |exact Or.inr (Or.inr rfl))(hd:(x==("__debug__":Str))=false:=by decide)
  (hcd:(x==("__classdict__":Str))=false:=by decide):PE X (.Name x pos) (Qb i):=OU hN hv hd hcd
end
noncomputable def Xu (H H':Hp):Prop:=∀ b o,H b=some o->H' b=some o
theorem Xu.refl (H:Hp):Xu H H:=λ_ _ h=>h
theorem Xu.trans {H H1 H2:Hp}(a:Xu H H1)(b:Xu H1 H2):Xu H H2:=λc o h=>b c o (a c o h)
theorem Xu.free {H H':Hp}(e:Xu H H'){l:Addr}(h:H' l=Option.none):H l=Option.none:=by
 cases q:H l with
 |none=>rfl
 |some o=>
  rw[e l o q] at h
  cases h
theorem Xu.seq {K:PySem.W.Frag}{H H':Hp}{a:Addr}{xs:List V}(e:Xu H H')(h:SqL K H a xs):SqL K H' a xs:=by
 rcases h with(h | ⟨o,h⟩) |h
 ·exact .inl (.inl (e _ _ h))
 ·exact .inl (.inr ⟨o,e _ _ h⟩)
 ·exact .inr h
section
variable {κ:Type}[DecidableEq κ]
noncomputable def GN (kvs:List (κ×V))(k:κ):Option V:=(kvs.find? λkv=>decide (kv.1=k)).map (·.2)
noncomputable def Ue (kvs:List (κ×V))(k:κ)(v:V):List (κ×V):=
 if(kvs.any λkv=>decide (kv.1=k))=true then kvs.map (λkv=>if kv.1=k then(kv.1,v) else kv) else kvs++[(k,v)]
noncomputable def Ux (kvs:List (κ×V))(k:κ):List (κ×V):=kvs.filter λkv=>decide (kv.1≠k)
theorem VI {p:κ×V}{r:List (κ×V)}{k:κ}(e:p.1=k):GN (p::r) k=some p.2:=by simp[GN,List.find?_cons,e]
theorem VF {p:κ×V}{r:List (κ×V)}{k:κ}(e:¬p.1=k):GN (p::r) k=GN r k:=by simp[GN,List.find?_cons,e]
theorem Cj (k:κ):∀kvs:List (κ×V),(kvs.any λkv=>decide (kv.1=k))=(GN kvs k).isSome
 | []=>rfl
 |p::r=>by
  rw[List.any_cons]
  by_cases e:p.1=k
  ·simp only[VI e,decide_eq_true e,Bool.true_or,Option.isSome_some]
  ·rw[VF e,decide_eq_false e,Bool.false_or];exact Cj k r
theorem Uy (kvs:List (κ×V))(k:κ)(v:V):(Ue kvs k v).length<=kvs.length+1:=by
 unfold Ue
 split
 ·rw[List.length_map];omega
 ·rw[List.length_append,List.length_cons,List.length_nil];omega
theorem Cr.isSome_eq {o:Option V}{u:Option Value}(r:Cr o u):o.isSome=u.isSome:=by
 cases o with
 |none=>cases u with
  |none=>rfl
  |some _=>exact(show False from r).elim
 |some _=>cases u with
  |none=>exact(show False from r).elim
  |some _=>rfl
theorem Cr.getD {o:Option V}{u:Option Value}{d:V}{d':Value}(r:Cr o u)(rd:XW d d'):XW (o.getD d) (u.getD d'):=by
 cases o with
 |none=>cases u with
  |none=>exact rd
  |some _=>exact(show False from r).elim
 |some _=>cases u with
  |none=>exact(show False from r).elim
  |some _=>exact r
theorem KV.val {kvs:List (κ×V)}{vs:List (κ×Value)}(r:KV kvs vs)(k:κ):Cr (GN kvs k) (valueAt vs k):=by
 unfold KV at r
 induction r with
 |nil=>exact True.intro
 | @cons p q ps qs h t ih=>
  obtain⟨h1,h2⟩:=h
  by_cases e:p.1=k
  ·have e':q.1=k:=h1.symm.trans e
   have b:valueAt (q::qs) k=some q.2:=by simp[valueAt,List.find?_cons,e']
   rw[VI e,b];exact h2
  ·have e':¬q.1=k:=λz=>e (h1.trans z)
   have b:valueAt (q::qs) k=valueAt qs k:=by simp[valueAt,List.find?_cons,e']
   rw[VF e,b];exact ih
theorem KV.any {kvs:List (κ×V)}{vs:List (κ×Value)}(r:KV kvs vs)(k:κ):(kvs.any λkv=>decide (kv.1=k))=vs.any λkv=>decide (kv.1=k):=by
 unfold KV at r
 induction r with
 |nil=>rfl
 |cons h t ih=>rw[List.any_cons,List.any_cons,ih,h.1]
theorem KV.repl {kvs:List (κ×V)}{vs:List (κ×Value)}(r:KV kvs vs)(k:κ){y:V}{u:Value}(ry:XW y u):
  KV (kvs.map λkv=>if kv.1=k then(kv.1,y) else kv) (vs.map λkv=>if kv.1=k then(kv.1,u) else kv):=by
 unfold KV at r⊢
 induction r with
 |nil=>exact .nil
 | @cons p q ps qs h t ih=>
  rw[List.map_cons,List.map_cons]
  refine .cons ?_ ih
  obtain⟨h1,h2⟩:=h
  by_cases e:p.1=k
  ·rw[if_pos e,if_pos (h1.symm.trans e)];exact⟨h1,ry⟩
  ·rw[if_neg e,if_neg (λz=>e (h1.trans z))];exact⟨h1,h2⟩
theorem KV.put {kvs:List (κ×V)}{vs:List (κ×Value)}(r:KV kvs vs)(k:κ){y:V}{u:Value}(ry:XW y u):KV (Ue kvs k y) (stored vs k u):=by
 unfold Ue stored
 rw[r.any k]
 by_cases e:(vs.any λkv=>decide (kv.1=k))=true
 ·rw[if_pos e,if_pos e];exact r.repl k ry
 ·rw[if_neg e,if_neg e];exact Paired.snoc r ⟨rfl,ry⟩
theorem KV.drop {kvs:List (κ×V)}{vs:List (κ×Value)}(r:KV kvs vs)(k:κ):KV (Ux kvs k) (without vs k):=by
 unfold KV at r⊢
 unfold Ux without
 induction r with
 |nil=>exact .nil
 | @cons p q ps qs h t ih=>
  obtain⟨h1,h2⟩:=h
  rw[List.filter_cons,List.filter_cons]
  by_cases e:p.1=k
  ·have a:¬decide (p.1≠k)=true:=by simp[e]
   have b:¬decide (q.1≠k)=true:=by simp[h1.symm.trans e]
   rw[if_neg a,if_neg b];exact ih
  ·have e':¬q.1=k:=λz=>e (h1.trans z)
   have a:decide (p.1≠k)=true:=by simp[e]
   have b:decide (q.1≠k)=true:=by simp[e']
   rw[if_pos a,if_pos b];exact .cons ⟨h1,h2⟩ ih
theorem KV.keys {kvs:List (κ×V)}{vs:List (κ×Value)}(r:KV kvs vs):kvs.map (·.1)=vs.map (·.1):=by
 unfold KV at r
 induction r with
 |nil=>rfl
 |cons h t ih=>rw[List.map_cons,List.map_cons,ih,h.1]
theorem KV.length {kvs:List (κ×V)}{vs:List (κ×Value)}(r:KV kvs vs):kvs.length=vs.length:=Paired.length r
theorem IZ (kvs:List (κ×V))(k:κ):(Ux kvs k).length<=kvs.length:=List.length_filter_le _ _
end
theorem Bj {P:Program}{w:World}{k:Key}{u:Value}(r:XW (kV k) u):(X7 P w).is k u=true:=by
 cases k with
 |inl i=>obtain⟨t,e⟩:=(show ∃t,u=Value.int i t from r);subst e;exact FU P w i t
 |inr x=>obtain⟨t,e⟩:=(show ∃t,u=Value.str x t from r);subst e;exact De P w x t
theorem G2 {P:Program}{w:World}:∀{ks:List Key}{us:List Value},XZ (ks.map kV) us->ItemsAre (X7 P w) ks us
 | [],_,r=>by rw[List.map_nil] at r;cases r;exact .nil
 |k::ks,_,r=>by
  rw[List.map_cons] at r
  cases r with
  |cons h t=>exact .cons (Bj h) (G2 t)
noncomputable abbrev KT (H:Hp):List (List Key×V)->List (List Key×Addr×Value)->Prop:=Paired λp q=>p.1=q.1/\H q.2.1=some (.tup (p.1.map kV))/\XW p.2 q.2.2
theorem KT.val {H:Hp}{kvs:List (List Key×V)}{xs:List (List Key×Addr×Value)}(r:KT H kvs xs)(k:List Key):Cr (GN kvs k) ((atKey xs k).map (·.2)):=by
 induction r with
 |nil=>exact True.intro
 | @cons p q ps qs h t ih=>
  obtain⟨h1,_,h2⟩:=h
  by_cases e:p.1=k
  ·have e':q.1=k:=h1.symm.trans e
   have b:atKey (q::qs) k=some q.2:=by simp[atKey,List.find?_cons,e']
   rw[VI e,b];exact h2
  ·have e':¬q.1=k:=λz=>e (h1.trans z)
   have b:atKey (q::qs) k=atKey qs k:=by simp[atKey,List.find?_cons,e']
   rw[VF e,b];exact ih
theorem KT.repl {H:Hp}{kvs:List (List Key×V)}{xs:List (List Key×Addr×Value)}(r:KT H kvs xs)(k:List Key){y:V}{u:Value}(ry:XW y u):
  KT H (kvs.map λkv=>if kv.1=k then(kv.1,y) else kv) (xs.map (putAt k u)):=by
 induction r with
 |nil=>exact .nil
 | @cons p q ps qs h t ih=>
  rw[List.map_cons,List.map_cons]
  refine .cons ?_ ih
  obtain⟨h1,h2,h3⟩:=h
  unfold putAt
  by_cases e:p.1=k
  ·rw[if_pos e,if_pos (h1.symm.trans e)];exact⟨h1,h2,ry⟩
  ·rw[if_neg e,if_neg (λz=>e (h1.trans z))];exact⟨h1,h2,h3⟩
theorem KT.put {H:Hp}{kvs:List (List Key×V)}{xs:List (List Key×Addr×Value)}(r:KT H kvs xs)(k:List Key){b:Addr}{y:V}{u:Value}(hb:H b=some (.tup (k.map kV)))(ry:XW y u):
  KT H (Ue kvs k y) (storedH xs k b u):=by
 have e:(kvs.any λkv=>decide (kv.1=k))=(atKey xs k).isSome:=by
  rw[Cj,(r.val k).isSome_eq,Option.isSome_map]
 unfold Ue storedH
 rw[e]
 by_cases q:(atKey xs k).isSome=true
 ·rw[if_pos q,if_pos q];exact r.repl k ry
 ·rw[if_neg q,if_neg q];exact Paired.snoc r ⟨rfl,hb,ry⟩
theorem KT.keeps {H H':Hp}{kvs:List (List Key×V)}{xs:List (List Key×Addr×Value)}(r:KT H kvs xs)(ht:∀b ys,H b=some (.tup ys)->H' b=some (.tup ys)):KT H' kvs xs:=
 Paired.mapP r λ_ _ z=>⟨z.1,ht _ _ z.2.1,z.2.2⟩
section
variable {P:Program}{w:World}{H:Hp}{h:Heap}{a:Addr}
theorem O0 {u:HO}(ok:HOk P w H h)(e:Rd H a u):Yp P w H h a u:=e.ok ok
theorem B1 {kvs:List (Key×V)}(ok:HOk P w H h)(e:Rd H a (.dK kvs)):kvs.length<=sizeLine/\(a==sysModules)=false/\∃vs,KV kvs vs/\h.DictOf (X7 P w) a vs:=
 show Yp P w H h a (.dK kvs) from O0 ok e
theorem Pp {kvs:List (Key×V)}(ok:HOk P w H h)(e:H a=some (.dK kvs)):kvs.length<=sizeLine/\(a==sysModules)=false/\∃vs,KV kvs vs/\h.DictOf (X7 P w) a vs:=B1 ok (.inl e)
theorem GZ {ks:List Key}(ok:HOk P w H h)(e:H a=some (.tup (ks.map kV))):(tupleKind (X7 P w)).is h ks a:=by
 obtain⟨_,its,r,o,h1,h2,n,h3⟩:=(show Yp P w H h a (.tup (ks.map kV)) from ok a _ e)
 exact⟨o,its.toArray,n,h1,h2.1,h3,by simpa using G2 r⟩
theorem EQ {kvs:List (List Key×V)}(ok:HOk P w H h)(e:Rd H a (.dT kvs)):kvs.length<=sizeLine/\(a==sysModules)=false/\
  ∃xs,KT H kvs xs/\h.DictOfH (tupleKind (X7 P w)) a xs:=by
 obtain⟨z,y,xs,r,o,es,ep,h1,h2,h3,h4,h5⟩:=(show Yp P w H h a (.dT kvs) from O0 ok e)
 refine⟨z,y,xs,r,o,es,ep,h1,h2,h3,h4,λx hx=>?_,h5⟩
 have all:∀{l:List (List Key×V)}{m:List (List Key×Addr×Value)},KT H l m->∀x∈m,(tupleKind (X7 P w)).is h x.1 x.2.1:=by
  intro l m q
  induction q with
  |nil=>intro x hx;exact nomatch hx
  | @cons p q ps qs hq t ih=>
   intro x hx
   rcases List.mem_cons.mp hx with e |hx
   ·subst e
    exact GZ ok (by rw[←hq.1];exact hq.2.1)
   ·exact ih x hx
 exact all r x hx
theorem RH {kvs:List (List Key×V)}(ok:HOk P w H h)(e:H a=some (.dT kvs)):kvs.length<=sizeLine/\(a==sysModules)=false/\
  ∃xs,KT H kvs xs/\h.DictOfH (tupleKind (X7 P w)) a xs:=EQ ok (.inl e)
end
noncomputable def IY (H:Hp)(a:Addr)(y:V)(r:Option V):Prop:=
 (∃kvs k,Rd H a (.dK kvs)/\y=kV k/\r=GN kvs k)∨∃kvs k b,Rd H a (.dT kvs)/\y= .ref b/\H b=some (.tup (k.map kV))/\r=GN kvs k
noncomputable def N8 (H:Hp)(a:Addr)(y v:V)(H':Hp):Prop:=
 (∃kvs k,H a=some (.dK kvs)/\y=kV k/\kvs.length<sizeLine/\H'=upd H a (.dK (Ue kvs k v)))∨
 ∃kvs k b,H a=some (.dT kvs)/\y= .ref b/\H b=some (.tup (k.map kV))/\kvs.length<sizeLine/\H'=upd H a (.dT (Ue kvs k v))
theorem IY.k {H:Hp}{a:Addr}{kvs:List (Key×V)}{k:Key}(e:H a=some (.dK kvs)):IY H a (kV k) (GN kvs k):=.inl ⟨kvs,k, .inl e,rfl,rfl⟩
theorem IY.t {H:Hp}{a b:Addr}{kvs:List (List Key×V)}{k:List Key}(e:H a=some (.dT kvs))(eb:H b=some (.tup (k.map kV))):IY H a (.ref b) (GN kvs k):=.inr ⟨kvs,k,b, .inl e,rfl,eb,rfl⟩
theorem N8.k {H:Hp}{a:Addr}{kvs:List (Key×V)}{k:Key}{v:V}(e:H a=some (.dK kvs))(hl:kvs.length<sizeLine):N8 H a (kV k) v (upd H a (.dK (Ue kvs k v))):=.inl ⟨kvs,k,e,rfl,hl,rfl⟩
theorem N8.t {H:Hp}{a b:Addr}{kvs:List (List Key×V)}{k:List Key}{v:V}(e:H a=some (.dT kvs))(eb:H b=some (.tup (k.map kV)))(hl:kvs.length<sizeLine):
  N8 H a (.ref b) v (upd H a (.dT (Ue kvs k v))):=.inr ⟨kvs,k,b,e,rfl,eb,hl,rfl⟩
section
variable {X:Cx}{pins:List (Addr×Obj)}{σ:St}{H:Hp}{s:Shared}{a:Addr}{y v:V}{u r:Value}{o:Option V}{A:Around}{E:Value->Shared->Prop}
theorem Inv.big (I:Inv X pins σ H s):sysModules<s.heap.objs.size:=by
 have h:mainGlobals<s.heap.objs.size:=(I.mod.glob.keeps I.bk).lt
 exact Nat.lt_trans (by decide) h
theorem Ec {Q:Value->Shared->Prop}(hu:A.units+1<cLine)(I:Inv X pins σ H s)(g:IY H a y (some v))(ry:XW y u)(h:∀w' s',Inv X pins σ H s'->XW v w'->Q w' s'):
  wpAny (model X.prog X.w) A (getItem (.ref a) u) Q E s:=by
 rcases g with⟨kvs,k,e,ey,l⟩ | ⟨kvs,k,b,e,ey,eb,l⟩
 ·subst ey
  obtain⟨z,hd,vs,rel,dd⟩:=B1 I.hok e
  obtain⟨w',hw,rw'⟩:=Cr.some_of (v:=v) (o:=valueAt vs k) (by rw[l];exact rel.val k)
  exact wpAny_getItem_of (Bj ry) dd.mapOf hw (h w' _ (I.tok _) rw')
 ·subst ey
  cases(show u=Value.ref b from ry)
  obtain⟨z,hd,xs,rel,dd⟩:=EQ I.hok e
  obtain⟨w',hw,rw'⟩:=Cr.some_of (v:=v) (o:=(atKey xs k).map (·.2)) (by rw[l];exact rel.val k)
  obtain⟨p,hp,hp2⟩:=Option.map_eq_some_iff.mp hw
  refine wpAny_getItem_heap (tupleKind_room_in1 hu) (GZ I.hok eb) dd hp ?_
  rw[hp2]
  exact h w' _ (I.tok _) rw'
theorem SE {Q:Value->Shared->Prop}(hu:A.units+1<cLine)(I:Inv X pins σ H s)(g:IY H a y o)(ry:XW y u)(h:∀s',Inv X pins σ H s'->Q (.bool o.isSome) s'):
  wpAny (model X.prog X.w) A (compareOp .In u (.ref a)) Q E s:=by
 rcases g with⟨kvs,k,e,ey,l⟩ | ⟨kvs,k,b,e,ey,eb,l⟩
 ·subst ey
  obtain⟨z,hd,vs,rel,dd⟩:=B1 I.hok e
  refine wpAny_in_of (Bj ry) hd dd.mapOf ?_
  rw[←(rel.val k).isSome_eq, ←l]
  exact h _ (I.tok _)
 ·subst ey
  cases(show u=Value.ref b from ry)
  obtain⟨z,hd,xs,rel,dd⟩:=EQ I.hok e
  refine wpAny_in_heap (tupleKind_room_in1 hu) (GZ I.hok eb) hd dd ?_
  have q:=(rel.val k).isSome_eq
  rw[Option.isSome_map] at q
  rw[←q, ←l]
  exact h _ (I.tok _)
theorem Ft {h':Heap}{t':Nat}{ob:HO}(I:Inv X pins σ H s)(mu:Mut (H a))(hs:Heap.SameBut a s.heap h')(he:∃q,h'.get? a=some q)(new:Yp X.prog X.w (upd H a ob) h' a ob):
  Inv X pins σ (upd H a ob) {s with heap:=h',toks:=t'}:=
 I.write (x:=a) (e:=a) mu (.inl rfl) (λb q hb z=>(hs.2 b hb).trans z) he new
theorem LR {P:Program}{w:World}{H':Hp}{h':Heap}{kvs:List (Key×V)}{vs:List (Key×Value)}(z:kvs.length<=sizeLine)(hd:(a==sysModules)=false)(rel:KV kvs vs)(dd:h'.DictOf (X7 P w) a vs):
  Yp P w H' h' a (.dK kvs):=⟨z,hd,vs,rel,dd⟩
theorem BV {H':Hp}{Q:Unit->Shared->Prop}(hu:A.units+1<cLine)(I:Inv X pins σ H s)(g:N8 H a y v H')(ry:XW y u)(rv:XW v r)(h:∀s',Inv X pins σ H' s'->Q () s'):
  wpAny (model X.prog X.w) A (setItem (.ref a) u r) Q E s:=by
 rcases g with⟨kvs,k,e,ey,l,eH⟩ | ⟨kvs,k,b,e,ey,eb,l,eH⟩
 ·subst ey eH
  obtain⟨z,hd,vs,rel,dd⟩:=Pp I.hok e
  have hz:vs.length<=sizeLine:=by rw[←rel.length];exact z
  have hl:(Ue kvs k v).length<=sizeLine:=by have:=Uy kvs k v;omega
  refine wpAny_setItem_pairs (hsz:=hz) (Bj ry) dd λh' dd' hs=>h _ ?_
  have he:∃q,h'.get? a=some q:=let ⟨q,_,_,hq,_⟩:=dd';⟨q,hq⟩
  exact Ft I (by rw[e];exact True.intro) hs he (LR hl hd (rel.put k rv) dd')
 ·subst ey eH
  cases(show u=Value.ref b from ry)
  obtain⟨z,hd,xs,rel,dd⟩:=RH I.hok e
  have hz:xs.length<=sizeLine:=by rw[←Paired.length rel];exact z
  have hl:(Ue kvs k v).length<=sizeLine:=by have:=Uy kvs k v;omega
  refine wpAny_setItem_heap (hsz:=hz) (tupleKind_room_in1 hu) (GZ I.hok eb) dd λh' dd' hs=>h _ ?_
  obtain⟨q,es,ep,hq,h2,h3,h4,_,h5⟩:=dd'
  refine Ft I (by rw[e];exact True.intro) hs ⟨q,hq⟩ ⟨hl,hd,_,(rel.put k eb rv).keeps λc ys ec=>?_,q,es,ep,hq,h2,h3,h4,h5⟩
  rw[XT (RJ ec e (λz=>nomatch z))]
  exact ec
end
section
variable {X:Cx}{pins:List (Addr×Obj)}{σ:St}{H:Hp}{s:Shared}{a:Addr}{kvs:List (Key×V)}{k:Key}{u:Value}{A:Around}{E:Value->Shared->Prop}
theorem RQ {v:V}{more:List Value}{Q:Value->Shared->Prop}(I:Inv X pins σ H s)(e:H a=some (.dK kvs))(ry:XW (kV k) u)(l:GN kvs k=some v)(hm:more=[]∨∃x,more=[x])
  (h:∀w' s',Inv X pins σ (upd H a (.dK (Ux kvs k))) s'->XW v w'->Q w' s'):wpAny (model X.prog X.w) A (call (.builtin "dict.pop") (.ref a::u::more)) Q E s:=by
 obtain⟨z,hd,vs,rel,dd⟩:=Pp I.hok e
 obtain⟨w',hw,rw'⟩:=Cr.some_of (v:=v) (o:=valueAt vs k) (by rw[←l];exact rel.val k)
 have hp:(keyPart u).isSome=true:=by
  cases k with
  |inl i=>obtain⟨t,q⟩:=(show ∃t,u=Value.int i t from ry);subst q;rfl
  |inr x=>obtain⟨t,q⟩:=(show ∃t,u=Value.str x t from ry);subst q;rfl
 have ha:argsOk "dict.pop" ⟨.ref a::u::more,[]⟩:=by
  rcases hm with q | ⟨x,q⟩
  ·subst q;exact PySem.F.args_dict_pop_2 _ _
  ·subst q;exact PySem.F.args_dict_pop_3 _ _ _
 refine call_meetsIn PySem.F.slot_dict_pop dd.typeIs PySem.F.entry_dict_pop ha (meets_dict_pop_there (X7 X.prog X.w) a (Bj ry) more hm hp)
  ⟨vs,w',dd,by rw[←rel.length];exact z,hw,λh' dd' hs=>h w' _ ?_ rw'⟩
 have he:∃q,h'.get? a=some q:=let ⟨q,_,_,hq,_⟩:=dd';⟨q,hq⟩
 exact Ft I (by rw[e];exact True.intro) hs he (LR (Nat.le_trans (IZ kvs k) z) hd (rel.drop k) dd')
end
noncomputable def R5 (i:Expr):Prop:=∀ ov iv,subscripted i false ov iv=operate [ov,iv] (getItem ov iv)
theorem Np {prog:Program}{w:World}{A:Around}{E:Value->Shared->Prop}{s:Shared}{env:Env}{value slice:Expr}{pos:Pos}{T id:String}{Q:Value->Shared->Prop}
  (hl:typeLookup (.type T) "__getitem__" =pure (some (.builtin id)))(hs:R5 slice)
  (h:wpAny (model prog w) A (eval value env) (λo s₁=>wpAny (model prog w) A (eval slice env) (λi s₂=>s₂.TypeIs o T/\wpAny (model prog w) A (getItem o i) Q E s₂) E s₁) E s):
  wpAny (model prog w) A (eval (.Subscript value slice pos) env) Q E s:=by
 refine Subscript_ (wpAny_mono h (λo s₁ h₁=>wpAny_mono h₁ (λi s₂ h₂=>?_) λ_ _ x=>x) λ_ _ x=>x)
 obtain⟨hT,h₂⟩:=h₂
 unfold subscriptTail
 refine wpAny_bind ?_
 rw[getitemInPython_of_ne hT.not_modules]
 refine wpAny_bind (wpAny_specialOf hT hl ?_)
 have fin:wpAny (model prog w) A (subscripted slice false o i) (λr s₃=>wpAny (model prog w) A (letTemporaryGo value o r >>= λ_=>pure r) Q E s₃) E s₂:=by
  rw[hs o i]
  exact wpAny_operating (wpAny_mono h₂ (λr s₃ h₃=>wpAny_bind (wpAny_letTemporaryGo (wpAny_pure h₃))) λ_ _ x=>x)
 first
  |exact wpAny_pure (wpAny_bind fin)
  |exact wpAny_bind (wpAny_pure (wpAny_bind fin))
  |exact wpAny_bind fin
theorem FQ {X:Cx}{pins:List (Addr×Obj)}{σ:St}{H:Hp}{s:Shared}{a:Addr}{y:V}{o:Option V}(I:Inv X pins σ H s)(g:IY H a y o):s.TypeIs (.ref a) "dict":=by
 rcases g with⟨kvs,k,e,_,_⟩ | ⟨kvs,k,b,e,_,_,_⟩
 ·obtain⟨_,_,vs,_,dd⟩:=B1 I.hok e
  exact dd.typeIs
 ·obtain⟨_,_,xs,_,dd⟩:=EQ I.hok e
  exact dd.typeIs
noncomputable def Pi (td ty:TE):TE:=λσ H Q=>td σ H λx H1=>ty σ H1 λy H2=>∃ a v,x= .ref a/\IY H2 a y (some v)/\Q v H2
noncomputable def Sh (ty td:TE):TE:=λσ H Q=>ty σ H λy H1=>td σ H1 λx H2=>∃ a o,x= .ref a/\IY H2 a y o/\Q (.bl o.isSome) H2
noncomputable def Nh (td ty tv:TE):TS:=λD σ H=>tv σ H λv H1=>td σ H1 λx H2=>ty σ H2 λy H3=>∃ a H4,x= .ref a/\N8 H3 a y v H4/\D.nx σ H4
section
variable {X:Cx}{o i e value:Expr}{pos pos' tpos:Pos}{td ty tv:TE}
theorem KC (hu:X.A.units+1<cLine)(ho:PE X o td)(hi:PE X i ty)(hs:R5 i):PE X (.Subscript o i pos) (Pi td ty):=by
 intro pins s σ H Q I h
 refine Np PySem.F.slot_dict_getitem.lookup hs (thn (ho pins s σ H _ I h) λu s1 ⟨x,H1,I1,rx,q1⟩=>thn (hi pins s1 σ H1 _ I1 q1) λiv s2 r9=>?_)
 obtain⟨y,H2,I2,ry,a,v,ex,g,q2⟩:=r9
 subst ex
 obtain rfl:u=Value.ref a:=rx
 exact⟨FQ I2 g,Ec hu I2 g ry λw' s3 I3 rw'=>⟨v,H2,I3,rw',q2⟩⟩
theorem EG (hu:X.A.units+1<cLine)(hi:PE X i ty)(ho:PE X o td):PC X .In i o (Sh ty td):=by
 intro pins s σ H Q I h
 refine thn (hi pins s σ H _ I h) λiv s1 ⟨y,H1,I1,ry,q1⟩=>thn (ho pins s1 σ H1 _ I1 q1) λu s2 r9=>?_
 obtain⟨x,H2,I2,rx,a,ov,ex,g,q2⟩:=r9
 subst ex
 obtain rfl:u=Value.ref a:=rx
 exact SE hu I2 g ry λs3 I3=>⟨.bl ov.isSome,H2,I3,rfl,q2⟩
theorem Ul (hu:X.A.units+1<cLine)(ho:PE X o td)(hi:PE X i ty)(hv:PE X value tv)(hs:swapsWith value (some (.Subscript o i pos')) pos.line X.env=pure false):
  PS X (.Assign [.Subscript o i pos'] value pos) (Nh td ty tv):=by
 intro pins s σ H D I h
 refine wpAny_Assign_Subscript (thn (hv pins s σ H _ I h) λr s1 ⟨v,H1,I1,rv,q1⟩=>thn (ho pins s1 σ H1 _ I1 q1) λu s2 ⟨x,H2,I2,rx,q2⟩=>thn (hi pins s2 σ H2 _ I2 q2) λiv s3 r9=>?_) hs
 obtain⟨y,H3,I3,ry,a,H4,ex,g,q3⟩:=r9
 subst ex
 obtain rfl:u=Value.ref a:=rx
 exact BV hu I3 g ry rv λs4 I4=>⟨σ,H4,I4,q3⟩
end
theorem HM {P:Program}{w:World}{H:Hp}(h:Heap)(hb:sysModules<h.objs.size):Yp P w H (h.push {cls:=.type "dict",data:=.dict #[]}) h.objs.size (.dK []):=
 ⟨Nat.zero_le _,beq_eq_false_iff_ne.mpr (Ne.symm (Nat.ne_of_lt hb)),[], .nil,Heap.DictOf.new h⟩
noncomputable def LF:TE:=λ_ H Q=>∀ p,H p=none->Q (.ref p) (upd H p (.dK []))
section
variable {X:Cx}{pos:Pos}
theorem Ie:PE X (.Dict [] [] pos) LF:=λpins s σ H Q I h=>
 wpAny_Dict_empty ⟨.ref s.heap.objs.size,_,I.laid (a:=s.heap.objs.size) (o:=.dK []) (t':=s.toks) (λ_ _ q=>Heap.get?_push_of_some _ q) (Nat.le_refl _) (HM s.heap I.big),rfl,h _ (I.hok.fresh (Nat.le_refl _))⟩
end
structure M1 (X:Cx)(o:Expr)(m:Str)(apos:Pos)(e:Expr)(cpos:Pos):Prop where
 base:attributeBase o m X.env (eval o X.env)=eval o X.env
 few:((backTo cpos (starEach [e] X.env)).all (λx=>!x.1)&&(backToKw cpos (keywordEach [] X.env)).all (λx=>x.1.isSome)
  &&decide (([e]:List Expr).length+([]:List Keyword).length+(if([]:List Keyword).isEmpty then 0 else 1)<30))=true
 line:(apos.endLine==cpos.line)=true
 trees:backTo cpos (starEach [e] X.env)=[(false,eval e X.env)]
noncomputable def IsD (H:Hp)(a:Addr):Prop:=(∃kvs,Rd H a (.dK kvs))∨∃kvs,Rd H a (.dT kvs)
theorem Od {X:Cx}{pins:List (Addr×Obj)}{σ:St}{H:Hp}{s:Shared}{a:Addr}(I:Inv X pins σ H s)(d:IsD H a):
  s.TypeIs (.ref a) "dict" /\(∀b,Value.ref a= .ref b->∃ob,s.heap.get? b=some ob/\ob.dict=none)/\(a==sysModules)=false:=by
 rcases d with⟨kvs,e⟩ | ⟨kvs,e⟩
 ·obtain⟨_,hd,vs,_,dd⟩:=B1 I.hok e
  refine⟨dd.typeIs,λb q=>?_,hd⟩
  cases q
  obtain⟨ob,_,_,h1,h2,_⟩:=dd
  exact⟨ob,h1,h2.2.1⟩
 ·obtain⟨_,hd,xs,_,dd⟩:=EQ I.hok e
  refine⟨dd.typeIs,λb q=>?_,hd⟩
  cases q
  obtain⟨ob,_,_,h1,h2,_⟩:=dd
  exact⟨ob,h1,h2.2.1⟩
section
variable {X:Cx}{pins:List (Addr×Obj)}{σ:St}{H:Hp}{s:Shared}{a:Addr}{y d:V}{u r:Value}{o:Option V}{A:Around}{E:Value->Shared->Prop}
end
noncomputable def LX (td ty:TE):TE:=λσ H Q=>td σ H λx H1=>∃ a,x= .ref a/\IsD H1 a/\ty σ H1 λy H2=>∃ kvs k v,H2 a=some (.dK kvs)/\y=kV k/\GN kvs k=some v/\Q v (upd H2 a (.dK (Ux kvs k)))
section
variable {X:Cx}{o e f:Expr}{apos cpos:Pos}{td ty tx:TE}
theorem KL (ho:PE X o td)(he:PE X e ty)(m:M1 X o "pop" apos e cpos):PE X (.Call (.Attribute o "pop" apos) [e] [] cpos) (LX td ty):=by
 intro pins s σ H Q I h
 refine wpAny_Call_method m.base m.few m.line PySem.F.plainAttrs_dict PySem.F.slot_dict_pop PySem.F.type_dict_pop (thn (ho pins s σ H _ I h) λu s1 r9=>?_)
 obtain⟨x,H1,I1,rx,a,ex,d,q1⟩:=r9
 subst ex
 obtain rfl:u=Value.ref a:=rx
 obtain⟨t1,t2,_⟩:=Od I1 d
 refine⟨t1,t2,?_⟩
 rw[m.trees]
 refine Calls.callWith_builtin rfl (Calls.evalArgs_plain (Calls.spliced_cons (thn (he pins s1 σ H1 _ I1 q1) λiv s2 ⟨y,H2,I2,ry,kvs,k,v,ea,ey,l,q2⟩=>Calls.spliced_nil ?_)))
 subst ey
 exact RQ I2 ea ry l (.inl rfl) λw' s3 I3 rw'=>⟨v,_,I3,rw',q2⟩
end
section
variable {X:Cx}{pins:List (Addr×Obj)}{σ:St}{H:Hp}{s:Shared}{a:Addr}{kvs:List (Key×V)}{A:Around}{E:Value->Shared->Prop}
end
section
variable {X:Cx}{pins:List (Addr×Obj)}{σ:St}{H:Hp}{s:Shared}{a:Addr}{y:V}{u:Value}{A:Around}{E:Value->Shared->Prop}
end
section
variable {X:Cx}
end
section
variable {κ:Type}[DecidableEq κ]
end
theorem EV {env:Env}:∀(names:List (Str×NameKind)),(∀x∈names,x.2=NameKind.free->∃c,env.cells.lookup x.1=some c)->
  ∀cs:List (Str×Addr),(∀x c,cs.lookup x=some c->env.cells.lookup x=some c)->
  ∃cl:List (Str×Addr),(forIn names cs (λ(x:Str×NameKind) (r:List (Str×Addr))=>(if(x.2==NameKind.free)=true then do let a ←cellOf env x.1;pure (ForInStep.yield ((x.1,a)::r)) else pure (ForInStep.yield r):Sem (ForInStep (List (Str×Addr))))))=(pure cl:Sem (List (Str×Addr)))/\
   (∀x c,cl.lookup x=some c->env.cells.lookup x=some c)/\(∀x,((x,NameKind.free)∈names∨∃c,cs.lookup x=some c)->∃c,cl.lookup x=some c)
 | [],_,cs,hs=>⟨cs,by rw[List.forIn_nil],hs,λx h=>h.elim (λz=>nomatch z) id⟩
 | (n,k)::r,hf,cs,hs=>by
  have hr:∀x∈r,x.2=NameKind.free->∃c,env.cells.lookup x.1=some c:=λx hx=>hf x (List.mem_cons_of_mem _ hx)
  by_cases hk:k=NameKind.free
  ·subst hk
   obtain⟨a,ha⟩:=hf (n,NameKind.free) List.mem_cons_self rfl
   have hs':∀x c,((n,a)::cs).lookup x=some c->env.cells.lookup x=some c:=λx c h=>by
    rw[List.lookup_cons] at h
    by_cases hx:x=n
    ·subst hx
     simp only[beq_self_eq_true] at h
     rw[←h];exact ha
    ·have:(x==n)=false:=beq_eq_false_iff_ne.mpr hx
     rw[this] at h
     exact hs x c h
   obtain⟨cl,e,h1,h2⟩:=EV r hr ((n,a)::cs) hs'
   refine⟨cl,?_,h1,λx h=>h2 x ?_⟩
   ·rw[List.forIn_cons]
    have e1:cellOf env n=pure a:=by unfold cellOf;rw[show env.cells.lookup n=some a from ha]
    simp only[beq_self_eq_true,if_true,e1]
    exact e
   ·rcases h with h | ⟨c,h⟩
    ·rcases List.mem_cons.mp h with h |h
     ·have:x=n:=congrArg Prod.fst h
      subst this
      exact .inr ⟨a,by rw[List.lookup_cons];simp⟩
     ·exact .inl h
    ·by_cases hx:x=n
     ·subst hx;exact .inr ⟨a,by rw[List.lookup_cons];simp⟩
     ·exact .inr ⟨c,by rw[List.lookup_cons,beq_eq_false_iff_ne.mpr hx];exact h⟩
  ·obtain⟨cl,e,h1,h2⟩:=EV r hr cs hs
   refine⟨cl,?_,h1,λx h=>h2 x ?_⟩
   ·rw[List.forIn_cons]
    have hb:(k==NameKind.free)=false:=by simpa using hk
    simp only[hb,Bool.false_eq_true,if_false]
    exact e
   ·rcases h with h |h
    ·rcases List.mem_cons.mp h with h |h
     ·exact absurd (congrArg Prod.snd h).symm hk
     ·exact .inl h
    ·exact .inr h
theorem FM {scope:Scope}{env:Env}(hf:∀x∈scope.names,x.2=NameKind.free->∃c,env.cells.lookup x.1=some c):
  ∃cl:List (Str×Addr),closureFor scope env=pure cl/\(∀x c,cl.lookup x=some c->env.cells.lookup x=some c)/\(∀x,(x,NameKind.free)∈scope.names->∃c,cl.lookup x=some c):=by
 obtain⟨cl,e,h1,h2⟩:=EV scope.names hf [] (λx c h=>by simp at h)
 refine⟨cl,?_,h1,λx h=>h2 x (.inl h)⟩
 unfold closureFor
 show((forIn scope.names [] (λ(x:Str×NameKind) (r:List (Str×Addr))=>(if(x.2==NameKind.free)=true then do let a ←cellOf env x.1;pure (ForInStep.yield ((x.1,a)::r)) else pure (ForInStep.yield r):Sem (ForInStep (List (Str×Addr)))))) >>= λs=>pure s)=pure cl
 rw[e]
 rfl
theorem Q8 {env:Env}:∀{names:List (Str×NameKind)}{x:Str}{k:NameKind},(∀y∈names,y.2≠NameKind.cell)->
  (names.map λ(n,k)=>if(k==NameKind.free&&env.scope.kind== .function&&env.kindOf n==some .cell) then(n,NameKind.cell) else(n,k)).lookup x=some k->(k= .cell∨k= .free)->(x,NameKind.free)∈names
 | [],_,_,_,h,_=>by simp at h
 | (n,kk)::r,x,k,hc,h,hk=>by
  have ih:=@Q8 env r x k (λy hy=>hc y (List.mem_cons_of_mem _ hy))
  have hh:=hc (n,kk) List.mem_cons_self
  simp only[List.map_cons] at h
  by_cases hcond:(kk==NameKind.free&&env.scope.kind== .function&&env.kindOf n==some .cell)=true
  ·rw[if_pos hcond,List.lookup_cons] at h
   have hfree:kk=NameKind.free:=by
    rw[Bool.and_eq_true,Bool.and_eq_true] at hcond
    simpa using hcond.1.1
   cases hx:x==n with
   |true=>
    have:x=n:=by simpa using hx
    subst this;subst hfree
    exact List.mem_cons_self
   |false=>rw[hx] at h;exact List.mem_cons_of_mem _ (ih h hk)
  ·rw[if_neg hcond,List.lookup_cons] at h
   cases hx:x==n with
   |true=>
    rw[hx] at h
    have hkk:kk=k:=Option.some.inj h
    have:x=n:=by simpa using hx
    subst this;subst hkk
    rcases hk with z |z
    ·exact absurd z hh
    ·subst z;exact List.mem_cons_self
   |false=>rw[hx] at h;exact List.mem_cons_of_mem _ (ih h hk)
theorem Ql {env:Env}:∀{names:List (Str×NameKind)}{x:Str},names.lookup x=some .free->
  let l:=(names.map λ(n,k)=>if(k==NameKind.free&&env.scope.kind== .function&&env.kindOf n==some .cell) then(n,NameKind.cell) else(n,k))
  l.lookup x=some .cell∨l.lookup x=some .free
 | [],_,h=>by simp at h
 | (n,kk)::r,x,h=>by
  have ih:=@Ql env r x
  simp only[List.map_cons]
  rw[List.lookup_cons] at h
  by_cases hcond:(kk==NameKind.free&&env.scope.kind== .function&&env.kindOf n==some .cell)=true
  ·rw[if_pos hcond,List.lookup_cons]
   cases hx:x==n with
   |true=>exact .inl rfl
   |false=>rw[hx] at h;exact ih h
  ·rw[if_neg hcond,List.lookup_cons]
   cases hx:x==n with
   |true=>rw[hx] at h;exact .inr h
   |false=>rw[hx] at h;exact ih h
noncomputable abbrev Cx.comp (X:Cx)(N:List Str)(scope:Scope)(cl:List (Str×Addr))(C:Addr)(s:Shared)(H:Hp)(ex:List Addr)(E:Value->Shared->Prop):Cx:=
 {X with N:=N,s₀:=s,H₀:=H,env:=compEnvC scope cl C X.env,outer:=X.stack,ex:=ex,fn:=λ_=>false,pn:=[],xe:=E}
noncomputable def PTs (X:Cx)(ifs:List Expr)(t:TT):Prop:=
 ∀(pins:List (Addr×Obj)) (s:Shared) (σ:St) (H:Hp) (Q:Bool->Hp->Prop),Inv X pins σ H s->t σ H Q->
  wpAny (model X.prog X.w) X.A (forIn ifs true λc r=>if r=true then do let ok ←isTrue c X.env (eval c X.env);pure (ForInStep.yield ok) else pure (ForInStep.yield r)) (TP X pins σ Q) X.xe s
noncomputable def KQ:TT:=λ_ H Q=>Q true H
theorem PD {σ:St}{H:Hp}{A B:Hp->Prop}(h:A H):KQ σ H λc H5=>if c=true then A H5 else B H5:=by
 show if true=true then A H else B H
 rw[if_pos rfl]
 exact h
theorem YW {X:Cx}:PTs X [] KQ:=λ_ _ _ H _ I h=>wpAny_tests_nil ⟨H,I,h⟩
theorem UH {X:Cx}{c:Expr}{t:TT}(h:PT X c t):PTs X [c] t:=λpins s σ H Q I hw=>wpAny_tests_one (h pins s σ H Q I hw)
noncomputable def Vx (n:Nat)(g:TG):Prop:=∀ x σ H Q,g x σ H Q->g x σ H λσ2 H2=>Q σ2 H2/\σ2.length=σ.length/\∀i,n<=i->σ2[i]?=σ[i]?
theorem Ys {n i:Nat}(h:i<n):Vx n (Yz i):=λx σ H Q q=>⟨q,by simp,λj hj=>by rw[List.getElem?_set_ne (by lia)]⟩
theorem L5 {K:PySem.W.Frag}{n i j:Nat}(hi:i<n)(hj:j<n):Vx n (Li K 2 (ZS (Yz i) (ZS (Yz j) NL))):=λx σ H Q q=>by
 obtain⟨a,xs,e1,hq,hl,v,r,e2,w,r2,e3,e4,q⟩:=q
 exact⟨a,xs,e1,hq,hl,v,r,e2,w,r2,e3,e4,q,by simp,λk hk=>by rw[List.getElem?_set_ne (by lia),List.getElem?_set_ne (by lia)]⟩
noncomputable def Yl (n:Nat)(caps:List (Nat×Str))(σ:St):St:=List.replicate n none++caps.map λp=>(σ[p.1]?).join
noncomputable def HV (g:TG)(tt:TT)(te:TE)(σ:St)(Q:VK)(J:It)(W:Nat->Nat->List V->Hp->Prop):Prop:=
 ∀i m ys H2,W i m ys H2->ys.length<=sizeLine/\
  ((J.stop i H2/\∀p,H2 p=none->Q (.ref p) (upd H2 p (.lst ys)))∨
  (J.go i H2/\∃N:List V->Hp->Prop,(∀ys' H',N ys' H'->∃m',m'<m/\W (i+1) m' ys' H')/\∀x H3,J.yld i H2 x H3->g x σ H3 λσ4 H4=>tt σ4 H4 λc H5=>
   if c=true then te σ4 H5 λv H6=>N (ys++[v]) H6 else N ys H5))
noncomputable def LV (n:Nat)(caps:List (Nat×Str))(g:TG)(tt:TT)(te:TE)(σ:St)(Q:VK)(J:It)(H1:Hp):Prop:=
 ∃W:Nat->Nat->List V->Hp->Prop,(∃m,W 0 m [] H1)/\HV g tt te (Yl n caps σ) Q J W
noncomputable def F8 (n:Nat)(caps:List (Nat×Str))(wi:TI)(g:TG)(tt:TT)(te:TE):TE:=λσ H Q=>wi σ H λJ H1=>LV n caps g tt te σ Q J H1
noncomputable def GD (sc scope:Scope)(N0 tns:List Str)(caps:List (Nat×Str)):Bool:=
 scope.kind== .function&&scope.names.all (λy=>!(y.2== .cell))&&scope.names.all (λy=>!(y.2== .local) || scope.names.lookup y.1==some .local)&&
 scope.names.all (λy=>!(y.2== .free) || sc.names.lookup y.1==some .cell)&&caps.all (λp=>N0[p.1]?==some p.2&&sc.names.lookup p.2==some .cell&&scope.names.lookup p.2==some .free)
theorem Gp {α:Type}{p:α}{P:Prop}(h:p∈([]:List α)):P:=nomatch h
noncomputable def OI (M:Model)(A:Around)(elt tg:Expr)(ifs:List Expr)(acc:Value)(env:Env)(E:Value->Shared->Prop)(K:Shared->Prop)(v:Value)(s:Shared):Prop:=
 wpAny M A (assign tg env v) (λ_ s₂=>wpAny M A (forIn ifs true λc r=>if r=true then do let ok ←isTrue c env (eval c env);pure (ForInStep.yield ok) else pure (ForInStep.yield r)) (λok s₃=>
  if ok=true then wpAny M A (eval elt env) (λx s₄=>wpAny M A (call (.builtin "list.append") [acc,x]) (λ_ s₅=>K s₅) E s₄) E s₃ else K s₃) E s₂) E s
noncomputable def Rp (M:Model)(A:Around)(elt tg:Expr)(ifs:List Expr)(it acc:Value)(env:Env)(E:Value->Shared->Prop)(Rn K:Shared->Prop)(s:Shared):Prop:=
 wpAny M A (pyNext it) (λr s₁=>r=none/\Rn s₁∨∃v,r=some v/\wpAny M A (letOwnedTupleGo tg it v) (λ_ s₁=>OI M A elt tg ifs acc env E K v s₁) E s₁) E s
section
variable {prog:Program}{w:World}{A:Around}{R:Result->Shared->Prop}{s:Shared}
theorem GA {elt target iter:Expr}{ifs:List Expr}{scope:Scope}{pos:Pos}{it acc:Value}{env:Env}{E:Value->Shared->Prop}(I:Nat->Shared->Prop)(hE:(notedBy (model prog w) A env λe s'=>R (.error e) s')=E)
  (turn:∀n s,I n s->Rp (model prog w) A elt target ifs it acc env E (λs=>R (.ok .next) s) (λs=>∃ m,m<n/\I m s) s)(n:Nat)(h:I n s):
  codeAny (model prog w) A (.compLoop (.ListComp elt [⟨target,iter,ifs,0⟩] scope pos) 0 it acc env) R s:=by
 subst hE
 refine codeAny_loop rfl I (λn s hI=>?_) n h
 show wpAny _ A ((compTurn (.ListComp elt [⟨target,iter,ifs,0⟩] scope pos) 0 it acc env).onRaise (λx=>do noteFrame x env;theTreesLotGoes x)) _ _ s
 refine wpAny_noted ?_
 rw[compTurn_list]
 refine wpAny_bind (wpAny_standAt (wpAny_bind (thn (turn n s hI) λr s₁ h₁=>?_)))
 rcases h₁ with⟨rfl,h₁⟩ | ⟨v,rfl,h₁⟩
 ·exact wpAny_pure h₁
 ·refine wpAny_bind (thn h₁ λ_ s₁' h₁'=>wpAny_bind (thn h₁' λ_ s₂ h₂=>wpAny_bind (thn h₂ λok s₃ h₃=>?_)))
  cases ok with
  |false=>exact wpAny_pure ⟨rfl,h₃⟩
  |true=>exact wpAny_bind (wpAny_bind (thn h₃ λx s₄ h₄=>wpAny_bind (thn h₄ λ_ s₅ h₅=>wpAny_pure (wpAny_pure ⟨rfl,h₅⟩))))
end
noncomputable def lob (its:List Value)(k:Nat):Obj:={cls:=.type "list",data:=.seq (List.toArray its) k}
structure CIn (Y:Cx)(tn:Nat->Heap->Prop)(fp:List Addr)(D:Addr)(σ:St)(i:Nat)(H:Hp)(o:Obj)(s:Shared):Prop where
 I:Inv Y [] σ H s
 t:tn i s.heap
 f:∀b∈fp,H b=none
 l:s.heap.get? D=some o
 n:H D=none
inductive CI (Y:Cx)(tn:Nat->Heap->Prop)(fp:List Addr)(D:Addr)(σ:St)(W:Nat->Nat->List V->Hp->Prop)(m:Nat)(s:Shared):Prop
 |mk (i:Nat) (H:Hp) (ys:List V) (its:List Value) (k:Nat) (c:CIn Y tn fp D σ i H (lob its k) s) (r:XZ ys its) (w:W i m ys H)
structure CAt (Y:Cx)(fp:List Addr)(D:Addr):Prop where
 calm:Y.calm=true
 pn:Y.pn=[]
 ne:D≠Y.env.locals
 fs:D∉Y.fs
 sz:Y.s₀.heap.objs.size<=D
 cl:∀x c,Y.env.cells.lookup x=some c->c≠D
 fpn:∀b∈fp,b≠D
 ok:∀b∈fp,∀H:Hp,H b=none->DZ Y [] H b
section
variable {Y:Cx}{tn:Nat->Heap->Prop}{fp:List Addr}{D it:Addr}{σ:St}{tg elt iter:Expr}{ifs:List Expr}{J:It}{g:TG}{tt:TT}{te:TE}{n i:Nat}{H:Hp}{s:Shared}{o:Obj}{Kn:Shared->Prop}
theorem CAt.pins (c:CAt Y fp D)(hn:∀b∈fp,H b=none):∀b∈fp,DZ Y [(D,o)] H b:=λb hb=>
 have z:=c.ok b hb H (hn b hb)
 ⟨z.1,z.2.1,z.2.2.1,z.2.2.2.1,z.2.2.2.2.1,λp hp e=>by
  rw[c.pn] at hp
  cases List.mem_singleton.mp hp
  exact c.fpn b hb e.symm⟩
theorem DB (T:Turn Y.prog Y.w Y.K tg J fp it tn){h5:Heap}(t:tn i h5)(I:Inv Y ([(D,o)]++Gm fp h5) σ H s):CIn Y tn fp D σ i H o s:=
 have p:=I.pin (D,o) (List.mem_append_right _ (.head _))
 have q:∀b∈fp,∀o',h5.get? b=some o'->s.heap.get? b=some o'/\H b=none:=λb hb o' e=>have z:=I.pin (b,o') (List.mem_append_right _ (.tail _ (JH hb e)));⟨z.1,z.2.1⟩
 ⟨I.pins_of (pins':=[]) λ_ h=>Gp h,T.keep _ _ _ t λb hb o' e=>(q b hb o' e).1,λb hb=>(T.obj _ _ t b hb).elim λo' e=>(q b hb o' e.1).2,p.1,p.2.1⟩
theorem Sw (T:Turn Y.prog Y.w Y.K tg J fp it tn)(a:CAt Y fp D){its:List Value}{k:Nat}{v:Value}{E:Value->Shared->Prop}(c:CIn Y tn fp D σ i H (lob its k) s)(hz:its.length<=sizeLine)
  (hQ:∀k' s',CIn Y tn fp D σ i H (lob (its++[v]) k') s'->Kn s'):wpAny (model Y.prog Y.w) Y.A (call (.builtin "list.append") [.ref D,v]) (λ_ s=>Kn s) E s:=by
 refine call_meets F.slot_list_append ⟨_,c.l,rfl⟩ F.entry_list_append (F.args_list_append_2 _ _) (PySem.list_append D (List.toArray its) k v hz) ⟨c.l,?_⟩
 have q:∃k',PySem.IsL (s.heap.update D (Obj.mapSeq (·.push v))) D ((List.toArray its).push v) k':=⟨_,PySem.IsL.update c.l (·.push v)⟩
 rw[List.push_toArray] at q
 obtain⟨k',q⟩:=q
 exact hQ k' _ ⟨c.I.turned (t':=s.toks) (h':=s.heap.update D (Obj.mapSeq (·.push v))) (it:=D) (λb o hb' e=>(Heap.get?_update_other s.heap _ (Ne.symm hb')).trans e) c.n a.ne (.inr a.sz) a.cl (λp hp=>by rw[a.pn] at hp;exact Gp hp),
  T.keep _ _ _ c.t λb hb o e=>(Heap.get?_update_other s.heap _ (Ne.symm (a.fpn b hb))).trans e,c.f,q,c.n⟩
theorem Ii {acc:Value}{pins:List (Addr×Obj)}{N:List V->Hp->Prop}{ys:List V}{x:V}{u:Value}(hg:PG Y tg g)(ht:PTs Y ifs tt)(he:PE Y elt te)(hG:Vx n g)(h0:∀(j:Nat) v,σ[j]?=some (some v)->n<=j)
  (I:Inv Y pins σ H s)(r:XW x u)(st:g x σ H λσ4 H4=>tt σ4 H4 λc H5=>if c=true then te σ4 H5 λv H6=>N (ys++[v]) H6 else N ys H5)
  (hF:∀H7 s7,Inv Y pins σ H7 s7->N ys H7->Kn s7)(hT:∀H8 s8 y v,Inv Y pins σ H8 s8->XW y v->N (ys++[y]) H8->wpAny (model Y.prog Y.w) Y.A (call (.builtin "list.append") [acc,v]) (λ_ s=>Kn s) Y.xe s8):
  OI (model Y.prog Y.w) Y.A elt tg ifs acc Y.env Y.xe Kn u s:=by
 refine thn (hg _ s _ H x u _ I r (hG _ _ _ _ st)) λ_ s6 r9=>?_
 obtain⟨σ6,H6,I6,q6,l6,k6⟩:=r9
 have wk:∀(j:Nat) v,σ[j]?=some (some v)->σ6[j]?=some (some v):=λj v e=>(k6 j (h0 j v e)).trans e
 refine thn (ht _ s6 σ6 H6 _ I6 q6) λc s7 r9=>?_
 obtain⟨H7,I7,q7⟩:=r9
 cases c with
 |false=>exact hF _ _ (I7.weak l6.symm wk) q7
 |true=>exact thn (he _ s7 σ6 H7 _ I7 q7) λv8 s8 r9=>by obtain⟨y8,H8,I8,r8,n8⟩:=r9;exact hT _ _ _ _ (I8.weak l6.symm wk) r8 n8
theorem Kq {scope:Scope}{pos:Pos}{Q:V->Hp->Prop}{R:Result->Shared->Prop}(hE:(notedBy (model Y.prog Y.w) Y.A Y.env λe s'=>R (.error e) s')=Y.xe)
  (T:Turn Y.prog Y.w Y.K tg J fp it tn)(hG:Vx n g)(hg:PG Y tg g)(ht:PTs Y ifs tt)(he:PE Y elt te)(a:CAt Y fp D)(h0:∀(j:Nat) v,σ[j]?=some (some v)->n<=j)
  {W:Nat->Nat->List V->Hp->Prop}(turn:HV g tt te σ Q J W)
  (hEnd:∀ys its k H3 s4,Inv Y [(D,lob its k)] σ H3 s4->XZ ys its->ys.length<=sizeLine->Q (.ref D) (upd H3 D (.lst ys))->R (.ok .next) s4){m0:Nat}(hi:CI Y tn fp D σ W m0 s):
  codeAny (model Y.prog Y.w) Y.A (.compLoop (.ListComp elt [⟨tg,iter,ifs,0⟩] scope pos) 0 (.ref it) (.ref D) Y.env) R s:=by
 refine GA (CI Y tn fp D σ W) hE (λm s3 c=>?_) m0 hi
 cases c with
 |mk i H3 ys its k c rv w3=>
 have I3:Inv Y [(D,lob its k)] σ H3 s3:=c.I.pins_of λp hp=>List.mem_singleton.mp hp▸⟨c.l,c.n,a.ne,a.fs,λ_ z=>by cases z⟩
 have t:=turn i m ys H3 w3
 refine t.2.elim (λq=>?_) λq=>?_
 ·exact thn (T.done Y rfl rfl rfl a.calm i _ s3 _ H3 Y.xe I3 (a.pins c.f) c.t q.1) λr s4 h=>.inl ⟨h.1,hEnd ys its k H3 s4 h.2 rv t.1 (q.2 D c.n)⟩
 ·refine q.2.elim λNN h=>?_
  refine thn (T.item Y rfl rfl rfl a.calm i _ s3 _ H3 Y.xe I3 (a.pins c.f) c.t q.1) λr s4 h4=>.inr (h4.elim λu h4=>⟨u,h4.1,thn h4.2 λ_ s5 h5=>h5.elim λx h5=>h5.elim λH5 h5=>?_⟩)
  exact Ii hg ht he hG h0 (h5.1.pinned (a.pins h5.2.2.2.2) (T.obj _ _ h5.2.2.2.1)) h5.2.1 (h.2 x H5 h5.2.2.1)
   (λH7 s7 I7 q7=>(h.1 _ _ q7).elim λm' z=>⟨m',z.1, .mk (i+1) H7 ys its k (DB T h5.2.2.2.1 I7) rv z.2⟩)
   λH8 s8 y v I8 r8 q8=>(h.1 _ _ q8).elim λm' z=>Sw T a (DB T h5.2.2.2.1 I8) (rv.length▸t.1) λk' s' c'=>⟨m',z.1, .mk (i+1) H8 (ys++[y]) (its++[v]) k' c' (rv.append (.cons r8 .nil)) z.2⟩
end
section
variable {X:Cx}{elt tg iter:Expr}{ifs:List Expr}{scope sc:Scope}{pos:Pos}{n:Nat}{tns:List Str}{caps:List (Nat×Str)}{wi:TI}{g:TG}{tt:TT}{te:TE}
structure CompEnd (X:Cx)(pins:List (Addr×Obj))(σ:St)(H3:Hp)(D C:Addr)(ys:List V)(s':Shared):Prop where
 inv:Inv X pins σ (upd H3 D (.lst ys)) s'
 fresh:H3 D=none
 fp:DZ X pins (upd H3 D (.lst ys)) C
 ns:∃m,s'.heap.Ns C m
theorem DV {pins:List (Addr×Obj)}{σ σ':St}{H H3:Hp}{s s4:Shared}{D C:Addr}{fp:List Addr}{its:List Value}{k:Nat}{ys:List V}{Y:Cx}(I:Inv X pins σ H s)(hf:∀b∈fp,DZ X pins H b)(hD:s.heap.objs.size<=D)(hDlt:D<C)
  (I4:Inv Y [(D,lob its k)] σ' H3 s4)(hos:s4.os=s.os)(u:Un (frs X.stack) fp H H3 s.heap s4.heap)(hok:HOk X.prog X.w H3 s4.heap)(hC:Y.env.locals=C)(rv:XZ ys its)(hz:ys.length<=sizeLine):CompEnd X pins σ H3 D C ys s4:=by
 subst hC
 have p:=I4.pin (D,lob its k) (List.mem_append_right _ (.head _))
 have hDn:H3 D=none:=p.2.1
 have up:∀{b:Addr}{o:HO},H3 b=some o->upd H3 D (.lst ys) b=some o:=λe=>(XT (Yg e hDn)).trans e
 refine⟨I.call' (ch:=fp) hos ⟨u.keep,u.slot,λb o e nn hx=>(XT (Nat.ne_of_lt (Nat.lt_of_lt_of_le (Heap.lt_size e) hD))).trans (u.free b o e nn hx),u.there,λb xs e=>up (u.tups b xs e),λb o xs e=>up (u.frzs b o xs e),λb ps e=>(u.tbls b ps e).elim λmore z=>⟨more,up z⟩⟩ (λa o e=>?_) I4.bare λb hb=>have z:=hf b hb;⟨z.2.2.2.1,z.2.1,z.2.2.2.2.1,z.2.2.2.2.2⟩,hDn,I.fpOk (Nat.le_trans hD (Nat.le_of_lt hDlt)) ((XT (Nat.ne_of_gt hDlt)).trans I4.free),I4.loc.elim λm z=>⟨m,z.1⟩⟩
 by_cases ha:a=D
 ·subst ha
  rw[X9] at e;cases e
  exact⟨hz,its,k,rv,p.1⟩
 ·rw[XT ha] at e
  exact(hok a o e).stay (λb u _ q=>q) (λb q=>up q) λb xs q=>up q
noncomputable def SD (X:Cx)(elt tg iter:Expr)(ifs:List Expr)(scope:Scope)(pos:Pos)(it:Value)(cl:List (Str×Addr))(RR:Value->Addr->Result->Shared->Prop)(E:Value->Shared->Prop)(s:Shared):Prop:=
 wpAny (model X.prog X.w) X.A (newList []) (λacc s₃=>wpAny (model X.prog X.w) X.A (newFunctionEnv scope X.env.globals cl [] X.env.qual none .none (some X.env)) (λcenv s₄=>
   codeAny (model X.prog X.w) X.A (.compStart (.ListComp elt [⟨tg,iter,ifs,0⟩] scope pos) 0 it acc {cenv with scope:=relabel scope X.env}) (RR acc cenv.locals) s₄) E s₃) E s
theorem VO {σ:St}{i:Nat}{v:V}(e:(Yl n caps σ)[i]?=some (some v)):n<=i/\∃p,caps[i-n]?=some p/\σ[p.1]?=some (some v):=by
 unfold Yl at e
 by_cases h:i<n
 ·rw[List.getElem?_append_left (by simpa using h),List.getElem?_replicate,if_pos h] at e
  cases e
 ·have hi:=Nat.le_of_not_lt h
  rw[List.getElem?_append_right (by simpa using hi),List.length_replicate,List.getElem?_map] at e
  refine⟨hi,?_⟩
  cases hcp:caps[i-n]? with
  |none=>rw[hcp] at e;cases e
  |some p=>
   rw[hcp] at e
   exact⟨p,rfl,Option.join_eq_some_iff.mp (Option.some.inj e)⟩
structure COk (X:Cx)(scope:Scope)(caps:List (Nat×Str)):Prop where
 kind:scope.kind= .function
 cell:∀y∈scope.names,y.2≠NameKind.cell
 loc:∀y∈scope.names,y.2= .local->scope.names.lookup y.1=some .local
 free:∀y∈scope.names,y.2= .free->X.env.scope.names.lookup y.1=some .cell
 caps:∀p∈caps,(X.N[p.1]?=some p.2/\X.env.scope.names.lookup p.2=some .cell)/\scope.names.lookup p.2=some .free
theorem COk.of {N0:List Str}(hsc:X.env.scope=sc)(hN0:X.N=N0)(ok:GD sc scope N0 tns caps=true):COk X scope caps:=by
 subst hsc
 subst hN0
 unfold GD at ok
 simp only[Bool.and_eq_true,List.all_eq_true,beq_iff_eq,Bool.or_eq_true,Bool.not_eq_true',beq_eq_false_iff_ne] at ok
 exact⟨ok.1.1.1.1,ok.1.1.1.2,λy hy e=>(ok.1.1.2 y hy).resolve_left (absurd e),λy hy e=>(ok.1.2 y hy).resolve_left (absurd e),ok.2⟩
section
variable {pins:List (Addr×Obj)}{σ:St}{H:Hp}{s:Shared}{fp:List Addr}{cl:List (Str×Addr)}{C:Addr}{E:Value->Shared->Prop}{N:List Str}{h₁:Heap}
theorem Mo (ok:COk X scope caps)(I:Inv X pins σ H s)(hf:∀b∈fp,DZ X pins H b)(hlt:∀b∈fp,b<s.heap.objs.size)
  (hsub:∀x c,cl.lookup x=some c->X.env.cells.lookup x=some c)(hall:∀x,(x,NameKind.free)∈scope.names->∃c,cl.lookup x=some c)(hC:s.heap.objs.size<C):(X.comp N scope cl C s H fp E).Ok:=
 ⟨I.ok.mod,ok.kind,I.ok.glob,I.ok.blt,Nat.le_of_lt hC,λx y c h1 h2=>I.ok.inj x y c (hsub x c h1) (hsub y c h2),λx hx=>hall x (hx.elim (λz=>Q8 ok.cell z (.inl rfl)) λz=>Q8 ok.cell z (.inr rfl)),(λx c hx=>by cases hx),I.ok.hd,I.ok.frames, .inl rfl,
  λb hb=>⟨Nat.ne_of_lt (Nat.lt_trans (hlt b hb) hC),λx c e=>(hf b hb).2.2.2.2.1 x c (hsub x c e)⟩,I.bs,Nat.le_trans I.ok.bsz I.sz,λb o e hb=>(hf b hb).2.2.2.1.elim (I.ok.noex b o e) λz=>absurd (Nat.lt_of_lt_of_le (Heap.lt_size e) (Nat.le_trans I.ok.bsz z)) (Nat.lt_irrefl _),
  λb hb hz=>(List.mem_cons.mp (I.stkSub b hz)).elim (hf b hb).2.1 (hf b hb).2.2.1,I.stack,I.stkFree⟩
theorem Iw (okc:COk X scope caps)(hn:tns.length=n)(ok:(X.comp (tns++caps.map (·.2)) scope cl C s H fp E).Ok)(I:Inv X pins σ H s)
  (hsub:∀x c,cl.lookup x=some c->X.env.cells.lookup x=some c)(hall:∀x,(x,NameKind.free)∈scope.names->∃c,cl.lookup x=some c)(hC:s.heap.objs.size<C)(hns:h₁.Ns C λ_=>none)(old:∀b o,s.heap.get? b=some o->h₁.get? b=some o){tk:Nat}:
  Inv (X.comp (tns++caps.map (·.2)) scope cl C s H fp E) [] (Yl n caps σ) H {s with heap:=h₁,toks:=tk}:=by
 refine⟨ok,rfl,I.bare,Un.kept old,⟨_,hns,λi x v e1 e2 _=>?_⟩,λx c e=>(I.cell x c (hsub x c e)).elim λv z=>z.elim λo z=>⟨v,o,old _ _ z.1,z.2⟩,I.hok.fresh (Nat.le_of_lt hC),λx c e=>I.freeC x c (hsub x c e),λp hp=>Gp (α:=Addr×Obj) hp,I.hok.kept old,by simp[Yl,hn]⟩
 obtain⟨hi,p,hp,hσ⟩:=VO e2
 have e1':(tns++caps.map (·.2))[i]?=some x:=e1
 rw[List.getElem?_append_right (hn▸hi),hn,List.getElem?_map,hp] at e1'
 cases Option.some.inj e1'
 have p5:=okc.caps p (List.mem_of_getElem? hp)
 obtain⟨m,hm,hl⟩:=I.loc
 obtain⟨u,r,l⟩:=hl p.1 p.2 v p5.1.1 hσ (.inr (.inl p5.1.2))
 refine⟨u,r, .inr ?_⟩
 rcases l with⟨k,_⟩ | ⟨k,c,e,z⟩
 ·cases p5.1.2.symm.trans k
 ·obtain⟨c',e'⟩:=hall p.2 (PySem.mem_of_lookup p5.2)
  cases e.symm.trans (hsub _ _ e')
  exact⟨Ql (env:=X.env) p5.2,c,e',z.elim λo z=>⟨o,old _ _ z.1,z.2⟩⟩
variable {J:It}{it:Addr}{tn:Nat->Heap->Prop}{Q:V->Hp->Prop}{RR:Value->Addr->Result->Shared->Prop}{W:Nat->Nat->List V->Hp->Prop}{m0:Nat}
theorem NT (ok:COk X scope caps)(hc:X.calm=true)(hn:tns.length=n)(hG:Vx n g)
  (hb:∀cl C s H ex E,PG (X.comp (tns++caps.map (·.2)) scope cl C s H ex E) tg g/\PTs (X.comp (tns++caps.map (·.2)) scope cl C s H ex E) ifs tt/\PE (X.comp (tns++caps.map (·.2)) scope cl C s H ex E) elt te)
  (I:Inv X pins σ H s)(T:Turn X.prog X.w X.K tg J fp it tn)(t0:tn 0 s.heap)(hf:∀b∈fp,DZ X pins H b)
  (hsub:∀x c,cl.lookup x=some c->X.env.cells.lookup x=some c)(hall:∀x,(x,NameKind.free)∈scope.names->∃c,cl.lookup x=some c)
  (w0:W 0 m0 [] H)(turn:HV g tt te (Yl n caps σ) Q J W)
  (hRR:∀D C ys H3 s',CompEnd X pins σ H3 D C ys s'->Q (.ref D) (upd H3 D (.lst ys))->RR (.ref D) C (.ok .next) s')
  (hC:s.heap.objs.size<C)(hns:h₁.Ns C λ_=>none)(old:∀b o,s.heap.get? b=some o->h₁.get? b=some o)(hacc:h₁.get? s.heap.objs.size=some (lob [] 0)){tk:Nat}:
  codeAny (model X.prog X.w) X.A (.compStart (.ListComp elt [⟨tg,iter,ifs,0⟩] scope pos) 0 (.ref it) (.ref s.heap.objs.size) (compEnvC scope cl C X.env)) (RR (.ref s.heap.objs.size) C) {s with heap:=h₁,toks:=tk}:=by
 have hlt:∀b∈fp,b<s.heap.objs.size:=λb hb=>(T.obj _ _ t0 b hb).elim λo e=>Heap.lt_size e.1
 have okY:∀E,(X.comp (tns++caps.map (·.2)) scope cl C s H fp E).Ok:=λE=>Mo ok I hf hlt hsub hall hC
 have t1:tn 0 h₁:=T.keep _ _ _ t0 λb _ o e=>old b o e
 have loop:∀tk,codeAny (model X.prog X.w) X.A (.compLoop (.ListComp elt [⟨tg,iter,ifs,0⟩] scope pos) 0 (.ref it) (.ref s.heap.objs.size) (compEnvC scope cl C X.env)) (RR (.ref s.heap.objs.size) C) {s with heap:=h₁,toks:=tk}:=λtk=>
  have z:=hb cl C s H fp (notedBy (model X.prog X.w) X.A (compEnvC scope cl C X.env) λe s'=>RR (.ref s.heap.objs.size) C (.error e) s')
  Kq (Y:=X.comp (tns++caps.map (·.2)) scope cl C s H fp _) rfl T hG z.1 z.2.1 z.2.2
   ⟨hc,rfl,Nat.ne_of_lt hC,λhz=>(I.stack.mem hz).2.elim λo ho=>absurd (Heap.lt_size ho.1) (Nat.lt_irrefl _),Nat.le_refl _,λx c e=>(I.cell x c (hsub x c e)).elim λv z=>Nat.ne_of_lt z.lt,λb hb=>Nat.ne_of_lt (hlt b hb),
    λb hb H' h'=>⟨h',Nat.ne_of_lt (Nat.lt_trans (hlt b hb) hC),(okY λ_ _=>True).exfs b hb, .inl hb,λx c e=>(hf b hb).2.2.2.2.1 x c (hsub x c e),λp hp=>Gp (α:=Addr×Obj) hp⟩⟩
   (λj v e=>(VO e).1) turn (λys its k H3 s4 I4 rv hz q=>hRR _ C ys H3 s4 (DV I hf (Nat.le_refl _) hC I4 I4.os I4.base I4.hok rfl rv hz) q)
   (.mk 0 H [] [] 0 ⟨Iw ok hn (okY _) I hsub hall hC hns old,t1,λb hb=>(hf b hb).1,hacc,I.hok.fresh (Nat.le_refl _)⟩ .nil w0)
 exact codeAny_compStart_list (loop _) (T.self _ 0 _ _ _ t1 (loop _))
theorem U2 (ok:COk X scope caps)(hc:X.calm=true)(hn:tns.length=n)(hG:Vx n g)
  (hb:∀cl C s H ex E,PG (X.comp (tns++caps.map (·.2)) scope cl C s H ex E) tg g/\PTs (X.comp (tns++caps.map (·.2)) scope cl C s H ex E) ifs tt/\PE (X.comp (tns++caps.map (·.2)) scope cl C s H ex E) elt te)
  {itv:Value}(h:PIE X pins σ tg (λJ H1=>LV n caps g tt te σ Q J H1) itv s)
  (hsub:∀x c,cl.lookup x=some c->X.env.cells.lookup x=some c)(hall:∀x,(x,NameKind.free)∈scope.names->∃c,cl.lookup x=some c)
  (hRR:∀D C ys H3 s',CompEnd X pins σ H3 D C ys s'->Q (.ref D) (upd H3 D (.lst ys))->RR (.ref D) C (.ok .next) s'):
  SD X elt tg iter ifs scope pos itv cl RR E s:=by
 obtain⟨it,fp,tn,J,H',rfl,I,T,t0,hf,W,⟨m0,w0⟩,turn⟩:=h
 refine wpAny_newObj_type (wpAny_newFunctionEnv ok.cell (by intro y hy;simp at hy) (λh₁ hns₁ hsb₁=>?_) ok.kind)
 have hs:∀o,(s.heap.push o).objs.size=s.heap.objs.size+1:=λo=>Heap.size_push ..
 exact NT ok hc hn hG hb I T t0 hf hsub hall w0 turn hRR (Nat.lt_of_lt_of_eq (Nat.lt_succ_self _) (hs _).symm) hns₁
  (λb o e=>hsb₁.extBut b o (Nat.ne_of_lt (Nat.lt_trans (Heap.lt_size e) (Nat.lt_of_lt_of_eq (Nat.lt_succ_self _) (hs _).symm))) (Heap.get?_push_of_some _ (Heap.get?_push_of_some _ e)))
  (hsb₁.extBut _ _ (Nat.ne_of_lt (Nat.lt_of_lt_of_eq (Nat.lt_succ_self _) (hs _).symm)) (Heap.get?_push_of_some _ (Heap.get?_push_size _ rfl)))
end
theorem M5 (sc:Scope)(N0:List Str)(tns:List Str)(caps:List (Nat×Str))(hc:X.calm=true)(hi:PI X tg iter wi)(hG:Vx tns.length g)
  (hb:∀cl C s H ex E,PG (X.comp (tns++caps.map (·.2)) scope cl C s H ex E) tg g/\PTs (X.comp (tns++caps.map (·.2)) scope cl C s H ex E) ifs tt/\PE (X.comp (tns++caps.map (·.2)) scope cl C s H ex E) elt te)
  (hsc:X.env.scope=sc:=by rfl)(hN0:X.N=N0:=by rfl)(ok:GD sc scope N0 tns caps=true:=by decide+kernel)
  (hs:∀x,foldedSetIterable iter X.env x=pure x:=by intro _;rfl):
  PE X (.ListComp elt [⟨tg,iter,ifs,0⟩] scope pos) (F8 tns.length caps wi g tt te):=by
 intro pins s σ H Q I h
 have okc:=COk.of hsc hN0 ok
 obtain⟨cl,ecl,hsub,hall⟩:=FM (scope:=scope) (env:=X.env) λx hx hfr=>I.ok.has x.1 (.inl (okc.free x hx hfr))
 rw[eval_ListComp]
 exact wpAny_comprehension_free (use:=none) rfl hs ecl okc.kind okc.loc (thn (hi pins s σ H _ I h) λxv s₁ h₁=>thn h₁ λitv s₂ h₂=>
  U2 (RR:=λacc C=>compPost (model X.prog X.w) X.A X.xe none (EP X pins σ Q) acc C) okc hc rfl hG hb h₂ hsub hall λD C ys H3 s' ce q=>ce.ns.elim λmm hns=>
   ⟨mm,hns,λh' hs'=>⟨.ref D,_,ce.inv.turned (t':=s'.toks) (λb o hb' e=>(hs'.extBut b o hb' e)) ce.fp.1 ce.fp.2.1 ce.fp.2.2.2.1 ce.fp.2.2.2.2.1 ce.fp.2.2.2.2.2,rfl,q⟩⟩)
theorem ZO {x:Str}{px spos:Pos}(j:Nat)(sc:Scope)(N0:List Str)(tns:List Str)(caps:List (Nat×Str))(hc:X.calm=true)(hN:X.N.Nodup)(hj:X.N[j]?=some x)(hx:X.env.scope.names.lookup x=some .local)(hi:PI X tg iter wi)(hG:Vx tns.length g)
  (hb:∀cl C s H ex E,PG (X.comp (tns++caps.map (·.2)) scope cl C s H ex E) tg g/\PTs (X.comp (tns++caps.map (·.2)) scope cl C s H ex E) ifs tt/\PE (X.comp (tns++caps.map (·.2)) scope cl C s H ex E) elt te)
  (hsc:X.env.scope=sc:=by rfl)(hN0:X.N=N0:=by rfl)(ok:GD sc scope N0 tns caps=true:=by decide+kernel)
  (hsw:swapsWith (.ListComp elt [⟨tg,iter,ifs,0⟩] scope pos) (some (.Name x px)) spos.line X.env=pure true:=by rfl)
  (hs:∀x,foldedSetIterable iter X.env x=pure x:=by intro _;rfl):
  PS X (.Assign [.Name x px] (.ListComp elt [⟨tg,iter,ifs,0⟩] scope pos) spos) (Dq (F8 tns.length caps wi g tt te) (Yz j)):=by
 intro pins s σ H D I h
 have okc:=COk.of hsc hN0 ok
 obtain⟨cl,ecl,hsub,hall⟩:=FM (scope:=scope) (env:=X.env) λx hx hfr=>I.ok.has x.1 (.inl (okc.free x hx hfr))
 rw[exec_Assign_Name_used _ _ _ _ hsw]
 refine wpAny_bind (wpAny_standAt (wpAny_bind ?_))
 show wpAny _ _ (do let _ ←comprehension (.ListComp elt [⟨tg,iter,ifs,0⟩] scope pos) scope X.env _ (newList []) false (eval iter X.env) (some (assign (.Name x px) X.env))) _ _ s
 refine wpAny_bind (thn (wpAny_comprehension_free (use:=some (assign (.Name x px) X.env)) (Q:=λ_ s'=>SP X pins D .next s') rfl hs ecl okc.kind okc.loc
  (thn (hi pins s σ H _ I h) λxv s₁ h₁=>thn h₁ λitv s₂ h₂=>?_)) λ_ s' hq=>wpAny_pure (wpAny_pure hq))
 refine U2 (Q:=λv H1=>Yz j v σ H1 D.nx) (RR:=λacc C=>compPost (model X.prog X.w) X.A X.xe (some (assign (.Name x px) X.env)) (λ_ s'=>SP X pins D .next s') acc C) okc hc rfl hG hb h₂ hsub hall ?_
 intro DD C ys H3 s' ce q
 obtain⟨mm,hns⟩:=ce.ns
 obtain⟨c0,c1,c2,c3,c4,c5⟩:=ce.fp
 show wpAny _ _ (assign (.Name x px) X.env (.ref DD)) _ _ _
 refine wpAny_assign_Name (GJ ce.inv hN hj (.inl hx) (v:=.ref DD) rfl (λs2 I2 chg=>?_) (.inr hx))
 obtain⟨c,hsb,hcc⟩:=chg
 have hCc:C≠c:=by
  rcases hcc with z |z
  ·rw[z];exact c1
  ·exact λe=>c4 x c z e.symm
 refine⟨mm,?_,λh' hs'=>?_⟩
 ·obtain⟨o,es,ep,ho,r⟩:=hns
  exact⟨o,es,ep,(hsb.2 C hCc).trans ho,r⟩
 ·exact⟨_,_,I2.turned (t':=s2.toks) (λb o hb' e=>(hs'.extBut b o hb' e)) c0 c1 c3 c4 c5,q⟩
end
section
variable {K:PySem.W.Frag}{a:Addr}{xs:List V}{n:Nat}{caps:List (Nat×Str)}{g:TG}{tt:TT}{te:TE}{σ:St}{H:Hp}{Q:V->Hp->Prop}
end
section
variable {X:Cx}{pos:Pos}
noncomputable def Do (K:PySem.W.Frag):List V->Hp->VK->Prop:=λxs H Q=>∃ p ys,xs=[.ref p]/\(SqL K H p ys∨SqT K H p ys)/\∀l,H l=none->Q (.ref l) (upd H l (.lst ys))
noncomputable def Vf (K:PySem.W.Frag):List V->Hp->VK->Prop:=λxs H Q=>∃ p ys,xs=[.ref p]/\(SqL K H p ys∨SqT K H p ys)/\Q (.int ys.length) H
theorem X0 (K:PySem.W.Frag)(h:X.K=K):Zc X (.type "list") (Do K):=by subst h;exact GU
theorem Xl (K:PySem.W.Frag)(h:X.K=K):Zc X (.builtin "len") (Vf K):=by subst h;exact G7
theorem Xi (K:PySem.W.Frag)(h:X.K=K):IxR X (B9 K):=by subst h;exact MQ
theorem Xg (K:PySem.W.Frag)(h:X.K=K):IxR X (Fj K):=by subst h;exact OY
theorem Yn (K:PySem.W.Frag)(h:X.K=K):SlR X (Pl K):=by subst h;exact ML
theorem MW (K:PySem.W.Frag)(h:X.K=K){es:List Expr}{k:Nat}{t:TGs}{n:Nat}(hc:X.calm=true)(hh:PGs X es t)
  (hn:(assignEach es X.env).length=n:=by rfl)(hst:(assignEach es X.env).findIdx? (·.1)=none:=by rfl):PG X (.Tuple es k pos) (Li K n t):=by subst h;exact Ve hc hh hn hst
end
structure Fn (P:Program)(w:World)(K:PySem.W.Frag)(mg:Str->Option Value)(base:Heap)(k:Nat)(x:Str)(ps:List Str)(sp:Sp):Prop where
 ex:∃f fd,FnOk P w K mg base CX0 k f fd ps sp/\Fk K fd ps []/\PySem.W.keepIn K (.ref f)=true/\mg x=some (.ref f)
section
variable {X:Cx}{k j:Nat}{x:Str}{ps:List Str}{sp:Sp}{e:Expr}{es:List Expr}{t:TA}{p pos:Pos}
theorem XA (G:Fn X.prog X.w X.K X.mg X.base k x ps sp)(hr:Room j X.A)(hj:k<=j)(ha:PA X (e::es) t)(hg:Gl X x:=by rfl)(hdb:(x==("__debug__":Str))=false:=by decide)
  (he:starEach (e::es) X.env=(false,eval e X.env)::starEach es X.env:=by rfl)(hpl:(backTo pos (starEach es X.env)).any (·.1)=false:=by rfl):
  PE X (.Call (.Name x p) (e::es) [] pos) (Q0 sp [] E0 t):=by
 obtain⟨f,fd,F,b,kp,m⟩:=G.ex
 exact MX F (hr.mono hj) hg m kp b .nil Ry ha hdb he hpl
end
noncomputable def Def (K:PySem.W.Frag)(mg:Str->Option Value)(x:Str)(st:Stmt)(ps:List Str):Prop:=∃ f fd,Fun K x x st f fd/\Fk K fd ps []/\mg x=some (.ref f)
theorem US {P:Program}{w:World}{K:PySem.W.Frag}{mg:Str->Option Value}{base:Heap}{x:Str}{st:Stmt}{N ps:List Str}{k:Nat}{sp:Sp}(D:Def K mg x st ps)(S:FnScope N ps (Xj st))(len:∀vs H Q E,sp vs H Q E->vs.length=ps.length)
  (hbody:∀(f:Addr) (cdv:Value) (A:Around) (outer:List Env) (s:Shared) (H:Hp) (vs:List V) (Q:VK) (E:XK),Room k (A.deeper (envOfC x (Xj st) s.heap.objs.size f cdv))->sp vs H Q E->
   ∃t,PSs (Bs CX0 P w K mg base N x (Xj st) f cdv A outer s H E).nox (X6 st) t/\t {nx:=λ_ H'=>Q .non H',rt:=Q} (Uz N vs) H):Fn P w K mg base (k+1) x ps sp:=by
 obtain⟨f,fd,F,b,m⟩:=D
 exact⟨f,fd,F.ok S len (hbody f),b,F.kp,m⟩
theorem Vs {a d c:Nat}(h:d<=8)(hu:a+8<c):a+d<c:=by omega
theorem XQ {H:Hp}{p:Addr}(h:H p=none)(o:HO):Xu H (upd H p o):=λb u q=>by rw[XT (Yg q h)];exact q
theorem Xu.own {H H2:Hp}{p:Addr}(s:Xu H H2)(h:H p=none)(o:HO):Xu H (upd H2 p o):=λb u q=>by rw[XT (Yg q h)];exact s b u q
theorem Xu.new {H H2:Hp}{p:Addr}(s:Xu H H2)(h:H2 p=none)(o:HO):Xu H (upd H2 p o):=s.trans (XQ h o)
theorem Xu.seqT {K:PySem.W.Frag}{H H':Hp}{a:Addr}{xs:List V}(e:Xu H H')(h:SqT K H a xs):SqT K H' a xs:=by
 rcases h with(h | ⟨o,h⟩) |h
 ·exact .inl (.inl (e _ _ h))
 ·exact .inl (.inr ⟨o,e _ _ h⟩)
 ·exact .inr h
theorem hu8 {A:Around}{k:Nat}(hr:Room k A):A.units+8<cLine:=Nat.lt_of_le_of_lt (Nat.add_le_add_left (by decide:8<=64) _) hr.units
noncomputable abbrev Enc (α:Type):=PySem.W.Frag->Hp->V->α->Prop
noncomputable def Xe:Enc Int:=λ_ _ v i=>v= .int i
noncomputable def rL {α:Type}(r:Enc α):Enc (List α):=λK H v as=>∃ a xs,v= .ref a/\SqL K H a xs/\Paired (r K H) xs as
noncomputable def rT2 {α β:Type}(r:Enc α)(q:Enc β):Enc (α×β):=λK H v p=>∃ a x y,v= .ref a/\SqT K H a [x,y]/\r K H x p.1/\q K H y p.2
theorem Paired.getL {α β:Type}{F:α->β->Prop}:∀{l:List α}{m:List β}{i:Nat}{a:α},Paired F l m->l[i]?=some a->∃b,m[i]?=some b/\F a b
 |_,_,_,_, .nil,e=>by simp at e
 |_,_,0,_, .cons r _,e=>by simp at e;subst e;exact⟨_,rfl,r⟩
 |_,_,i+1,a, .cons _ t,e=>by
  obtain⟨b,h1,h2⟩:=Paired.getL (i:=i) (a:=a) t (by simpa using e)
  exact⟨b,by simpa using h1,h2⟩
theorem Paired.getR {α β:Type}{F:α->β->Prop}:∀{l:List α}{m:List β}{i:Nat}{b:β},Paired F l m->m[i]?=some b->∃a,l[i]?=some a/\F a b
 |_,_,_,_, .nil,e=>by simp at e
 |_,_,0,_, .cons r _,e=>by simp at e;subst e;exact⟨_,rfl,r⟩
 |_,_,i+1,b, .cons _ t,e=>by
  obtain⟨a,h1,h2⟩:=Paired.getR (i:=i) (b:=b) t (by simpa using e)
  exact⟨a,by simpa using h1,h2⟩
theorem Paired.of_map {α β γ:Type}{F:β->γ->Prop}(f:α->β):∀{l:List α}{m:List γ},Paired (λa c=>F (f a) c) l m->Paired F (l.map f) m
 |_,_, .nil=>.nil
 |_,_, .cons r t=>.cons r (Paired.of_map f t)
theorem Paired.len {α β:Type}{F:α->β->Prop}{l:List α}{m:List β}(h:Paired F l m):l.length=m.length:=Paired.length h
theorem Paired.app {α β:Type}{F:α->β->Prop}:∀{l l':List α}{m m':List β},Paired F l m->Paired F l' m'->Paired F (l++l') (m++m'):=λp h=>by
 induction p with
 |nil=>exact h
 |cons r _ ih=>exact .cons r ih
theorem F0 (ns:List Int):∀{K:PySem.W.Frag}{H:Hp},Paired (Xe K H) (ns.map V.int) ns:=by
 intro K H
 induction ns with
 |nil=>exact .nil
 |cons n r ih=>exact .cons rfl ih
theorem UI:∀{xs:List V}{ns:List Int}{K:PySem.W.Frag}{H:Hp},Paired (Xe K H) xs ns->xs=ns.map V.int
 |_,_,_,_, .nil=>rfl
 |_,_,_,_, .cons r t=>by
  have r':_=V.int _:=r
  rw[r',UI t];rfl
structure EqOk {α:Type}[DecidableEq α](r:Enc α)(d:Nat):Prop where
 uniq:∀{X:Cx}{pins:List (Addr×Obj)}{σ:St}{H:Hp}{s:Shared}{x:V}{a b:α},Inv X pins σ H s->r X.K H x a->r X.K H x b->a=b
 eq:∀{X:Cx}{pins:List (Addr×Obj)}{σ:St}{H:Hp}{s:Shared}{x y:V}{v u:Value}{a b:α}{A:Around},Inv X pins σ H s->XW x v->XW y u->r X.K H x a->r X.K H y b->A.units+d<cLine->SeqAt.EqAt A s v u (decide (a=b))
 rc:∀{X:Cx}{pins:List (Addr×Obj)}{σ:St}{H:Hp}{s:Shared}{x y:V}{v u:Value}{a b:α}{A:Around},Inv X pins σ H s->XW x v->XW y u->r X.K H x a->r X.K H y b->A.units+d<cLine->SeqAt.RcAt A s v u (decide (a=b))
 ne:∀{X:Cx}{pins:List (Addr×Obj)}{σ:St}{H:Hp}{s:Shared}{x y:V}{v u:Value}{a b:α}{A:Around},Inv X pins σ H s->XW x v->XW y u->r X.K H x a->r X.K H y b->A.units+d<cLine->SeqAt.RcNeAt A s v u (!decide (a=b))
 keep:∀{K:PySem.W.Frag}{H H':Hp}{x:V}{a:α},Xu H H'->r K H x a->r K H' x a
theorem EqOk.up {α:Type}[DecidableEq α]{r:Enc α}{d e:Nat}(E:EqOk r d)(h:d<=e):EqOk r e:=
 ⟨E.uniq,λI rx ry h1 h2 hu=>E.eq I rx ry h1 h2 (by omega),λI rx ry h1 h2 hu=>E.rc I rx ry h1 h2 (by omega),λI rx ry h1 h2 hu=>E.ne I rx ry h1 h2 (by omega),E.keep⟩
theorem ZG (A:Around):A.in1.units=A.units+1:=rfl
theorem Ic {a b:Int}:(a==b)=decide (a=b):=by rw[Bool.eq_iff_iff];simp
theorem eq_int:EqOk Xe 0 where
 uniq:=λ_ h1 h2=>by
  have h1':_=V.int _:=h1
  have h2':_=V.int _:=h2
  rw[h1'] at h2';injection h2'
 eq:=fun {X pins σ H s x y v u a b A} I rx ry h1 h2 _=>by
  have h1':x=V.int a:=h1
  have h2':y=V.int b:=h2
  subst h1' h2'
  obtain⟨t,rfl⟩:=rx
  obtain⟨t',rfl⟩:=ry
  rw[←Ic];exact SeqAt.EqAt.int_int a t b t'
 rc:=fun {X pins σ H s x y v u a b A} I rx ry h1 h2 _=>by
  have h1':x=V.int a:=h1
  have h2':y=V.int b:=h2
  subst h1' h2'
  obtain⟨t,rfl⟩:=rx
  obtain⟨t',rfl⟩:=ry
  rw[←Ic];exact SeqAt.RcAt.int_int a t b t'
 ne:=fun {X pins σ H s x y v u a b A} I rx ry h1 h2 _=>by
  have h1':x=V.int a:=h1
  have h2':y=V.int b:=h2
  subst h1' h2'
  obtain⟨t,rfl⟩:=rx
  obtain⟨t',rfl⟩:=ry
  rw[←Ic];exact SeqAt.RcNeAt.int_int a t b t'
 keep:=λ_ h=>h
theorem Hm {α:Type}[DecidableEq α]{as bs:List α}(h:as.length=bs.length):(List.range as.length).all (λj=>decide (as[j]?=bs[j]?))=decide (as=bs):=by
 rw[Bool.eq_iff_iff]
 simp only[List.all_eq_true,List.mem_range,decide_eq_true_eq]
 constructor
 ·intro hh
  apply List.ext_getElem?
  intro i
  by_cases hi:i<as.length
  ·exact hh i hi
  ·rw[List.getElem?_eq_none (by omega),List.getElem?_eq_none (by omega)]
 ·rintro rfl;intros;rfl
theorem Paired.uniq {α β:Type}{F:α->β->Prop}(hu:∀a b c,F a b->F a c->b=c):∀{l:List α}{m m':List β},Paired F l m->Paired F l m'->m=m':=fun {l m m'} p=>by
 induction p generalizing m' with
 |nil=>intro q;cases q;rfl
 |cons r _ ih=>intro q;cases q with |cons r' t'=>rw[hu _ _ _ r r',ih t']
theorem Paired.imp2 {α β:Type}{F G:α->β->Prop}(h:∀a b,F a b->G a b):∀{l:List α}{m:List β},Paired F l m->Paired G l m:=λp=>by
 induction p with
 |nil=>exact .nil
 |cons r _ ih=>exact .cons (h _ _ r) ih
section
variable {α:Type}[DecidableEq α]{r:Enc α}{d:Nat}
theorem U5 (E:EqOk r d){X:Cx}{pins:List (Addr×Obj)}{σ:St}{H:Hp}{s:Shared}{A:Around}(I:Inv X pins σ H s)(hu:A.units+(d+1)<cLine){xs ys:List V}{as bs:List α}{its its2:List Value}
  (r1:XZ xs its)(r2:XZ ys its2)(p1:Paired (r X.K H) xs as)(p2:Paired (r X.K H) ys bs):
  ∀j (h1:j<its.toArray.size) (h2:j<its2.toArray.size),SeqAt.EqAt A.in1 s its.toArray[j] its2.toArray[j] (decide (as[j]?=bs[j]?)):=by
 intro j h1 h2
 have h1':j<its.length:=by simpa using h1
 have h2':j<its2.length:=by simpa using h2
 obtain⟨x,ex,rx⟩:=Paired.getR (i:=j) (b:=its[j]) r1 (by simp[h1'])
 obtain⟨y,ey,ry⟩:=Paired.getR (i:=j) (b:=its2[j]) r2 (by simp[h2'])
 obtain⟨a,ea,ra⟩:=Paired.getL p1 ex
 obtain⟨b,eb,rb⟩:=Paired.getL p2 ey
 have:=E.eq (A:=A.in1) I rx ry ra rb (by rw[ZG];omega)
 rw[ea,eb]
 simpa using this
theorem MG (E:EqOk r d):EqOk (rL r) (d+1):=by
 have un:∀{X:Cx}{pins:List (Addr×Obj)}{σ:St}{H:Hp}{s:Shared}{x:V}{a b:List α},Inv X pins σ H s->rL r X.K H x a->rL r X.K H x b->a=b:=by
  intro X pins σ H s x as bs I h1 h2
  obtain⟨a,xs,rfl,q1,p1⟩:=h1
  obtain⟨b,ys,e,q2,p2⟩:=h2
  cases e
  cases I.list_inj q1 q2
  exact Paired.uniq (F:=r X.K H) (λ_ _ _ z z'=>E.uniq I z z') p1 p2
 have rc:∀{X:Cx}{pins:List (Addr×Obj)}{σ:St}{H:Hp}{s:Shared}{x y:V}{v u:Value}{a b:List α}{A:Around},Inv X pins σ H s->XW x v->XW y u->rL r X.K H x a->rL r X.K H y b->A.units+(d+1)<cLine->SeqAt.RcAt A s v u (decide (a=b)):=by
  intro X pins σ H s x y v u as bs A I rx ry h1 h2 hu
  obtain⟨a,xs,rfl,q1,p1⟩:=h1
  obtain⟨b,ys,rfl,q2,p2⟩:=h2
  cases rx;cases ry
  obtain⟨its,r1,l1,_⟩:=I.list q1
  obtain⟨its2,r2,l2,_⟩:=I.list q2
  have n1:=r1.length
  have n2:=r2.length
  have m1:=Paired.len p1
  have m2:=Paired.len p2
  by_cases hl:as.length=bs.length
  ·have:=SeqAt.RcAt.lists (A:=A) (e:=λj=>decide (as[j]?=bs[j]?)) l1.isList l2.isList (by simp only[List.size_toArray];omega) (by omega) (U5 E I hu r1 r2 p1 p2)
   rw[show its.toArray.size=as.length by simp only[List.size_toArray];omega,Hm hl] at this
   exact this
  ·rw[decide_eq_false (λe=>hl (congrArg List.length e))]
   exact SeqAt.RcAt.lists_lengths l1.isList l2.isList (by simp only[List.size_toArray,bne_iff_ne];omega) (by omega)
 refine⟨un,?_,rc,?_,?_⟩
 ·intro X pins σ H s x y v u as bs A I rx ry h1 h2 hu
  obtain⟨a,xs,rfl,q1,p1⟩:=id h1
  obtain⟨b,ys,rfl,q2,p2⟩:=id h2
  have R:=rc (A:=A) I rx ry h1 h2 hu
  cases rx;cases ry
  by_cases e:a=b
  ·subst e
   rw[decide_eq_true (un I h1 h2)]
   exact SeqAt.EqAt.same _
  ·exact SeqAt.EqAt.of_refs e R
 ·intro X pins σ H s x y v u as bs A I rx ry h1 h2 hu
  obtain⟨a,xs,rfl,q1,p1⟩:=h1
  obtain⟨b,ys,rfl,q2,p2⟩:=h2
  cases rx;cases ry
  obtain⟨its,r1,l1,_⟩:=I.list q1
  obtain⟨its2,r2,l2,_⟩:=I.list q2
  have n1:=r1.length
  have n2:=r2.length
  have m1:=Paired.len p1
  have m2:=Paired.len p2
  by_cases hl:as.length=bs.length
  ·have:=SeqAt.RcNeAt.lists (A:=A) (e:=λj=>decide (as[j]?=bs[j]?)) l1.isList l2.isList (by simp only[List.size_toArray];omega) (by omega) (U5 E I hu r1 r2 p1 p2)
   rw[show its.toArray.size=as.length by simp only[List.size_toArray];omega,Hm hl] at this
   exact this
  ·rw[decide_eq_false (λe=>hl (congrArg List.length e))]
   exact SeqAt.RcNeAt.lists_lengths l1.isList l2.isList (by simp only[List.size_toArray,bne_iff_ne];omega) (by omega)
 ·intro K H H' x as e h
  obtain⟨a,xs,rfl,q1,p1⟩:=h
  exact⟨a,xs,rfl,e.seq q1,Paired.imp2 (λ_ _ z=>E.keep e z) p1⟩
end
section
variable {α β:Type}[DecidableEq α][DecidableEq β]{r:Enc α}{q:Enc β}{d:Nat}
theorem DT {a1 a2:α}{b1 b2:β}:(decide (a1=a2)&&decide (b1=b2))=decide ((a1,b1)=(a2,b2)):=by
 rw[Bool.eq_iff_iff];simp
theorem Nf (E:EqOk r d)(F:EqOk q d):EqOk (rT2 r q) (d+1):=by
 have un:∀{X:Cx}{pins:List (Addr×Obj)}{σ:St}{H:Hp}{s:Shared}{x:V}{a b:α×β},Inv X pins σ H s->rT2 r q X.K H x a->rT2 r q X.K H x b->a=b:=by
  rintro X pins σ H s x ⟨a1,a2⟩ ⟨b1,b2⟩ I h1 h2
  obtain⟨a,x1,x2,rfl,q1,p1,p2⟩:=h1
  obtain⟨b,y1,y2,e,q2,p3,p4⟩:=h2
  cases e
  cases I.tuple_inj q1 q2
  rw[show a1=b1 from E.uniq I p1 p3,show a2=b2 from F.uniq I p2 p4]
 have its:∀{X:Cx}{pins:List (Addr×Obj)}{σ:St}{H:Hp}{s:Shared}{x1 x2 y1 y2:V}{u1 u2 w1 w2:Value}{a b:α×β}{A:Around},Inv X pins σ H s->XW x1 u1->XW x2 u2->XW y1 w1->XW y2 w2->
   r X.K H x1 a.1->q X.K H x2 a.2->r X.K H y1 b.1->q X.K H y2 b.2->A.units+(d+1)<cLine->
   ∀j (h1:j< [u1,u2].toArray.size) (h2:j< [w1,w2].toArray.size),SeqAt.EqAt A.in1 s [u1,u2].toArray[j] [w1,w2].toArray[j] ((λj=>if j=0 then decide (a.1=b.1) else decide (a.2=b.2)) j):=by
  intro X pins σ H s x1 x2 y1 y2 u1 u2 w1 w2 a b A I e1 e2 e3 e4 p1 p2 p3 p4 hu j h1 h2
  have hj:j=0∨j=1:=by
   have h1':j<2:=h1
   omega
  rcases hj with rfl |rfl
  ·exact E.eq (A:=A.in1) I e1 e3 p1 p3 (by rw[ZG];omega)
  ·exact F.eq (A:=A.in1) I e2 e4 p2 p4 (by rw[ZG];omega)
 have rc:∀{X:Cx}{pins:List (Addr×Obj)}{σ:St}{H:Hp}{s:Shared}{x y:V}{v u:Value}{a b:α×β}{A:Around},Inv X pins σ H s->XW x v->XW y u->rT2 r q X.K H x a->rT2 r q X.K H y b->A.units+(d+1)<cLine->SeqAt.RcAt A s v u (decide (a=b)):=by
  rintro X pins σ H s x y v u ⟨a1,a2⟩ ⟨b1,b2⟩ A I rx ry h1 h2 hu
  obtain⟨a,x1,x2,rfl,q1,p1,p2⟩:=h1
  obtain⟨b,y1,y2,rfl,q2,p3,p4⟩:=h2
  cases rx;cases ry
  obtain⟨i1,r1,l1,_⟩:=I.tuple q1
  obtain⟨i2,r2,l2,_⟩:=I.tuple q2
  obtain⟨u1,u2,rfl,e1,e2⟩:=XZ.two r1
  obtain⟨w1,w2,rfl,e3,e4⟩:=XZ.two r2
  have:=SeqAt.RcAt.tuples (A:=A) l1 l2 (by omega) (its (a:=(a1,a2)) (b:=(b1,b2)) I e1 e2 e3 e4 p1 p2 p3 p4 hu)
  rw[←DT]
  simpa[List.range_succ] using this
 refine⟨un,?_,rc,?_,?_⟩
 ·intro X pins σ H s x y v u as bs A I rx ry h1 h2 hu
  obtain⟨a,x1,x2,rfl,q1,p1,p2⟩:=id h1
  obtain⟨b,y1,y2,rfl,q2,p3,p4⟩:=id h2
  have R:=rc (A:=A) I rx ry h1 h2 hu
  cases rx;cases ry
  by_cases e:a=b
  ·subst e
   rw[decide_eq_true (un I h1 h2)]
   exact SeqAt.EqAt.same _
  ·exact SeqAt.EqAt.of_refs e R
 ·rintro X pins σ H s x y v u ⟨a1,a2⟩ ⟨b1,b2⟩ A I rx ry h1 h2 hu
  obtain⟨a,x1,x2,rfl,q1,p1,p2⟩:=h1
  obtain⟨b,y1,y2,rfl,q2,p3,p4⟩:=h2
  cases rx;cases ry
  obtain⟨i1,r1,l1,_⟩:=I.tuple q1
  obtain⟨i2,r2,l2,_⟩:=I.tuple q2
  obtain⟨u1,u2,rfl,e1,e2⟩:=XZ.two r1
  obtain⟨w1,w2,rfl,e3,e4⟩:=XZ.two r2
  have:=SeqAt.RcNeAt.tuples (A:=A) l1 l2 (by omega) (its (a:=(a1,a2)) (b:=(b1,b2)) I e1 e2 e3 e4 p1 p2 p3 p4 hu)
  rw[←DT]
  simpa[List.range_succ] using this
 ·intro K H H' x as e h
  obtain⟨a,x1,x2,rfl,q1,p1,p2⟩:=h
  exact⟨a,x1,x2,rfl,e.seqT q1,E.keep e p1,F.keep e p2⟩
end
section
variable {X:Cx}{α:Type}[DecidableEq α]{r:Enc α}{d:Nat}
noncomputable def Ra (K:PySem.W.Frag)(r:Enc α):R2:=λx y H Q=>∃ a b,r K H x a/\r K H y b/\Q (.bl (decide (a=b))) H
noncomputable def PX (K:PySem.W.Frag)(r:Enc α):R2:=λx y H Q=>∃ a b,r K H x a/\r K H y b/\Q (.bl (!decide (a=b))) H
theorem Oy (E:EqOk r d)(hu:X.A.units+d<cLine):OpR X (compareOp .Eq) (Ra X.K r):=by
 intro pins s σ H x y v u Q I rx ry h
 obtain⟨a,b,h1,h2,q⟩:=h
 exact E.rc (A:=X.A) I rx ry h1 h2 hu _ _ _ _ ⟨.bl _,H,I,rfl,q⟩
theorem Pj (E:EqOk r d)(hu:X.A.units+d<cLine):OpR X (compareOp .NotEq) (PX X.K r):=by
 intro pins s σ H x y v u Q I rx ry h
 obtain⟨a,b,h1,h2,q⟩:=h
 exact E.ne (A:=X.A) I rx ry h1 h2 hu _ _ _ _ ⟨.bl _,H,I,rfl,q⟩
theorem YD:Zc X (.builtin "isinstance") (λxs H Q=>∃ x n t b,xs=[x, .ty n]/\TyOf X.K H x t/\PySem.W.kitOne X.K t (.type n)=some b/\Q (.bl b) H):=by
 intro pins s σ H xs us Q I r h
 obtain⟨x,n,t,b,rfl,ty,e,q⟩:=h
 obtain⟨u,v,rfl,ru,rv⟩:=XZ.two r
 cases(show v=Value.type n from rv)
 exact B6 I ru ty e λtk=>⟨.bl b,H,I.tok tk,rfl,q⟩
theorem K0:OpR X (binaryOp .FloorDiv) (rI (λ_ j=>0<j/\j.natAbs.log2<9000) λi j=>.int (i/j)):=opI λi j _ _ _ _ _ hc q=>by
 refine floordiv_int (by omega) ?_ (.inl (PyProof.noPylong_of_log2 hc.2))
 rw[Int.fdiv_eq_ediv_of_nonneg i (by omega)]
 exact q
end
end L2
namespace PySem
open Sem (wp)
section
variable {prog:Program}{w:World}{A:Around}{E:Value->Shared->Prop}{s:Shared}
end
end PySem
namespace L2
open PySem PySem.Spec PyProof.Rows
theorem FR {α β:Type}{F:α->β->Prop}:∀{l:List α}{m:List β}{i:Nat}{b:β},Paired F l m->m[i]?=some b->∃a,l[i]?=some a/\F a b
 |_,_,_,_, .nil,e=>by simp at e
 |_,_,0,_, .cons r _,e=>by simp at e;subst e;exact⟨_,rfl,r⟩
 |_,_,i+1,b, .cons _ t,e=>by
  obtain⟨a,h1,h2⟩:=FR (i:=i) (b:=b) t (by simpa using e)
  exact⟨a,by simpa using h1,h2⟩
section
variable {X:Cx}{e:Expr}{te:TE}
noncomputable def R6 (K:PySem.W.Frag)(te ts:TE):TE:=λσ H Q=>te σ H λx H1=>ts σ H1 λy H2=>y= .int (-1)/\∃a xs,x= .ref a/\SqL K H2 a xs/\∀p,H2 p=none->Q (.ref p) (upd H2 p (.lst xs.reverse))
theorem GO {st:Expr}{ts:TE}{p2 pos:Pos}(K:PySem.W.Frag)(hK:X.K=K)(he:PE X e te)(hst:PE X st ts):PE X (.Subscript e (.Slice none none (some st) p2) pos) (R6 K te ts):=by
 intro pins s σ H Q I h
 subst hK
 refine Subscript_ (thn (he pins s σ H _ I h) λv s1 r9=>?_)
 obtain⟨x,H1,I1,r1,q1⟩:=r9
 refine wpAny_Slice ?_
 rw[evalPart_none]
 refine wpAny_pure ?_
 refine wpAny_pure ?_
 rw[evalPart_some]
 refine thn (hst pins s1 σ H1 _ I1 q1) λvk s3 r9=>?_
 obtain⟨y,H3,I3,r3,ey,a,xs,ex,hx,q⟩:=r9
 subst ey ex
 cases r1
 obtain⟨t,rfl⟩:=r3
 have I4:Inv X pins σ H3 {s3 with heap:=s3.heap.push {cls:=.type "slice",data:=.fields #[.none, .none, .int (-1) t]}}:=I3.kept (t':=s3.toks) λb ob q=>Heap.get?_push_of_some _ q
 obtain⟨its,r,ht,hz⟩:=I4.list hx
 have hlen:=r.length
 have hg:wpAny (model X.prog X.w) X.A (getItem (.ref a) (.ref s3.heap.objs.size)) (EP X pins σ Q) X.xe {s3 with heap:=s3.heap.push {cls:=.type "slice",data:=.fields #[.none, .none, .int (-1) t]}}:=by
  refine wpAny_getItem_list_slice ht.isList (Heap.IsSliceOf.new ..) .none .none (.int (-1) t) (by decide) ?_ (by rw[List.size_toArray];omega)
  rw[PySem.W.krv_pick]
  refine⟨.ref _,_,I4.laid (t':=s3.toks) (o:=.lst xs.reverse) (λb ob q=>Heap.get?_push_of_some _ q) (Nat.le_refl _) ?_,rfl,q _ (I4.hok.fresh (Nat.le_refl _))⟩
  exact⟨by rw[List.length_reverse];exact hz,its.reverse,0,r.reverse,Heap.get?_push_size _ rfl⟩
 show wpAny (model X.prog X.w) X.A (subscriptTail e (.Slice none none (some st) p2) (.ref a) (.ref s3.heap.objs.size)) (EP X pins σ Q) X.xe _
 exact tail_any (ops:=[.ref a, .ref s3.heap.objs.size]) ht.isList.typeIs slot_list_getitem.lookup hg (by with_unfolding_all rfl)
end
section
variable {X:Cx}{pins:List (Addr×Obj)}{σ:St}{H:Hp}{s:Shared}{h':Heap}
end
section
variable {X:Cx}{elts:List Expr}{k:Nat}{pos0:Pos}
end
section
variable {X:Cx}
end
section
variable {α:Type}[DecidableEq α]{r:Enc α}{d:Nat}
end
section
variable {X:Cx}{o e f:Expr}{td ty tx:TE}{apos cpos:Pos}
end
theorem YN:∀(names:List (Str×NameKind)) (n:Nat) (acc:List (Str×Addr)) {x:Str},(x,NameKind.cell)∉names->(cellsFrom n names acc).lookup x=acc.lookup x
 | [],_,_,_,_=>rfl
 | (y,k)::r,n,acc,x,h=>by
  have hr:(x,NameKind.cell)∉r:=λz=>h (List.mem_cons_of_mem _ z)
  unfold cellsFrom
  split
  ·rename_i hk
   have hk':k=NameKind.cell:=by simpa using hk
   rw[YN r _ _ hr,List.lookup_cons]
   have:(x==y)=false:=beq_eq_false_iff_ne.mpr λe=>h (by rw[e,hk'];exact List.mem_cons_self)
   rw[this]
  ·exact YN r _ _ hr
theorem ZX:∀(names:List (Str×NameKind)) (n:Nat) (acc:List (Str×Addr)) {x:Str}{c:Addr},(x,NameKind.cell)∈names->(cellsFrom n names acc).lookup x=some c->n<=c
 | [],_,_,_,_,h,_=>nomatch h
 | (y,k)::r,n,acc,x,c,h,e=>by
  unfold cellsFrom at e
  split at e
  ·by_cases hr:(x,NameKind.cell)∈r
   ·exact Nat.le_of_succ_le (ZX r _ _ hr e)
   ·rw[YN r _ _ hr,List.lookup_cons] at e
    rcases List.mem_cons.mp h with h |h
    ·have hx:x=y:=congrArg Prod.fst h
     rw[hx,beq_self_eq_true] at e
     exact Nat.le_of_eq (Option.some.inj e)
    ·exact absurd h hr
  ·rename_i hk
   rcases List.mem_cons.mp h with h |h
   ·exact absurd (by simpa using (congrArg Prod.snd h).symm) hk
   ·exact ZX r _ _ h e
theorem ZH:∀(names:List (Str×NameKind)) (n:Nat) (acc:List (Str×Addr)) {x:Str},((x,NameKind.cell)∈names∨∃c,acc.lookup x=some c)->∃c,(cellsFrom n names acc).lookup x=some c
 | [],_,_,_,h=>h.elim (λz=>nomatch z) id
 | (y,k)::r,n,acc,x,h=>by
  unfold cellsFrom
  split
  ·refine ZH r _ _ ?_
   by_cases hx:x=y
   ·subst hx;exact .inr ⟨n,by rw[List.lookup_cons];simp⟩
   ·rcases h with h | ⟨c,h⟩
    ·rcases List.mem_cons.mp h with h |h
     ·exact absurd (congrArg Prod.fst h) hx
     ·exact .inl h
    ·exact .inr ⟨c,by rw[List.lookup_cons,beq_eq_false_iff_ne.mpr hx];exact h⟩
  ·rename_i hk
   refine ZH r _ _ ?_
   rcases h with h |h
   ·rcases List.mem_cons.mp h with h |h
    ·exact absurd (by simpa using (congrArg Prod.snd h).symm) hk
    ·exact .inl h
   ·exact .inr h
theorem Z5:∀(names:List (Str×NameKind)) (n:Nat) (acc:List (Str×Addr)),(∀x y c,acc.lookup x=some c->acc.lookup y=some c->x=y)->(∀x c,acc.lookup x=some c->c<n)->
  ∀x y c,(cellsFrom n names acc).lookup x=some c->(cellsFrom n names acc).lookup y=some c->x=y
 | [],_,_,h,_=>h
 | (z,k)::r,n,acc,h,hl=>by
  unfold cellsFrom
  split
  ·refine Z5 r (n+1) _ (λx y c h1 h2=>?_) λx c h1=>?_
   ·rw[List.lookup_cons] at h1 h2
    cases hx:x==z<;> cases hy:y==z<;> rw[hx] at h1<;> rw[hy] at h2<;> simp only at h1 h2
    ·exact h x y c h1 h2
    ·cases h2;exact absurd (hl x n h1) (Nat.lt_irrefl _)
    ·cases h1;exact absurd (hl y n h2) (Nat.lt_irrefl _)
    ·rw[beq_iff_eq.mp hx,beq_iff_eq.mp hy]
   ·rw[List.lookup_cons] at h1
    cases hx:x==z<;> rw[hx] at h1<;> simp only at h1
    ·exact Nat.lt_succ_of_lt (hl x c h1)
    ·cases h1;exact Nat.lt_succ_self _
  ·exact Z5 r n acc h hl
theorem Zy:∀(names:List (Str×NameKind)) (h:Heap) (acc:List (Str×Addr)) {x:Str}{c:Addr},(cellsFrom h.objs.size names acc).lookup x=some c->acc.lookup x=some c∨((pushCells h names).IsCell c none/\h.objs.size<=c)
 | [],_,_,_,_,e=>.inl e
 | (z,k)::r,h,acc,x,c,e=>by
  unfold cellsFrom at e
  unfold pushCells
  split at e
  ·rename_i hk
   rw[if_pos hk]
   have e':(cellsFrom (h.push {cls:=.type "cell",data:=.cell none}).objs.size r ((z,h.objs.size)::acc)).lookup x=some c:=by rw[Heap.size_push];exact e
   rcases Zy r _ _ e' with q | ⟨q1,q2⟩
   ·rw[List.lookup_cons] at q
    cases hx:x==z<;> rw[hx] at q<;> simp only at q
    ·exact .inl q
    ·cases q
     exact .inr ⟨⟨_,pushCells_keeps _ _ _ _ (Heap.get?_push_size _ rfl),rfl⟩,Nat.le_refl _⟩
   ·exact .inr ⟨q1,by rw[Heap.size_push] at q2;omega⟩
  ·rename_i hk
   rw[if_neg hk]
   exact Zy r h acc e
theorem Kf:∀{l:List (Str×NameKind)}{x:Str}{j k:NameKind},(l.map (·.1)).Nodup->(x,j)∈l->(x,k)∈l->j≠k->False
 | [],_,_,_,_,h,_,_=>nomatch h
 | (y,i)::r,x,j,k,hn,h1,h2,ne=>by
  rw[List.map_cons,List.nodup_cons] at hn
  rcases List.mem_cons.mp h1 with h1 |h1<;> rcases List.mem_cons.mp h2 with h2 |h2
  ·cases h1;cases h2;exact ne rfl
  ·cases h1;exact hn.1 (List.mem_map.mpr ⟨_,h2,rfl⟩)
  ·cases h2;exact hn.1 (List.mem_map.mpr ⟨_,h1,rfl⟩)
  ·exact Kf hn.2 h1 h2 ne
theorem Qt {env:Env}:∀{names:List (Str×NameKind)}{x:Str}{k:NameKind},
  (names.map λ(n,k)=>if(k==NameKind.free&&env.scope.kind== .function&&env.kindOf n==some .cell) then(n,NameKind.cell) else(n,k)).lookup x=some k->(k= .cell∨k= .free)->(x,NameKind.free)∈names∨(x,NameKind.cell)∈names
 | [],_,_,h,_=>by simp at h
 | (n,kk)::r,x,k,h,hk=>by
  have ih:=@Qt env r x k
  simp only[List.map_cons] at h
  have up:((x,NameKind.free)∈r∨(x,NameKind.cell)∈r)->((x,NameKind.free)∈(n,kk)::r∨(x,NameKind.cell)∈(n,kk)::r):=λz=>z.elim (λz=>.inl (List.mem_cons_of_mem _ z)) λz=>.inr (List.mem_cons_of_mem _ z)
  by_cases hcond:(kk==NameKind.free&&env.scope.kind== .function&&env.kindOf n==some .cell)=true
  ·rw[if_pos hcond,List.lookup_cons] at h
   have hfree:kk=NameKind.free:=by
    rw[Bool.and_eq_true,Bool.and_eq_true] at hcond
    simpa using hcond.1.1
   cases hx:x==n with
   |true=>
    have:x=n:=by simpa using hx
    subst this;subst hfree
    exact .inl List.mem_cons_self
   |false=>rw[hx] at h;exact up (ih h hk)
  ·rw[if_neg hcond,List.lookup_cons] at h
   cases hx:x==n with
   |true=>
    rw[hx] at h
    have hkk:kk=k:=Option.some.inj h
    have:x=n:=by simpa using hx
    subst this;subst hkk
    rcases hk with z |z
    ·subst z;exact .inr List.mem_cons_self
    ·subst z;exact .inl List.mem_cons_self
   |false=>rw[hx] at h;exact up (ih h hk)
theorem Bl {M:Model}{A:Around}{E:Value->Shared->Prop}{s:Shared}{scope:Scope}{globals:Addr}{cl:List (Str×Addr)}{qual:Str}{outer:Env}{Q:Env->Shared->Prop}
  (hQ:∀h',h'.Ns s.heap.objs.size (λ_=>none)->(∀b o,s.heap.get? b=some o->h'.get? b=some o)->
   (∀x c,(cellsFrom (s.heap.objs.size+1) scope.names cl).lookup x=some c->cl.lookup x=some c∨(h'.IsCell c none/\s.heap.objs.size+1<=c))->
   Q (newEnv scope s.heap.objs.size globals (cellsFrom (s.heap.objs.size+1) scope.names cl) qual none .none (some outer) builtinsNs) {s with heap:=h'}):
  wpAny M A (newFunctionEnv scope globals cl [] qual none .none (some outer)) Q E s:=by
 simp only[newFunctionEnv,Option.isSome_some,if_true]
 refine wpAny_bind (wpAny_alloc ?_)
 refine wpAny_bind (wpAny_layCells _ (λname kind cells=>by cases hkc:kind==NameKind.cell<;> simp[hkc]) _ _ _ _ ?_)
 rw[show({s with heap:=s.heap.push {cls:=.type "dict",data:=.dict #[]}}:Shared).heap.objs.size=s.heap.objs.size+1 from Heap.size_push ..]
 rw[List.forIn_nil]
 refine wpAny_bind (wpAny_pure (wpAny_pure (hQ _ ((Heap.Ns.new s.heap (.type "dict")).keeps (pushCells_keeps _ _)) (λb o e=>pushCells_keeps _ _ b o (Heap.get?_push_of_some _ e)) λx c e=>?_)))
 have e':(cellsFrom (s.heap.push {cls:=.type "dict",data:=.dict #[]}).objs.size scope.names cl).lookup x=some c:=by rw[Heap.size_push];exact e
 rcases Zy scope.names _ cl e' with q | ⟨q1,q2⟩
 ·exact .inl q
 ·exact .inr ⟨q1,by rw[Heap.size_push] at q2;exact q2⟩
noncomputable def UE (sc scope:Scope)(N0 tns:List Str)(caps:List (Nat×Str)):Bool:=
 scope.kind== .function&&decide (scope.names.map (·.1)).Nodup&&scope.names.all (λy=>!(y.2== .local) || scope.names.lookup y.1==some .local)&&
 scope.names.all (λy=>!(y.2== .free) || (sc.names.lookup y.1==some .cell || sc.names.lookup y.1==some .free))&&caps.all (λp=>N0[p.1]?==some p.2&&(sc.names.lookup p.2==some .cell || sc.names.lookup p.2==some .free)&&scope.names.lookup p.2==some .free)
noncomputable abbrev Cx.compN (X:Cx)(N:List Str)(scope:Scope)(cl:List (Str×Addr))(C:Addr)(s:Shared)(H:Hp)(ex:List Addr)(E:Value->Shared->Prop):Cx:=
 {X.comp N scope cl C s H ex E with fn:=λx=>scope.names.lookup x==some .cell}
noncomputable def Ri (scope sc:Scope):Scope:=
 {scope with names:=scope.names.map λ(n,k)=>if(k== .free&&sc.kind== .function&&sc.names.lookup n==some .cell) then(n, .cell) else(n,k)}
section
variable {X:Cx}{elt tg iter:Expr}{ifs:List Expr}{scope sc:Scope}{pos:Pos}{n:Nat}{tns:List Str}{caps:List (Nat×Str)}{wi:TI}{g:TG}{tt:TT}{te:TE}
theorem Dk {N0:List Str}(hc:X.calm=true)(hsc:X.env.scope=sc)(hN0:X.N=N0)(ok:UE sc scope N0 tns caps=true)(hn:tns.length=n)(hG:Vx n g)
  (hb:∀cl C s H ex E,PG (X.compN (tns++caps.map (·.2)) scope cl C s H ex E) tg g/\PTs (X.compN (tns++caps.map (·.2)) scope cl C s H ex E) ifs tt/\PE (X.compN (tns++caps.map (·.2)) scope cl C s H ex E) elt te)
  {pins:List (Addr×Obj)}{σ:St}{H:Hp}{s:Shared}{J:It}{fp:List Addr}{it:Addr}{tn:Nat->Heap->Prop}{cl:List (Str×Addr)}{Q:V->Hp->Prop}{RR:Value->Addr->Result->Shared->Prop}
  (I:Inv X pins σ H s)(T:Turn X.prog X.w X.K tg J fp it tn)(t0:tn 0 s.heap)(hf:∀b∈fp,DZ X pins H b)
  (hsub:∀x c,cl.lookup x=some c->X.env.cells.lookup x=some c)(hall:∀x,(x,NameKind.free)∈scope.names->∃c,cl.lookup x=some c)
  (W:Nat->Nat->List V->Hp->Prop){m0:Nat}(w0:W 0 m0 [] H)
  (turn:HV g tt te (Yl n caps σ) Q J W)
  (hRR:∀D C ys H3 s',CompEnd X pins σ H3 D C ys s'->Q (.ref D) (upd H3 D (.lst ys))->RR (.ref D) C (.ok .next) s'){E:Value->Shared->Prop}:
  wpAny (model X.prog X.w) X.A (newList []) (λacc s₃=>wpAny (model X.prog X.w) X.A (newFunctionEnv scope X.env.globals cl [] X.env.qual none .none (some X.env)) (λcenv s₄=>
   codeAny (model X.prog X.w) X.A (.compStart (.ListComp elt [⟨tg,iter,ifs,0⟩] scope pos) 0 (.ref it) acc {cenv with scope:=relabel scope X.env}) (RR acc cenv.locals) s₄) E s₃) E s:=by
 subst hsc
 subst hN0
 unfold UE at ok
 simp only[Bool.and_eq_true,List.all_eq_true] at ok
 obtain⟨⟨⟨⟨ok1,ok2⟩,ok3⟩,ok4⟩,ok5⟩:=ok
 have hkind:scope.kind= .function:=by simpa using ok1
 have hnd:(scope.names.map (·.1)).Nodup:=by simpa using ok2
 refine wpAny_newObj_type (Bl (λh₁ hns₁ hsb₁ hc₁=>?_))
 dsimp only at hns₁ hsb₁ hc₁⊢
 generalize hH2:s.heap.push {cls:=.type "list",dict:=none,data:=.seq ([]:List Value).toArray}=H2 at hns₁ hsb₁ hc₁⊢
 have hC:H2.objs.size=s.heap.objs.size+1:=by rw[←hH2,Heap.size_push]
 have hDC:s.heap.objs.size≠H2.objs.size:=by rw[hC];exact Nat.ne_of_lt (Nat.lt_succ_self _)
 have hCle:s.heap.objs.size<=H2.objs.size:=by rw[hC];exact Nat.le_succ _
 have below:∀b,b<s.heap.objs.size->b≠H2.objs.size/\b≠s.heap.objs.size:=λb hb=>⟨by rw[hC];exact Nat.ne_of_lt (Nat.lt_succ_of_lt hb),Nat.ne_of_lt hb⟩
 have old:∀b o,s.heap.get? b=some o->h₁.get? b=some o:=λb o e=>hsb₁ b o (hH2▸Heap.get?_push_of_some _ e)
 have hacc:h₁.get? s.heap.objs.size=some {cls:=.type "list",data:=.seq ([]:List Value).toArray 0}:=hsb₁ _ _ (hH2▸Heap.get?_push_size _ rfl)
 have hst₁:tn 0 h₁:=T.keep _ _ _ t0 λb _ o e=>old b o e
 have cf2:∀x,(x,NameKind.free)∈scope.names->∃c,(cellsFrom (H2.objs.size+1) scope.names cl).lookup x=some c/\cl.lookup x=some c:=λx hx=>by
  obtain⟨c,hc⟩:=hall x hx
  exact⟨c,by rw[YN scope.names _ _ (λhm=>Kf hnd hx hm (by decide))];exact hc,hc⟩
 have cf3:∀x,(x,NameKind.cell)∈scope.names->∃c,(cellsFrom (H2.objs.size+1) scope.names cl).lookup x=some c:=λx hx=>ZH scope.names _ _ (.inl hx)
 have cf4:∀x y c,(cellsFrom (H2.objs.size+1) scope.names cl).lookup x=some c->(cellsFrom (H2.objs.size+1) scope.names cl).lookup y=some c->x=y:=
  Z5 scope.names _ _ (λx y c h1 h2=>I.ok.inj x y c (hsub x c h1) (hsub y c h2)) (λx c e=>by
   obtain⟨v,z⟩:=I.cell x c (hsub x c e)
   exact Nat.lt_of_lt_of_le z.lt (by rw[hC];omega))
 have cf5:∀x c,scope.names.lookup x=some NameKind.cell->(cellsFrom (H2.objs.size+1) scope.names cl).lookup x=some c->H2.objs.size+1<=c:=λx c hx e=>ZX scope.names _ _ (PySem.mem_of_lookup hx) e
 generalize hcl:cellsFrom (H2.objs.size+1) scope.names cl=cl' at*
 -- addresses
 generalize hD:s.heap.objs.size=D at*
 generalize hCe:H2.objs.size=C at*
 have fpLt:∀b∈fp,b<D:=λb hb=>by
  obtain⟨o,e,_⟩:=T.obj _ _ t0 b hb
  rw[←hD];exact Heap.lt_size e
 have hDlt:D<C:=by omega
 have cellNe:∀x c,cl'.lookup x=some c->c≠D:=λx c e=>by
  rcases hc₁ x c e with q | ⟨_,q⟩
  ·obtain⟨v,z⟩:=I.cell x c (hsub x c q)
   rw[←hD];exact Nat.ne_of_lt z.lt
  ·exact Nat.ne_of_gt (Nat.lt_trans hDlt (Nat.lt_of_succ_le q))
 have fpNe:∀b∈fp,∀x c,cl'.lookup x=some c->c≠b:=λb hb x c e=>by
  rcases hc₁ x c e with q | ⟨_,q⟩
  ·exact(hf b hb).2.2.2.2.1 x c (hsub x c q)
  ·exact Nat.ne_of_gt (Nat.lt_trans (fpLt b hb) (Nat.lt_trans hDlt (Nat.lt_of_succ_le q)))
 let X':Cx:=X.compN (tns++caps.map (·.2)) scope cl' C s H fp (notedBy (model X.prog X.w) X.A (compEnvC scope cl' C X.env) λe s'=>RR (.ref D) C (.error e) s')
 have okX:X'.Ok:=by
  refine⟨I.ok.mod,hkind,I.ok.glob,I.ok.blt,by show s.heap.objs.size<=C;omega,cf4,λx hx=>?_,λx c hx hcx=>(by show s.heap.objs.size<=c;have:=cf5 x c (by have hx2:(scope.names.lookup x==some NameKind.cell)=true:=hx;simpa using hx2) hcx;omega),I.ok.hd,I.ok.frames, .inl rfl,λb hb=>?_,I.bs,Nat.le_trans I.ok.bsz I.sz,λb o e hb=>?_,λb hb hz=>?_,I.stack,I.stkFree⟩
  ·have hx':(relabel scope X.env).names.lookup x=some .cell∨(relabel scope X.env).names.lookup x=some .free:=hx
   have hz:(x,NameKind.free)∈scope.names∨(x,NameKind.cell)∈scope.names:=by
    rcases hx' with z |z
    ·exact Qt z (.inl rfl)
    ·exact Qt z (.inr rfl)
   rcases hz with z |z
   ·obtain⟨c,q,_⟩:=cf2 x z
    exact⟨c,q⟩
   ·exact cf3 x z
  ·refine⟨Nat.ne_of_lt (Nat.lt_trans (fpLt b hb) hDlt),fpNe b hb⟩
  ·rcases(hf b hb).2.2.2.1 with z |z
   ·exact I.ok.noex b o e z
   ·exact absurd (Nat.lt_of_lt_of_le (Heap.lt_size e) (Nat.le_trans I.ok.bsz z)) (Nat.lt_irrefl _)
  ·rcases List.mem_cons.mp (I.stkSub b hz) with z |z
   ·exact(hf b hb).2.1 z
   ·exact(hf b hb).2.2.1 z
 have lenc:(Yl n caps σ).length=(tns++caps.map (·.2)).length:=by unfold Yl;simp[hn]
 have I1:∀tk,Inv X' [] (Yl n caps σ) H {s with heap:=h₁,toks:=tk}:=λtk=>by
  refine⟨okX,rfl,I.bare,Un.kept old,⟨_,hns₁,λi x v e1 e2 e3=>?_⟩,λx c e=>?_,I.hok.fresh (by rw[hD];exact Nat.le_of_lt hDlt),λx c e=>?fc,λp hp=>absurd (show p∈([]:List (Addr×Obj)) from hp) (by simp),I.hok.kept old,lenc⟩
  ·have hi:n<=i:=by
    by_cases h:n<=i
    ·exact h
    ·have e2':(Yl n caps σ)[i]?=some (some v):=e2
     unfold Yl at e2'
     rw[List.getElem?_append_left (by simp;omega),List.getElem?_replicate] at e2'
     split at e2'<;> cases e2'
   have e2':(Yl n caps σ)[i]?=some (some v):=e2
   unfold Yl at e2'
   rw[List.getElem?_append_right (by simpa using hi),List.length_replicate,List.getElem?_map] at e2'
   have e1':(tns++caps.map (·.2))[i]?=some x:=e1
   rw[List.getElem?_append_right (by rw[hn];exact hi),hn,List.getElem?_map] at e1'
   cases hcp:caps[i-n]? with
   |none=>rw[hcp] at e2';cases e2'
   |some p=>
    rw[hcp] at e2' e1'
    simp only[Option.map_some,Option.some.injEq] at e2' e1'
    have hp5:=ok5 p (List.mem_of_getElem? hcp)
    simp only[beq_iff_eq,Bool.or_eq_true] at hp5
    obtain⟨⟨p1,p2⟩,p3⟩:=hp5
    have hσ:σ[p.1]?=some (some v):=by
     cases hq:σ[p.1]? with
     |none=>rw[hq] at e2';cases e2'
     |some o=>rw[hq] at e2';simp at e2';rw[e2']
    subst e1'
    obtain⟨m,hm,hl⟩:=I.loc
    obtain⟨u,r,l⟩:=hl p.1 p.2 v p1 hσ (.inr p2)
    refine⟨u,r, .inr ?_⟩
    rcases l with⟨k,_⟩ | ⟨k,c,e,z⟩
    ·have k':X.env.scope.names.lookup p.2=some .local:=k
     rcases p2 with p2 |p2<;> (rw[p2] at k';cases k')
    ·obtain⟨c',e',e''⟩:=cf2 p.2 (PySem.mem_of_lookup p3)
     have:=hsub _ _ e''
     rw[e] at this;cases this
     obtain⟨o,ho,hd⟩:=z
     exact⟨Ql (env:=X.env) p3,c,e',⟨o,old _ _ ho,hd⟩⟩
  ·rcases hc₁ x c e with q | ⟨q,_⟩
   ·obtain⟨v,o,ho,hd⟩:=I.cell x c (hsub x c q)
    exact⟨v,o,old _ _ ho,hd⟩
   ·exact⟨_,q⟩
  case fc=>
   rcases hc₁ x c e with q | ⟨_,q⟩
   ·exact I.freeC x c (hsub x c q)
   ·exact I.hok.fresh (by rw[hD];omega)
 obtain⟨hg,ht,he⟩:=hb cl' C s H fp X'.xe
 have fsLt:∀b∈X'.fs,b<D:=λb hb=>by
  obtain⟨_,o,ho,_⟩:=I.stack.mem hb
  rw[←hD];exact Heap.lt_size ho
 have aY:CAt X' fp D:=⟨hc,rfl,Nat.ne_of_lt hDlt,λhz=>absurd (fsLt _ hz) (Nat.lt_irrefl _),by show s.heap.objs.size<=D;omega,cellNe,λb hb=>Nat.ne_of_lt (fpLt b hb),λb hb H' h'=>⟨h',Nat.ne_of_lt (Nat.lt_trans (fpLt b hb) hDlt),okX.exfs b hb, .inl hb,fpNe b hb,λp hp=>Gp (α:=Addr×Obj) hp⟩⟩
 have loop:∀s₃:Shared,(∃tk,s₃={s with heap:=h₁,toks:=tk})->
   codeAny (model X.prog X.w) X.A (.compLoop (.ListComp elt [⟨tg,iter,ifs,0⟩] scope pos) 0 (.ref it) (.ref D) (compEnvC scope cl' C X.env)) (RR (.ref D) C) s₃:=by
  rintro s₃ ⟨tk,rfl⟩
  exact Kq (Y:=X') rfl T hG hg ht he aY (λj v e=>(VO e).1) turn (λys its k H3 s4 I4 rv hz q=>hRR _ C ys H3 s4 (DV I hf (Nat.le_of_eq hD) hDlt I4 I4.os I4.base I4.hok rfl rv hz) q)
   (.mk 0 H [] [] 0 ⟨I1 tk,hst₁,λb hb=>(hf b hb).1,hacc,I.hok.fresh (by rw[hD];exact Nat.le_refl _)⟩ .nil w0)
 exact codeAny_compStart_list (loop _ ⟨_,rfl⟩) (T.self _ 0 _ _ _ hst₁ (loop _ ⟨_,rfl⟩))
theorem IG (sc:Scope)(N0:List Str)(tns:List Str)(caps:List (Nat×Str))(hc:X.calm=true)(hi:PI X tg iter wi)(hG:Vx tns.length g)
  (hb:∀cl C s H ex E,PG (X.compN (tns++caps.map (·.2)) scope cl C s H ex E) tg g/\PTs (X.compN (tns++caps.map (·.2)) scope cl C s H ex E) ifs tt/\PE (X.compN (tns++caps.map (·.2)) scope cl C s H ex E) elt te)
  (hsc:X.env.scope=sc:=by rfl)(hN0:X.N=N0:=by rfl)(ok:UE sc scope N0 tns caps=true:=by decide+kernel)
  (hs:∀x,foldedSetIterable iter X.env x=pure x:=by intro _;rfl):
  PE X (.ListComp elt [⟨tg,iter,ifs,0⟩] scope pos) (F8 tns.length caps wi g tt te):=by
 intro pins s σ H Q I h
 have ok':=ok
 unfold UE at ok'
 simp only[Bool.and_eq_true,List.all_eq_true] at ok'
 obtain⟨⟨⟨⟨ok1,ok2⟩,ok3⟩,ok4⟩,ok5⟩:=ok'
 obtain⟨cl,ecl,hsub,hall⟩:=FM (scope:=scope) (env:=X.env) λx hx hfr=>by
  have:=ok4 x hx
  rw[hfr] at this
  have z:sc.names.lookup x.1=some .cell∨sc.names.lookup x.1=some .free:=by simpa using this
  exact I.ok.has x.1 (by show X.env.scope.names.lookup x.1=_∨X.env.scope.names.lookup x.1=_;rw[hsc];exact z)
 rw[eval_ListComp]
 refine wpAny_comprehension_free (use:=none) rfl hs ecl (by simpa using ok1) (λx hx hl=>by have:=ok3 x hx;rw[hl] at this;simpa using this) (thn (hi pins s σ H _ I h) λxv s₁ h₁=>thn h₁ λitv s₂ h₂=>?_)
 obtain⟨it,fp,tn,J,H',rfl,I2,T,st2,f2,W,⟨m0,w0⟩,turn⟩:=h₂
 refine Dk (RR:=λacc C=>compPost (model X.prog X.w) X.A X.xe none (EP X pins σ Q) acc C) hc hsc hN0 ok rfl hG hb I2 T st2 f2 hsub hall W w0 turn ?_
 intro D C ys H3 s' ce q
 obtain⟨mm,hns⟩:=ce.ns
 refine⟨mm,hns,λh' hs'=>⟨.ref D,_,?_,rfl,q⟩⟩
 obtain⟨c0,c1,c2,c3,c4,c5⟩:=ce.fp
 exact ce.inv.turned (t':=s'.toks) (λb o hb' e=>(hs'.extBut b o hb' e)) c0 c1 c3 c4 c5
end
theorem UJ:∀(xs:List V) (us:List Value),xs.length=us.length->(∀(j:Nat) x u,xs[j]?=some x->us[j]?=some u->XW x u)->XZ xs us
 | [],[],_,_=>.nil
 | [],_::_,h,_=>by simp at h
 |_::_,[],h,_=>by simp at h
 |x::xs,u::us,h,r=>.cons (r 0 x u rfl rfl) (UJ xs us (by simpa using h) λj y v e1 e2=>r (j+1) y v (by simpa using e1) (by simpa using e2))
noncomputable def Cm (ta:TA):TE:=λσ H Q=>ta σ H λvs H1=>∃ j:Int,vs=[.int j]/\0<=j/\j<=1000/\∀p,H1 p=none->Q (.ref p) (upd H1 p (.lst ((List.range j.toNat).map λi=>V.int ((i:Nat):Int))))
variable {X:Cx}
theorem Go {e:Expr}{ta:TA}{p q q2 pos:Pos}(hc:X.calm=true)(hg:Gl X "list")(hg2:Gl X "range")(hm:X.mg "list" =none)(hm2:X.mg "range" =none)(ha:PA X [e] ta)
  (hs:starEach [.Call (.Name "range" q) [e] [] q2] X.env=[(false,eval (.Call (.Name "range" q) [e] [] q2) X.env)]:=by rfl)(hs2:starEach [e] X.env=[(false,eval e X.env)]:=by rfl):
  PE X (.Call (.Name "list" p) [.Call (.Name "range" q) [e] [] q2] [] pos) (Cm ta):=by
 intro pins s σ H Q I h
 refine wpAny_Call_Name_kw (Uk I hg hm PyProof.Rows.boot_list ?_)
 refine PyProof.Rows.callWith_type1 ?_ hs rfl
 rw[hs]
 show wpAny _ _ (spliced ((false,eval (.Call (.Name "range" q) [e] [] q2) X.env)::backTo pos [])) _ _ s
 refine Calls.spliced_cons ?_
 refine wpAny_Call_Name_kw (Uk I hg2 hm2 boot_range ?_)
 refine PyProof.Rows.callWith_type1 (thn (ha q2 pins s σ H _ I h) λus s1 r9=>?_) hs2 rfl
 obtain⟨vs,H1,I1,r1,q1⟩:=r9
 obtain⟨j,e,h0,h1,k⟩:=q1
 subst e
 cases r1 with
 |cons r rr=>
  cases rr
  obtain⟨t,rfl⟩:=r
  refine call_range_1 ?_
  refine Calls.spliced_nil ?_
  refine call_list_range (n:=j.toNat) (I.ok.hd hc) (IsRange.new ..) (small_one (by omega) (by omega) (by omega) (by omega)) (by rw[rangeSize_one];split<;> omega) (by omega) λh' tk acc' c' hk hS hacc=>?_
  refine⟨.ref _,_,I1.laid (h':=h') (t':=tk) (o:=.lst ((List.range j.toNat).map λi=>V.int ((i:Nat):Int))) (λb o e=>hk b o (Heap.get?_push_of_some _ e)) (by rw[Heap.size_push];exact Nat.le_succ _) ?_,rfl,k _ (I1.hok.fresh (by rw[Heap.size_push];exact Nat.le_succ _))⟩
  refine⟨by rw[List.length_map,List.length_range];exact Nat.le_of_lt (BN (by omega)),acc'.toList,c',UJ _ _ (by simp[hacc.1]) λi x u e1 e2=>?_,hS⟩
  have e2':acc'[i]?=some u:=by simpa using e2
  obtain⟨tk,rfl⟩:=hacc.2 i u e2'
  rw[List.getElem?_map] at e1
  cases e3:(List.range j.toNat)[i]? with
  |none=>rw[e3] at e1;cases e1
  |some z=>
   rw[e3] at e1
   have hz:z=i:=by
    have hi:i<j.toNat:=by have:=(List.getElem?_eq_some_iff.mp e3).1;simpa using this
    rw[List.getElem?_range hi] at e3
    exact(Option.some.inj e3).symm
   subst hz
   have:x=V.int (z:Int):=(Option.some.inj e1).symm
   subst this
   exact⟨tk,by simp⟩
theorem XX {l:List Expr}{p:Pos}{es:List Expr}{env:Env}:starEach (.List l p::es) env=(false,eval (.List l p) env)::starEach es env:=rfl
variable {X:Cx}{o e:Expr}{es:List Expr}{to:TE}{t:TA}{name:Str}{apos cpos:Pos}{T id:String}{r:V->List V->Hp->VK->Prop}
end L2
namespace PySem
open PySem.Spec
namespace SeqAt
open MeetsSeq
end SeqAt
end PySem
namespace L2
open PySem PySem.Spec PyProof.Rows
section
variable {X:Cx}
end
noncomputable def Si (K:PySem.W.Frag):List V->Hp->VK->Prop:=λxs H Q=>∃ (a:Addr) (bs:List Bool),xs=[.ref a]/\SqL K H a (bs.map V.bl)/\Q (.bl (bs.all id)) H
section
variable {X:Cx}
theorem OQ:∀(bs:List Bool),((List.range bs.length).all λi=>(bs[i]?).getD true)=bs.all id:=λbs=>by
 rw[Bool.eq_iff_iff,List.all_eq_true,List.all_eq_true]
 constructor
 ·intro h b hb
  obtain⟨i,hi,rfl⟩:=List.getElem_of_mem hb
  have:=h i (List.mem_range.mpr hi)
  simpa[List.getElem?_eq_getElem hi] using this
 ·intro h i hi
  have hi':=List.mem_range.mp hi
  simpa[List.getElem?_eq_getElem hi'] using h _ (List.getElem_mem hi')
theorem En (hc:X.calm=true):Zc X (.builtin "all") (Si X.K):=by
 intro pins s σ H xs us Q I r h
 obtain⟨a,bs,rfl,hq,q⟩:=h
 obtain⟨u,rfl,ru⟩:=Jk r
 cases ru
 obtain⟨its,rv,pl,hz⟩:=I.list hq
 have hlen:bs.length=its.length:=by have:=rv.length;rwa [List.length_map] at this
 have hlt:a<s.heap.objs.size:=by obtain⟨o,n,ho,_⟩:=pl;exact Heap.lt_size ho
 refine call_all_walk (wpAny_pyIter_list pl.isList ?_)
 refine⟨s.heap.objs.size,[s.heap.objs.size,a],[s.heap.objs.size],its.toArray.size,_,_,λi=>(bs[i]?).getD true,rfl,Walks.list (A:=X.A.in1) (I.ok.hd hc) _ a (Nat.ne_of_lt hlt) its.toArray,
  ⟨⟨_,Heap.get?_push_size _ rfl,rfl,rfl⟩,pl.isList.at λo e=>Heap.get?_push_of_some _ e⟩,λi v s' Q' E' hP hQ=>?_,λh' tk hk=>?_⟩
 ·have hv':its[i]?=some v:=by simpa using hP
  obtain⟨x,ex,rx⟩:=FR rv hv'
  rw[List.getElem?_map] at ex
  cases e:bs[i]? with
  |none=>rw[e] at ex;cases ex
  |some z=>
   rw[e] at ex
   have ex':V.bl z=x:=Option.some.inj ex
   subst ex'
   cases rx
   simp only[e,Option.getD_some] at hQ
   exact wpAny_truthy_bool hQ
 ·have e:((List.range its.toArray.size).all λi=>(bs[i]?).getD true)=bs.all id:=by
   rw[List.size_toArray, ←hlen];exact OQ bs
  rw[e]
  have I2:Inv X pins σ H {s with heap:=h',toks:=tk}:=I.kept (t':=tk) λb o e=>hk b o (λhm=>by
   rw[List.mem_singleton.mp hm] at e
   exact absurd (Heap.lt_size e) (Nat.lt_irrefl _)) (Heap.get?_push_of_some _ e)
  exact⟨.bl (bs.all id),H,I2,rfl,q⟩
noncomputable def NR (i j k:Nat)(ta:TA):TS:=λD σ H=>ta σ H λvs H1=>∃ v w z,vs=[v,w,z]/\D.nx (((σ.set i (some v)).set j (some w)).set k (some z)) H1
theorem Hu {i j k:Nat}{x y z:Str}{a b c:Expr}{ta:TA}{px py pz pt pos:Pos}{kt k2 pt2}(hc:X.calm=true)(hN:X.N.Nodup)(hi:X.N[i]?=some x)(hj:X.N[j]?=some y)(hk:X.N[k]?=some z)(hij:i≠j)(hik:i≠k)(hjk:j≠k)
  (hx:X.env.scope.names.lookup x=some .local)(hy:X.env.scope.names.lookup y=some .local)(hz:X.env.scope.names.lookup z=some .local)(ha:PA X [a,b,c] ta)
  (hw:swappedStores [.Tuple [.Name x px, .Name y py, .Name z pz] kt pt] (.Tuple [a,b,c] k2 pt2) X.env=pure (some [x,y,z]))
  (hs:swapsWithSole [.Tuple [.Name x px, .Name y py, .Name z pz] kt pt] (.Tuple [a,b,c] k2 pt2) pos.line X.env=pure false:=by rfl):
  PS X (.Assign [.Tuple [.Name x px, .Name y py, .Name z pz] kt pt] (.Tuple [a,b,c] k2 pt2) pos) (NR i j k ta):=by
 intro pins s σ H D I h
 rw[exec_Assign_arm]
 refine wpAny_bind (wpAny_standAt ?_)
 rw[hs]
 refine wpAny_bind (wpAny_pure ?_)
 rw[if_neg (by decide)]
 refine wpAny_bind (Tuple_ (thn (ha _ pins s σ H _ I h) λus s1 r9=>?_))
 obtain⟨vs,H1,I1,r1,q1⟩:=r9
 obtain⟨v,w,t,e1,q1⟩:=q1
 subst e1
 obtain⟨u1,u2,u3,rfl,rv,rw',rt⟩:∃u1 u2 u3,us=[u1,u2,u3]/\XW v u1/\XW w u2/\XW t u3:=by
  cases r1 with
  |cons p q=>
   cases q with
   |cons p' q'=>
    cases q' with
    |cons p'' q''=>
     cases q''
     exact⟨_,_,_,rfl,p,p',p''⟩
 refine wpAny_newObj_type ?_ (by show 3<=sizeLine;decide)
 have I2:Inv X pins σ H1 {s1 with heap:=s1.heap.push {cls:=.type "tuple",data:=.seq [u1,u2,u3].toArray}}:=I1.kept (t':=s1.toks) λb o e=>Heap.get?_push_of_some _ e
 rw[hw]
 refine wpAny_bind (wpAny_pure ?_)
 show wpAny (model X.prog X.w) X.A (do rule "assign.swapped-stores";let items ←unpackItems (.ref s1.heap.objs.size) 3 none;assignInOrder [λv=>bindName X.env z v,λv=>bindName X.env y v,λv=>bindName X.env x v] items.reverse;pure Flow.next) _ _ _
 refine wpAny_bind (wpAny_rule (wpAny_bind (unpackItems_tuple (items:=#[u1,u2,u3]) (I.ok.hd hc) (IsTup.new s1.heap _) λh' hx'=>?_)))
 have I3:=I2.kept (h':=h') (t':=s1.toks) λb o e=>hx' b o (Nat.ne_of_lt (Heap.lt_size e)) e
 show wpAny _ _ (assignInOrder [λv=>bindName X.env z v,λv=>bindName X.env y v,λv=>bindName X.env x v] [u3,u2,u1] >>= λ_=>pure Flow.next) _ _ _
 refine wpAny_bind (assignInOrder_cons (wpAny_bindName (Z2 I3 hN hk (.inl hz) rt (λs2 I4=>?_) (.inr hz))))
 refine assignInOrder_cons (wpAny_bindName (Z2 I4 hN hj (.inl hy) rw' (λs3 I5=>?_) (.inr hy)))
 refine assignInOrder_cons (wpAny_bindName (Z2 I5 hN hi (.inl hx) rv (λs4 I6=>assignInOrder_nil (wpAny_pure ?_)) (.inr hx)))
 have e:(((σ.set k (some t)).set j (some w)).set i (some v))=(((σ.set i (some v)).set j (some w)).set k (some t)):=by
  rw[List.set_comm _ _ hjk.symm,List.set_comm _ _ hik.symm,List.set_comm _ _ hij.symm]
 rw[e] at I6
 exact⟨_,H1,I6,q1⟩
end
section
variable {X:Cx}{α:Type}[DecidableEq α]{r:Enc α}{d:Nat}
end
section
variable {X:Cx}
end
section
variable {X:Cx}
theorem JY (K:PySem.W.Frag)(h:X.K=K):OpR X (compareOp .In) (rIn K false):=by subst h;exact Uc
theorem Jp (K:PySem.W.Frag)(h:X.K=K):OpR X (compareOp .NotIn) (rIn K true):=by subst h;exact Qp
variable {T:String}{name:Str}{id:String}{r:V->List V->Hp->VK->Prop}{o e:Expr}{es:List Expr}{to:TE}{t:TA}{apos cpos:Pos}
end
section
variable {X:Cx}{elt tg iter:Expr}{ifs:List Expr}{scope:Scope}{pos:Pos}{wi:TI}{g:TG}{tt:TT}{te:TE}
theorem IN {sc:Scope}{N0:List Str}{tns:List Str}{caps:List (Nat×Str)}(hc:X.calm=true)(hi:PI X tg iter wi)(hG:Vx tns.length g)
  (hb:∀cl C s H ex E,PG (X.compN (tns++caps.map (·.2)) scope cl C s H ex E) tg g/\PTs (X.compN (tns++caps.map (·.2)) scope cl C s H ex E) ifs tt/\PE (X.compN (tns++caps.map (·.2)) scope cl C s H ex E) elt te)
  (hsc:X.env.scope=sc:=by rfl)(hN0:X.N=N0:=by rfl)(ok:UE sc scope N0 tns caps=true:=by decide+kernel)
  (hs:∀x,foldedSetIterable iter X.env x=pure x:=by intro _;rfl):
  PE X (.ListComp elt [⟨tg,iter,ifs,0⟩] scope pos) (F8 tns.length caps wi g tt te):=IG sc N0 tns caps hc hi hG hb hsc hN0 ok hs
theorem Zn {sc:Scope}{N0:List Str}{tns:List Str}{caps:List (Nat×Str)}(hc:X.calm=true)(hi:PI X tg iter wi)(hG:Vx tns.length g)
  (hb:∀cl C s H ex E,PG (X.comp (tns++caps.map (·.2)) scope cl C s H ex E) tg g/\PTs (X.comp (tns++caps.map (·.2)) scope cl C s H ex E) ifs tt/\PE (X.comp (tns++caps.map (·.2)) scope cl C s H ex E) elt te)
  (hsc:X.env.scope=sc:=by rfl)(hN0:X.N=N0:=by rfl)(ok:GD sc scope N0 tns caps=true:=by decide+kernel)
  (hs:∀x,foldedSetIterable iter X.env x=pure x:=by intro _;rfl):
  PE X (.ListComp elt [⟨tg,iter,ifs,0⟩] scope pos) (F8 tns.length caps wi g tt te):=M5 sc N0 tns caps hc hi hG hb hsc hN0 ok hs
end
section
variable {X:Cx}{tg l:Expr}{tl:TE}{p pos:Pos}{K:PySem.W.Frag}
theorem XD (h:X.K=K)(hl:PE X l tl):PI X tg l (Gz K tl):=by subst h;exact N3 hl
theorem NE (h:X.K=K)(hl:PE X l tl):PI X tg l (PU K tl):=by subst h;exact Ol hl
end
noncomputable def Iq:List Int->Int
 | []=>0
 |a::r=>r.foldl max a
noncomputable def HX:List Int->Int
 | []=>0
 |a::r=>r.foldl min a
theorem D0 (ns:List Int):∀k,k<ns.length->ns.getD (argBest (λi j=>decide (ns.getD i 0 > ns.getD j 0)) k) 0=Iq (ns.take (k+1))
 |0,h=>by
  cases ns with
  |nil=>simp at h
  |cons a r=>simp[argBest,Iq]
 |k+1,h=>by
  have ih:=D0 ns k (by omega)
  have e:Iq (ns.take (k+1+1))=max (Iq (ns.take (k+1))) (ns.getD (k+1) 0):=by
   rw[List.take_succ_eq_append_getElem h]
   cases ns with
   |nil=>simp at h
   |cons a r=>
    rw[List.take_succ_cons]
    simp only[Iq,List.cons_append,List.foldl_append,List.foldl_cons,List.foldl_nil]
    rw[List.getD_eq_getElem?_getD,List.getElem?_eq_getElem h]
    rfl
  rw[e, ←ih]
  show ns.getD (if(decide (ns.getD (k+1) 0 > ns.getD (argBest _ k) 0))=true then k+1 else argBest _ k) 0=_
  by_cases hc:ns.getD (k+1) 0 > ns.getD (argBest (λi j=>decide (ns.getD i 0 > ns.getD j 0)) k) 0
  ·rw[if_pos (by simpa using hc)];omega
  ·rw[if_neg (by simpa using hc)];omega
theorem DR (ns:List Int):∀k,k<ns.length->ns.getD (argBest (λi j=>decide (ns.getD i 0<ns.getD j 0)) k) 0=HX (ns.take (k+1))
 |0,h=>by
  cases ns with
  |nil=>simp at h
  |cons a r=>simp[argBest,HX]
 |k+1,h=>by
  have ih:=DR ns k (by omega)
  have e:HX (ns.take (k+1+1))=min (HX (ns.take (k+1))) (ns.getD (k+1) 0):=by
   rw[List.take_succ_eq_append_getElem h]
   cases ns with
   |nil=>simp at h
   |cons a r=>
    rw[List.take_succ_cons]
    simp only[HX,List.cons_append,List.foldl_append,List.foldl_cons,List.foldl_nil]
    rw[List.getD_eq_getElem?_getD,List.getElem?_eq_getElem h]
    rfl
  rw[e, ←ih]
  show ns.getD (if(decide (ns.getD (k+1) 0<ns.getD (argBest _ k) 0))=true then k+1 else argBest _ k) 0=_
  by_cases hc:ns.getD (k+1) 0<ns.getD (argBest (λi j=>decide (ns.getD i 0<ns.getD j 0)) k) 0
  ·rw[if_pos (by simpa using hc)];omega
  ·rw[if_neg (by simpa using hc)];omega
section
variable {X:Cx}
theorem KK {its:List Value}{ns:List Int}(rv:XZ (ns.map V.int) its):∀(i:Nat) (v:Value),its.toArray[i]?=some v->∃t,v=Value.int (ns.getD i 0) t:=λi v hv=>by
 have hv':its[i]?=some v:=by simpa using hv
 obtain⟨x,ex,rx⟩:=FR rv hv'
 rw[List.getElem?_map] at ex
 cases e:ns[i]? with
 |none=>rw[e] at ex;cases ex
 |some z=>
  rw[e] at ex
  have ex':V.int z=x:=Option.some.inj ex
  subst ex'
  obtain⟨t,rfl⟩:=rx
  exact⟨t,by simp[List.getD,e]⟩
noncomputable def IU (K:PySem.W.Frag)(f:List Int->Int):List V->Hp->VK->Prop:=λxs H Q=>∃ (a:Addr) (ns:List Int),xs=[.ref a]/\SqT K H a (ns.map V.int)/\0<ns.length/\Q (.int (f ns)) H
theorem Um (K:PySem.W.Frag)(hK:X.K=K)(hc:X.calm=true):Zc X (.builtin "max") (IU K Iq):=by
 subst hK
 intro pins s σ H xs us Q I r h
 obtain⟨a,ns,rfl,hq,hne,q⟩:=h
 obtain⟨u,rfl,ru⟩:=Jk r
 cases ru
 obtain⟨its,rv,pl,hz⟩:=I.tuple hq
 have hlen:its.length=ns.length:=by have:=rv.length;simpa using this.symm
 have hlt:a<s.heap.objs.size:=by obtain⟨o,ho,_⟩:=pl;exact Heap.lt_size ho
 refine call_max_walk (wpAny_pyIter_tuple pl ?_)
 refine⟨s.heap.objs.size,_,_,_,_,_,_,rfl,Walks.tuple (prog:=X.prog) (w:=X.w) (A:=X.A.in1) (I.ok.hd hc) s.heap.objs.size a (Nat.ne_of_lt hlt) its.toArray,⟨⟨_,Heap.get?_push_size _ rfl,rfl,rfl⟩,(show s.heap.IsTuple a its.toArray from pl).at λo e=>Heap.get?_push_of_some _ e⟩,λb hb=>?_,by rw[List.size_toArray,hlen];exact hne,CmpOf.ints_gt (λi=>ns.getD i 0) (KK rv),λv h' tk hP hk=>?_⟩
 ·rcases List.mem_cons.mp hb with e |hb
  ·rw[e,Heap.size_push];exact Nat.lt_succ_self _
  ·rw[List.mem_singleton.mp hb,Heap.size_push];exact Nat.lt_succ_of_lt hlt
 ·have I2:Inv X pins σ H {s with heap:=h',toks:=tk}:=I.kept (t':=tk) λb o e=>hk b o (λhm=>by
   rw[List.mem_singleton.mp hm] at e
   exact absurd (Heap.lt_size e) (Nat.lt_irrefl _)) (Heap.get?_push_of_some _ e)
  obtain⟨t,rfl⟩:=KK rv _ _ hP
  refine⟨.int (Iq ns),H,I2,⟨t,?_⟩,q⟩
  rw[List.size_toArray,hlen,D0 ns (ns.length-1) (by omega),show ns.length-1+1=ns.length by omega,List.take_length]
theorem YM (K:PySem.W.Frag)(h:X.K=K):SlR X (P7 K):=by subst h;exact Ot
end
inductive Pay where
 |non |int (i:Int) |tag (t:Str) (xs:List Int)
 deriving DecidableEq
structure Exc where
 cls:Str
 pay:Pay
inductive Rs (α:Type) where
 |bad |err (x:Exc) |ok (a:α)
noncomputable def Rs.bind {α β:Type}:Rs α->(α->Rs β)->Rs β
 | .bad,_=>.bad
 | .err x,_=>.err x
 | .ok a,f=>f a
theorem Rs.ok_bind {α β:Type}(a:α)(f:α->Rs β):(Rs.ok a).bind f=f a:=rfl
noncomputable def chk {α:Type}(c:Prop)[Decidable c](m:Rs α):Rs α:=if c then m else .bad
theorem Xp {α:Type}{c:Prop}[Decidable c]{m:Rs α}(h:c):chk c m=m:=if_pos h
noncomputable abbrev Xx:=Addr×HO
noncomputable def N7:HO->Bool
 | .lst _=>true
 | .dK _=>true
 | .dT _=>true
 |_=>false
noncomputable def fl (OO:List (List Xx)):List Addr:=OO.flatten.map (·.1)
open Classical in
noncomputable def hid (H:Hp)(OO:List (List Xx)):Hp:=λb=>if b∈fl OO then none else H b
structure W (OO:List (List Xx))(H:Hp):Prop where
 tr:∀c∈OO.flatten,H c.1=some c.2
 nd:(fl OO).Nodup
 mu:∀c∈OO.flatten,N7 c.2=true
theorem X2 {H:Hp}{OO}{b:Addr}{o:HO}(h:hid H OO b=some o):H b=some o/\b∉fl OO:=by
 unfold hid at h
 split at h
 ·cases h
 ·exact⟨h,by assumption⟩
theorem YO {H:Hp}{OO}{b:Addr}{o:HO}(h:H b=some o)(n:b∉fl OO):hid H OO b=some o:=by
 unfold hid;rw[if_neg n];exact h
theorem XB {H:Hp}{OO}:Xu (hid H OO) H:=λb o h=>(X2 h).1
theorem Xk {H H':Hp}{OO}(s:Xu H H'):Xu (hid H OO) (hid H' OO):=λb o h=>YO (s _ _ (X2 h).1) (X2 h).2
theorem Zx {H H':Hp}{OO OO'}(s:Xu H H')(h:∀b,b∈fl OO'->b∈fl OO):Xu (hid H OO) (hid H' OO'):=λb o q=>YO (s _ _ (X2 q).1) λz=>(X2 q).2 (h b z)
theorem XO {C:List Xx}{OO}:fl (C::OO)=C.map (·.1)++fl OO:=by simp[fl]
theorem BG {OO}:fl ([]::OO)=fl OO:=by simp[fl]
theorem Y5 {H:Hp}{OO}:hid H ([]::OO)=hid H OO:=by unfold hid;rw[BG]
theorem W.keep {OO}{H H':Hp}(w:W OO H)(s:Xu H H'):W OO H':=⟨λc hc=>s _ _ (w.tr c hc),w.nd,w.mu⟩
theorem W.of {OO OO':List (List Xx)}{H:Hp}(w:W OO H)(h:OO'.flatten.Perm OO.flatten):W OO' H:=
 ⟨λc hc=>w.tr c (h.mem_iff.mp hc),(h.map _).nodup_iff.mpr w.nd,λc hc=>w.mu c (h.mem_iff.mp hc)⟩
theorem W.sub {OO OO':List (List Xx)}{H:Hp}(w:W OO H)(h:OO'.flatten.Sublist OO.flatten):W OO' H:=
 ⟨λc hc=>w.tr c (h.mem hc),(h.map _).nodup w.nd,λc hc=>w.mu c (h.mem hc)⟩
theorem W.tail {C OO}{H:Hp}(w:W (C::OO) H):W OO H:=w.sub (by simp)
theorem W.nil {OO}{H:Hp}(w:W OO H):W ([]::OO) H:=w.of (by simp)
theorem W.cell {C OO}{H:Hp}(w:W (C::OO) H):∀c∈C,H c.1=some c.2:=λc hc=>w.tr c (by simp[hc])
theorem Vq {OO:List (List Xx)}{c:Xx}(h:c∈OO.flatten):c.1∈fl OO:=List.mem_map.mpr ⟨c,h,rfl⟩
theorem Bn {OO:List (List Xx)}{b:Addr}(h:b∈fl OO):∃o,(b,o)∈OO.flatten:=by
 obtain⟨⟨a,o⟩,hc,rfl⟩:=List.mem_map.mp h
 exact⟨o,hc⟩
theorem W.fresh {OO}{H:Hp}(w:W OO H){p:Addr}(h:H p=none):p∉fl OO:=λz=>by
 obtain⟨o,ho⟩:=Bn z
 have:=w.tr _ ho
 rw[h] at this;cases this
theorem W.new {OO}{H:Hp}(w:W OO H){p:Addr}(h:H p=none){o:HO}(m:N7 o=true):W ([(p,o)]::OO) (upd H p o):=by
 have hf:=w.fresh h
 refine⟨λc hc=>?_,?_,λc hc=>?_⟩
 ·simp only[List.flatten_cons,List.cons_append,List.nil_append,List.mem_cons] at hc
  rcases hc with rfl |hc
  ·exact X9
  ·rw[XT (λe=>hf (by rw[←e];exact Vq hc))];exact w.tr c hc
 ·rw[XO];simpa using ⟨hf,w.nd⟩
 ·simp only[List.flatten_cons,List.cons_append,List.nil_append,List.mem_cons] at hc
  rcases hc with rfl |hc
  ·exact m
  ·exact w.mu c hc
theorem JX {OO}{H:Hp}{p:Addr}(h:H p=none){o:HO}:Xu (hid H OO) (hid (upd H p o) ([(p,o)]::OO)):=λb u q=>by
 obtain⟨q1,q2⟩:=X2 q
 have hb:b≠p:=Yg q1 h
 refine YO (by rw[XT hb];exact q1) ?_
 rw[XO];simpa using ⟨hb,q2⟩
theorem VD {OO}{H:Hp}(w:W OO H){p:Addr}(h:H p=none){o:HO}:hid (upd H p o) OO p=some o:=YO X9 (w.fresh h)
class MonoE {α:Type}(r:Enc α):Prop where
 mono:∀{K:PySem.W.Frag}{H H':Hp}{v:V}{a:α},Xu H H'->r K H v a->r K H' v a
noncomputable def R4:HO->Bool
 | .tup _=>true
 | .frz _ _=>true
 |_=>false
noncomputable def JR (H H':Hp):Prop:=∀ b o,H b=some o->R4 o=true->H' b=some o
theorem Xu.i {H H':Hp}(s:Xu H H'):JR H H':=λb o h _=>s b o h
theorem W.i {OO}{H:Hp}(w:W OO H):JR H (hid H OO):=λb o h i=>YO h λz=>by
 obtain⟨u,hu⟩:=Bn z
 have h1:=w.tr _ hu
 have h2:=w.mu _ hu
 rw[h] at h1
 have e:o=u:=Option.some.inj h1
 subst e
 revert i h2;cases o<;> simp[R4,N7]
theorem JR.trans {H H1 H2:Hp}(a:JR H H1)(b:JR H1 H2):JR H H2:=λc o h i=>b c o (a c o h i) i
class FlatE {α:Type}(r:Enc α):Prop where
 flat:∀{K:PySem.W.Frag}{H H':Hp}{v:V}{a:α},JR H H'->r K H v a->r K H' v a
instance {α:Type}{r:Enc α}[f:FlatE r]:MonoE r:=⟨λs h=>f.flat s.i h⟩
theorem JR.seqT {K:PySem.W.Frag}{H H':Hp}{a:Addr}{xs:List V}(e:JR H H')(h:SqT K H a xs):SqT K H' a xs:=by
 rcases h with(h | ⟨o,h⟩) |h
 ·exact .inl (.inl (e _ _ h rfl))
 ·exact .inl (.inr ⟨o,e _ _ h rfl⟩)
 ·exact .inr h
noncomputable def Xy:Enc Bool:=λ_ _ v b=>v= .bl b
noncomputable def UZ:Enc Str:=λ_ _ v x=>v= .str x
noncomputable def Bp {α:Type}(r:Enc α):Enc (Option α):=λK H v a=>match a with
 |none=>v= .non
 |some a=>v≠ .non/\r K H v a
noncomputable def rV {α:Type}(r:Enc α):Enc (List α):=λK H v as=>∃ a xs,v= .ref a/\H a=some (.lst xs)/\Paired (r K H) xs as
noncomputable def rPL {α:Type}(r:Enc α):Enc (List α):=λK H v as=>∃ a xs,v= .ref a/\H a=some (.tup xs)/\Paired (r K H) xs as
noncomputable def rP2 {α β:Type}(r:Enc α)(q:Enc β):Enc (α×β):=λK H v p=>∃ a x y,v= .ref a/\H a=some (.tup [x,y])/\r K H x p.1/\q K H y p.2
noncomputable def rP3 {α β γ:Type}(r:Enc α)(q:Enc β)(t:Enc γ):Enc (α×β×γ):=λK H v p=>∃ a x y z,v= .ref a/\H a=some (.tup [x,y,z])/\r K H x p.1/\q K H y p.2.1/\t K H z p.2.2
instance {α:Type}{r:Enc α}[m:MonoE r]:MonoE (rV r):=⟨λs r9=>by obtain⟨a,xs,e,q,p⟩:=r9;exact⟨a,xs,e,s _ _ q,Paired.imp2 (λ_ _ z=>m.mono s z) p⟩⟩
instance {α:Type}{r:Enc α}[m:MonoE r]:MonoE (rPL r):=⟨λs r9=>by obtain⟨a,xs,e,q,p⟩:=r9;exact⟨a,xs,e,s _ _ q,Paired.imp2 (λ_ _ z=>m.mono s z) p⟩⟩
instance {α:Type}{r:Enc α}[m:FlatE r]:FlatE (rPL r):=⟨λs r9=>by obtain⟨a,xs,e,q,p⟩:=r9;exact⟨a,xs,e,s _ _ q rfl,Paired.imp2 (λ_ _ z=>m.flat s z) p⟩⟩
instance {α β:Type}{r:Enc α}{q:Enc β}[m:MonoE r][n:MonoE q]:MonoE (rP2 r q):=⟨λs r9=>by obtain⟨a,x,y,e,h,p1,p2⟩:=r9;exact⟨a,x,y,e,s _ _ h,m.mono s p1,n.mono s p2⟩⟩
instance {α β:Type}{r:Enc α}{q:Enc β}[m:FlatE r][n:FlatE q]:FlatE (rP2 r q):=⟨λs r9=>by obtain⟨a,x,y,e,h,p1,p2⟩:=r9;exact⟨a,x,y,e,s _ _ h rfl,m.flat s p1,n.flat s p2⟩⟩
instance {α β γ:Type}{r:Enc α}{q:Enc β}{t:Enc γ}[m:MonoE r][n:MonoE q][k:MonoE t]:MonoE (rP3 r q t):=⟨λs r9=>by obtain⟨a,x,y,z,e,h,p1,p2,p3⟩:=r9;exact⟨a,x,y,z,e,s _ _ h,m.mono s p1,n.mono s p2,k.mono s p3⟩⟩
instance {α β γ:Type}{r:Enc α}{q:Enc β}{t:Enc γ}[m:FlatE r][n:FlatE q][k:FlatE t]:FlatE (rP3 r q t):=⟨λs r9=>by obtain⟨a,x,y,z,e,h,p1,p2,p3⟩:=r9;exact⟨a,x,y,z,e,s _ _ h rfl,m.flat s p1,n.flat s p2,k.flat s p3⟩⟩
instance:FlatE Xe:=⟨λ_ h=>h⟩
instance:FlatE Xy:=⟨λ_ h=>h⟩
instance:FlatE UZ:=⟨λ_ h=>h⟩
instance {α:Type}{r:Enc α}[m:MonoE r]:MonoE (rL r):=⟨λs r9=>by obtain⟨a,xs,e,q,p⟩:=r9;exact⟨a,xs,e,s.seq q,Paired.imp2 (λ_ _ z=>m.mono s z) p⟩⟩
instance {α:Type}{r:Enc α}[m:MonoE r]:MonoE (Bp r):=⟨fun {K H H' v a} s h=>by cases a with
 |none=>exact h
 |some a=>exact⟨h.1,m.mono s h.2⟩⟩
instance {α:Type}{r:Enc α}[m:FlatE r]:FlatE (Bp r):=⟨fun {K H H' v a} s h=>by cases a with
 |none=>exact h
 |some a=>exact⟨h.1,m.flat s h.2⟩⟩
noncomputable abbrev OE (α:Type):=PySem.W.Frag->Hp->V->α->List Xx->Prop
inductive P3 {α β γ:Type}(F:α->β->γ->Prop):List α->List β->List γ->Prop where
 |nil:P3 F [] [] []
 |cons {a b c l m n}:F a b c->P3 F l m n->P3 F (a::l) (b::m) (c::n)
noncomputable def oF {α:Type}(r:Enc α):OE α:=λK h v a C=>C=[]/\r K h v a
noncomputable def oL {α:Type}(o:OE α):OE (List α):=λK h v as C=>∃ p xs Cs,v= .ref p/\P3 (o K h) xs as Cs/\C=(p, .lst xs)::Cs.flatten
noncomputable def oT2 {α β:Type}(o:OE α)(q:OE β):OE (α×β):=λK h v a C=>∃ p x y C1 C2,v= .ref p/\h p=some (.tup [x,y])/\o K h x a.1 C1/\q K h y a.2 C2/\C=C1++C2
noncomputable def Rh {α:Type}(o:OE α):OE (Option α):=λK h v a C=>match a with
 |none=>v= .non/\C=[]
 |some a=>v≠ .non/\o K h v a C
section
variable {α β γ δ:Type}
theorem P3.imp {F G:α->β->γ->Prop}(h:∀a b c,F a b c->G a b c):∀{l m n},P3 F l m n->P3 G l m n:=λp=>by
 induction p with
 |nil=>exact .nil
 |cons r _ ih=>exact .cons (h _ _ _ r) ih
theorem P3.app {F:α->β->γ->Prop}:∀{l m n l' m' n'},P3 F l m n->P3 F l' m' n'->P3 F (l++l') (m++m') (n++n'):=λp h=>by
 induction p with
 |nil=>exact h
 |cons r _ ih=>exact .cons r ih
theorem P3.snoc {F:α->β->γ->Prop}{l m n a b c}(h:P3 F l m n)(r:F a b c):P3 F (l++[a]) (m++[b]) (n++[c]):=h.app (.cons r .nil)
theorem P3.len {F:α->β->γ->Prop}:∀{l m n},P3 F l m n->l.length=m.length/\n.length=m.length:=λp=>by
 induction p with
 |nil=>exact⟨rfl,rfl⟩
 |cons _ _ ih=>exact⟨congrArg Nat.succ ih.1,congrArg Nat.succ ih.2⟩
theorem P3.pair {F:α->β->γ->Prop}{G:α->β->Prop}:∀{l m n},P3 F l m n->(∀a b c,c∈n->F a b c->G a b)->Paired G l m:=λp h=>by
 induction p with
 |nil=>exact .nil
 |cons r _ ih=>exact .cons (h _ _ _ List.mem_cons_self r) (ih λa b c hc=>h a b c (List.mem_cons_of_mem _ hc))
theorem P3.get {F:α->β->γ->Prop}:∀{l m n}{i:Nat}{b:β},P3 F l m n->m[i]?=some b->∃a c,l[i]?=some a/\n[i]?=some c/\F a b c
 |_,_,_,_,_, .nil,e=>by simp at e
 |_,_,_,0,_, .cons r _,e=>by simp at e;subst e;exact⟨_,_,rfl,rfl,r⟩
 |_,_,_,i+1,b, .cons _ t,e=>by
  obtain⟨a,c,h1,h2,h3⟩:=P3.get (i:=i) (b:=b) t (by simpa using e)
  exact⟨a,c,by simpa using h1,by simpa using h2,h3⟩
theorem P3.set {F:α->β->γ->Prop}{a:α}{b:β}{c:γ}(r:F a b c):∀{l m n} (i:Nat),P3 F l m n->P3 F (l.set i a) (m.set i b) (n.set i c)
 |_,_,_,_, .nil=>.nil
 |_,_,_,0, .cons _ t=>.cons r t
 |_,_,_,i+1, .cons q t=>.cons q (P3.set r i t)
theorem P3.flat {F:α->β->Prop}:∀{l:List α}{m:List β}{n:List (List Xx)},P3 (λa b c=>c=[]/\F a b) l m n->Paired F l m/\n.flatten=[]:=λp=>by
 induction p with
 |nil=>exact⟨.nil,rfl⟩
 |cons r _ ih=>exact⟨.cons r.2 ih.1,by rw[List.flatten_cons,r.1,ih.2];rfl⟩
theorem P3.of {F:α->β->Prop}:∀{l:List α}{m:List β},Paired F l m->P3 (λa b (c:List Xx)=>c=[]/\F a b) l m (List.replicate m.length [])
 |_,_, .nil=>.nil
 |_,_, .cons r t=>.cons ⟨rfl,r⟩ (P3.of t)
theorem Yd:∀n:Nat,(List.replicate n ([]:List Xx)).flatten=[]
 |0=>rfl
 |n+1=>by simp[List.replicate_succ,Yd n]
end
class MonoO {α:Type}(o:OE α):Prop where
 mono:∀{K:PySem.W.Frag}{H H':Hp}{v:V}{a:α}{C:List Xx},Xu H H'->o K H v a C->o K H' v a C
class FlatO {α:Type}(o:OE α):Prop where
 flat:∀{K:PySem.W.Frag}{H H':Hp}{v:V}{a:α}{C:List Xx},JR H H'->o K H v a C->o K H' v a C
class FrzC {α:Type}(o:OE α)(r:outParam (Enc α)):Prop where
 frz:∀{K:PySem.W.Frag}{H H':Hp}{v:V}{a:α}{C:List Xx},o K H v a C->Xu H H'->(∀c∈C,H' c.1=some c.2)->r K H' v a
instance {α:Type}{r:Enc α}[m:MonoE r]:MonoO (oF r):=⟨λs h=>⟨h.1,m.mono s h.2⟩⟩
instance {α:Type}{r:Enc α}[m:FlatE r]:FlatO (oF r):=⟨λs h=>⟨h.1,m.flat s h.2⟩⟩
instance {α:Type}{r:Enc α}[m:MonoE r]:FrzC (oF r) r:=⟨λh s _=>m.mono s h.2⟩
instance {α:Type}{o:OE α}[m:MonoO o]:MonoO (oL o):=⟨λs r9=>by obtain⟨p,xs,Cs,e,q,c⟩:=r9;exact⟨p,xs,Cs,e,q.imp λ_ _ _ z=>m.mono s z,c⟩⟩
instance {α:Type}{o:OE α}[m:FlatO o]:FlatO (oL o):=⟨λs r9=>by obtain⟨p,xs,Cs,e,q,c⟩:=r9;exact⟨p,xs,Cs,e,q.imp λ_ _ _ z=>m.flat s z,c⟩⟩
instance {α:Type}{o:OE α}{r:Enc α}[m:FrzC o r]:FrzC (oL o) (rV r):=⟨λ⟨p,xs,Cs,e,q,c⟩ s hc=>by
 subst c
 exact⟨p,xs,e,hc _ List.mem_cons_self,q.pair λa b c hm z=>m.frz z s λx hx=>hc x (List.mem_cons_of_mem _ (List.mem_flatten.mpr ⟨c,hm,hx⟩))⟩⟩
instance {α β:Type}{o:OE α}{q:OE β}[m:MonoO o][n:MonoO q]:MonoO (oT2 o q):=⟨λs r9=>by obtain⟨p,x,y,C1,C2,e,h,h1,h2,c⟩:=r9;exact⟨p,x,y,C1,C2,e,s _ _ h,m.mono s h1,n.mono s h2,c⟩⟩
instance {α β:Type}{o:OE α}{q:OE β}[m:FlatO o][n:FlatO q]:FlatO (oT2 o q):=⟨λs r9=>by obtain⟨p,x,y,C1,C2,e,h,h1,h2,c⟩:=r9;exact⟨p,x,y,C1,C2,e,s _ _ h rfl,m.flat s h1,n.flat s h2,c⟩⟩
instance {α β:Type}{o:OE α}{q:OE β}{r:Enc α}{t:Enc β}[m:FrzC o r][n:FrzC q t]:FrzC (oT2 o q) (rP2 r t):=⟨λ⟨p,x,y,C1,C2,e,h,h1,h2,c⟩ s hc=>by
 subst c
 exact⟨p,x,y,e,s _ _ h,m.frz h1 s λc hm=>hc c (by simp[hm]),n.frz h2 s λc hm=>hc c (by simp[hm])⟩⟩
instance {α:Type}{o:OE α}[m:MonoO o]:MonoO (Rh o):=⟨fun {K H H' v a C} s h=>by cases a with
 |none=>exact h
 |some a=>exact⟨h.1,m.mono s h.2⟩⟩
instance {α:Type}{o:OE α}[m:FlatO o]:FlatO (Rh o):=⟨fun {K H H' v a C} s h=>by cases a with
 |none=>exact h
 |some a=>exact⟨h.1,m.flat s h.2⟩⟩
instance {α:Type}{o:OE α}{r:Enc α}[m:FrzC o r]:FrzC (Rh o) (Bp r):=⟨fun {K H H' v a C} h s hc=>by cases a with
 |none=>exact h.1
 |some a=>exact⟨h.1,m.frz h.2 s hc⟩⟩
structure SC where
 p:Hp->Prop
 mono:∀h h',Xu h h'->p h->p h'
noncomputable def SC.nil:SC:=⟨λ_=>True,λ_ _ _ _=>True.intro⟩
noncomputable def SC.and (S T:SC):SC:=⟨λh=>S.p h/\T.p h,λ_ _ s q=>⟨S.mono _ _ s q.1,T.mono _ _ s q.2⟩⟩
noncomputable def SC.one {α:Type}(K:PySem.W.Frag)(r:Enc α)[m:MonoE r](v:V)(a:α):SC:=⟨λh=>r K h v a,λ_ _ s q=>m.mono s q⟩
noncomputable def SC.oneO {α:Type}(K:PySem.W.Frag)(o:OE α)[m:MonoO o](v:V)(a:α)(C:List Xx):SC:=⟨λh=>o K h v a C,λ_ _ s q=>m.mono s q⟩
noncomputable abbrev SC.add {α:Type}(S:SC)(K:PySem.W.Frag)(r:Enc α)[m:MonoE r](v:V)(a:α):SC:=S.and (SC.one K r v a)
noncomputable abbrev SC.addO {α:Type}(S:SC)(K:PySem.W.Frag)(o:OE α)[m:MonoO o](v:V)(a:α)(C:List Xx):SC:=S.and (SC.oneO K o v a C)
theorem SC.l {S T:SC}{h:Hp}(q:(S.and T).p h):S.p h:=q.1
theorem SC.r {S T:SC}{h:Hp}(q:(S.and T).p h):T.p h:=q.2
theorem SC.i {S T:SC}{h:Hp}(q:S.p h)(p:T.p h):(S.and T).p h:=⟨q,p⟩
theorem SC.t {h:Hp}:SC.nil.p h:=True.intro
theorem SC.p.l {S T:SC}{h:Hp}(q:(S.and T).p h):S.p h:=q.1
theorem SC.p.r {S T:SC}{h:Hp}(q:(S.and T).p h):T.p h:=q.2
noncomputable def PZ {β:Type}(Er:Exc->Hp->Prop)(F:β->Hp->Prop)(H:Hp)(m:Rs β):Prop:=
 match m with
 | .bad=>False
 | .err x=>∀ H',Xu H H'->Er x H'
 | .ok b=>F b H
section
variable (K:PySem.W.Frag)(Er:Exc->Hp->Prop)(S:SC)(OO OO':List (List Xx))(σ:St)
noncomputable def FB {α:Type}(r:Enc α)(Q:VK)(a:α)(H:Hp):Prop:=∀ v H',Xu H H'->r K H' v a->Q v H'
noncomputable def FO {α:Type}(o:OE α)(Q:VK)(a:α)(H:Hp):Prop:=∀ v C H',Xu H H'->W (C::OO') H'->Xu (hid H OO) (hid H' (C::OO'))->o K (hid H' (C::OO')) v a C->Q v H'
noncomputable def FT (Q:Bool->Hp->Prop)(b:Bool)(H:Hp):Prop:=∀ H',Xu H H'->Q b H'
noncomputable def EvB {α:Type}(te:TE)(r:Enc α)(m:Rs α):Prop:=∀ H Q,W OO H->S.p (hid H OO)->PZ Er (FB K r Q) H m->te σ H Q
noncomputable def Ev {α:Type}(te:TE)(o:OE α)(m:Rs α):Prop:=∀ H Q,W OO H->S.p (hid H OO)->PZ Er (FO K OO OO' o Q) H m->te σ H Q
noncomputable def EvT (tt:TT)(m:Rs Bool):Prop:=∀ H Q,W OO H->S.p (hid H OO)->PZ Er (FT Q) H m->tt σ H Q
end
section
variable {K:PySem.W.Frag}{Er:Exc->Hp->Prop}{S:SC}{OO OO' OO2:List (List Xx)}{σ:St}{α β γ:Type}
theorem FB.tr {r:Enc α}{Q:VK}:∀a H H',Xu H H'->FB K r Q a H->FB K r Q a H':=λa H H' s h v H2 s2 q=>h v H2 (s.trans s2) q
theorem FO.tr {o:OE α}{Q:VK}:∀a H H',Xu H H'->FO K OO OO' o Q a H->FO K OO OO' o Q a H':=λa H H' s h v C H2 s2 w m q=>h v C H2 (s.trans s2) w ((Xk s).trans m) q
theorem FT.tr {Q:Bool->Hp->Prop}:∀b H H',Xu H H'->FT Q b H->FT Q b H':=λa H H' s h H2 s2=>h H2 (s.trans s2)
theorem EvB.run {te:TE}{r:Enc α}{m:Rs α}(he:EvB K Er S OO σ te r m){H:Hp}{Q:VK}(w:W OO H)(s:S.p (hid H OO)){f:α->Rs β}{F:β->Hp->Prop}(hF:∀b H H',Xu H H'->F b H->F b H')(P:PZ Er F H (m.bind f))
  (hk:∀a v H',Xu H H'->W OO H'->S.p (hid H' OO)->r K H' v a->PZ Er F H' (f a)->Q v H'):te σ H Q:=by
 refine he H Q w s ?_
 cases m with
 |bad=>exact P
 |err x=>exact P
 |ok a=>
  intro v H' s' hr
  refine hk a v H' s' (w.keep s') (S.mono _ _ (Xk s') s) hr ?_
  have P':PZ Er F H (f a):=P
  revert P'
  cases f a with
  |bad=>exact λz=>z
  |err x=>exact λz H2 s2=>z H2 (s'.trans s2)
  |ok b=>exact λz=>hF b H H' s' z
theorem Ev.run {te:TE}{o:OE α}{m:Rs α}(he:Ev K Er S OO OO' σ te o m){H:Hp}{Q:VK}(w:W OO H)(s:S.p (hid H OO)){f:α->Rs β}{F:β->Hp->Prop}(hF:∀b H H',Xu H H'->F b H->F b H')(P:PZ Er F H (m.bind f))
  (hk:∀a v C H',Xu H H'->W (C::OO') H'->Xu (hid H OO) (hid H' (C::OO'))->S.p (hid H' (C::OO'))->o K (hid H' (C::OO')) v a C->PZ Er F H' (f a)->Q v H'):te σ H Q:=by
 refine he H Q w s ?_
 cases m with
 |bad=>exact P
 |err x=>exact P
 |ok a=>
  intro v C H' s' w' m' ho
  refine hk a v C H' s' w' m' (S.mono _ _ m' s) ho ?_
  have P':PZ Er F H (f a):=P
  revert P'
  cases f a with
  |bad=>exact λz=>z
  |err x=>exact λz H2 s2=>z H2 (s'.trans s2)
  |ok b=>exact λz=>hF b H H' s' z
theorem EvT.run {tt:TT}{m:Rs Bool}(he:EvT Er S OO σ tt m){H:Hp}{Q:Bool->Hp->Prop}(w:W OO H)(s:S.p (hid H OO)){f:Bool->Rs β}{F:β->Hp->Prop}(hF:∀b H H',Xu H H'->F b H->F b H')(P:PZ Er F H (m.bind f))
  (hk:∀b H',Xu H H'->W OO H'->S.p (hid H' OO)->PZ Er F H' (f b)->Q b H'):tt σ H Q:=by
 refine he H Q w s ?_
 cases m with
 |bad=>exact P
 |err x=>exact P
 |ok a=>
  intro H' s'
  refine hk a H' s' (w.keep s') (S.mono _ _ (Xk s') s) ?_
  have P':PZ Er F H (f a):=P
  revert P'
  cases f a with
  |bad=>exact λz=>z
  |err x=>exact λz H2 s2=>z H2 (s'.trans s2)
  |ok b=>exact λz=>hF b H H' s' z
theorem Ev.toB {te:TE}{o:OE α}{r:Enc α}[z:FrzC o r]{m:Rs α}(he:Ev K Er S OO OO σ te o m):EvB K Er S OO σ te r m:=λH Q w s P=>by
 refine he H Q w s ?_
 cases m with
 |bad=>exact P
 |err x=>exact P
 |ok a=>exact λv C H' s' w' m' ho=>P v H' s' (z.frz ho XB w'.cell)
theorem Ev.frz {te:TE}{o:OE α}{r:Enc α}[z:FrzC o r]{m:Rs α}(he:Ev K Er S OO OO' σ te o m):Ev K Er S OO OO' σ te (oF r) m:=λH Q w s P=>by
 refine he H Q w s ?_
 cases m with
 |bad=>exact P
 |err x=>exact P
 |ok a=>
  intro v C H' s' w' m' ho
  have hs:Xu (hid H' (C::OO')) (hid H' ([]::OO')):=Zx (Xu.refl _) λb hb=>by rw[BG] at hb;rw[XO];simp[hb]
  refine P v [] H' s' w'.tail.nil (m'.trans hs) ⟨rfl,z.frz ho hs λc hc=>YO (w'.cell c hc) ?_⟩
  rw[BG]
  have:=w'.nd
  rw[XO] at this
  intro hb
  exact(List.nodup_append.mp this).2.2 c.1 (List.mem_map.mpr ⟨c,hc,rfl⟩) c.1 hb rfl
theorem EvB.flat {te:TE}{r:Enc α}[z:FlatE r]{m:Rs α}(he:EvB K Er S OO σ te r m):Ev K Er S OO OO σ te (oF r) m:=λH Q w s P=>by
 refine he H Q w s ?_
 cases m with
 |bad=>exact P
 |err x=>exact P
 |ok a=>
  intro v H' s' hr
  have w':=w.keep s'
  exact P v [] H' s' w'.nil (by rw[Y5];exact Xk s') ⟨rfl,by rw[Y5];exact z.flat w'.i hr⟩
theorem MF {r:Enc α}[z:MonoE r]{v:V}{a:α}(i:Nat)(hσ:σ[i]?=some (some v))(h:∀x,S.p x->r K x v a):EvB K Er S OO σ (Qb i) r (.ok a):=λH Q w s P=>
 ⟨v,hσ,P v H (Xu.refl _) (z.mono XB (h _ s))⟩
theorem Mc {o:OE α}{r:Enc α}[z:FrzC o r]{v:V}{a:α}{C:List Xx}(i k:Nat)(hσ:σ[i]?=some (some v))(hk:OO[k]?=some C)(h:∀x,S.p x->o K x v a C):EvB K Er S OO σ (Qb i) r (.ok a):=λH Q w s P=>
 ⟨v,hσ,P v H (Xu.refl _) (z.frz (h _ s) XB λc hc=>w.tr c (List.mem_flatten.mpr ⟨C,List.mem_of_getElem? hk,hc⟩))⟩
theorem XH:∀{OO:List (List Xx)}{k:Nat}{C:List Xx},OO[k]?=some C->(C::OO.set k []).flatten.Perm OO.flatten
 | [],_,_,h=>by simp at h
 |D::OO,0,C,h=>by simp at h;subst h;simp
 |D::OO,k+1,C,h=>by
  have:=XH (OO:=OO) (k:=k) (C:=C) (by simpa using h)
  simp only[List.set_cons_succ,List.flatten_cons] at this⊢
  refine List.Perm.trans ?_ (this.append_left D)
  rw[←List.append_assoc, ←List.append_assoc]
  exact List.perm_append_comm.append_right _
theorem JJ {OO OO':List (List Xx)}(h:OO'.flatten.Perm OO.flatten)(b:Addr):b∈fl OO'↔b∈fl OO:=(h.map (·.1)).mem_iff
theorem XI {H:Hp}{OO OO':List (List Xx)}(h:OO'.flatten.Perm OO.flatten):hid H OO'=hid H OO:=by
 funext b;unfold hid
 by_cases hb:b∈fl OO
 ·rw[if_pos hb,if_pos ((JJ h b).mpr hb)]
 ·rw[if_neg hb,if_neg λz=>hb ((JJ h b).mp z)]
theorem Nr {o:OE α}{v:V}{a:α}{C:List Xx}(i k:Nat)(hσ:σ[i]?=some (some v))(hk:OO[k]?=some C)(h:∀x,S.p x->o K x v a C):Ev K Er S OO (OO.set k []) σ (Qb i) o (.ok a):=λH Q w s P=>by
 have hp:=XH hk
 exact⟨v,hσ,P v C H (Xu.refl _) (w.of hp) (by rw[XI hp];exact Xu.refl _) (by rw[XI hp];exact h _ s)⟩
theorem N6 (n:Int):EvB K Er S OO σ (tC (.int n)) Xe (.ok n):=λH Q w s P=>P _ H (Xu.refl _) rfl
theorem Oh (b:Bool):EvB K Er S OO σ (tC (.bl b)) Xy (.ok b):=λH Q w s P=>P _ H (Xu.refl _) rfl
theorem Mm (x:Str):EvB K Er S OO σ (tC (.str x)) UZ (.ok x):=λH Q w s P=>P _ H (Xu.refl _) rfl
theorem JP {ta tb:TE}{g:Int->Int->V}{r:Enc β}{f:Int->Int->β}{ma mb:Rs Int}(hg:∀K H i j,r K H (g i j) (f i j))(ha:EvB K Er S OO σ ta Xe ma)(hb:EvB K Er S OO σ tb Xe mb):
  EvB K Er S OO σ (tOp (rI0 g) ta tb) r (ma.bind λa=>mb.bind λb=>.ok (f a b)):=λH Q w s P=>
 ha.run w s FB.tr P λa x H1 s1 w1 q1 r1 P1=>hb.run w1 q1 FB.tr P1 λb y H2 s2 w2 q2 r2 P2=>⟨a,b,r1,r2,P2 _ H2 (Xu.refl _) (hg K H2 a b)⟩
theorem KA {ta tb:TE}{Cc:Int->Int->Prop}{g:Int->Int->V}{r:Enc β}{f:Int->Int->Rs β}{ma mb:Rs Int}(hg:∀K H i j c,f i j= .ok c->Cc i j/\r K H (g i j) c)(he:∀i j x,f i j≠ .err x)
  (ha:EvB K Er S OO σ ta Xe ma)(hb:EvB K Er S OO σ tb Xe mb):
  EvB K Er S OO σ (tOp (rI Cc g) ta tb) r (ma.bind λa=>mb.bind λb=>f a b):=λH Q w s P=>
 ha.run w s FB.tr P λa x H1 s1 w1 q1 r1 P1=>hb.run w1 q1 FB.tr P1 λb y H2 s2 w2 q2 r2 P2=>by
  cases e:f a b with
  |bad=>rw[e] at P2;exact P2.elim
  |err x=>exact absurd e (he a b x)
  |ok c=>
   rw[e] at P2
   obtain⟨h1,h2⟩:=hg K H2 a b c e
   exact⟨a,b,r1,r2,h1,P2 _ H2 (Xu.refl _) h2⟩
noncomputable def NG (a b:Int):Rs Int:=chk ((-(2^64)<a/\a<2^64)∨(-(2^64)<b/\b<2^64)) (.ok (a*b))
noncomputable def OM (a b:Int):Rs Int:=chk (0<b) (.ok (a % b))
noncomputable def RM (a b:Int):Rs Int:=chk (0<b/\b.natAbs.log2<9000) (.ok (a/b))
noncomputable def Rf (a b:Int):Rs Int:=chk (0<=b/\b<=1000000/\a.natAbs<2^64) (.ok (a^b.toNat))
theorem Y8 {c:Prop}[Decidable c]{m:Rs α}{a:α}(h:chk c m= .ok a):c/\m= .ok a:=by
 unfold chk at h;split at h
 ·exact⟨by assumption,h⟩
 ·cases h
theorem Qg {c:Prop}[Decidable c]{a:α}{x:Exc}:chk c (Rs.ok a)≠ .err x:=by
 unfold chk;split<;> exact λz=>nomatch z
theorem Qq {ta tb:TE}{ma mb:Rs Int}(ha:EvB K Er S OO σ ta Xe ma)(hb:EvB K Er S OO σ tb Xe mb):EvB K Er S OO σ (tOp (rI Oz λi j=>.int (i*j)) ta tb) Xe (ma.bind λa=>mb.bind λb=>NG a b):=
 KA (λK H i j c h=>by obtain⟨h1,h2⟩:=Y8 h;cases h2;exact⟨h1,rfl⟩) (λi j x=>Qg) ha hb
theorem N1 {ta tb:TE}{ma mb:Rs Int}(ha:EvB K Er S OO σ ta Xe ma)(hb:EvB K Er S OO σ tb Xe mb):EvB K Er S OO σ (tOp (rI (λ_ j=>0<j) λi j=>.int (i % j)) ta tb) Xe (ma.bind λa=>mb.bind λb=>OM a b):=
 KA (λK H i j c h=>by obtain⟨h1,h2⟩:=Y8 h;cases h2;exact⟨h1,rfl⟩) (λi j x=>Qg) ha hb
theorem NU {ta tb:TE}{ma mb:Rs Int}(ha:EvB K Er S OO σ ta Xe ma)(hb:EvB K Er S OO σ tb Xe mb):EvB K Er S OO σ (tOp (rI (λ_ j=>0<j/\j.natAbs.log2<9000) λi j=>.int (i/j)) ta tb) Xe (ma.bind λa=>mb.bind λb=>RM a b):=
 KA (λK H i j c h=>by obtain⟨h1,h2⟩:=Y8 h;cases h2;exact⟨h1,rfl⟩) (λi j x=>Qg) ha hb
theorem NH {ta tb:TE}{ma mb:Rs Int}(ha:EvB K Er S OO σ ta Xe ma)(hb:EvB K Er S OO σ tb Xe mb):EvB K Er S OO σ (tOp (rI RA λi j=>.int (i^j.toNat)) ta tb) Xe (ma.bind λa=>mb.bind λb=>Rf a b):=
 KA (λK H i j c h=>by obtain⟨h1,h2⟩:=Y8 h;cases h2;exact⟨h1,rfl⟩) (λi j x=>Qg) ha hb
theorem BS {ta tb:TE}{ma mb:Rs Int}(ha:EvB K Er S OO σ ta Xe ma)(hb:EvB K Er S OO σ tb Xe mb):EvB K Er S OO σ (tOp (rI0 λi j=>.int (i+j)) ta tb) Xe (ma.bind λa=>mb.bind λb=>.ok (a+b)):=JP (λ_ _ _ _=>rfl) ha hb
theorem VS {ta tb:TE}{ma mb:Rs Int}(ha:EvB K Er S OO σ ta Xe ma)(hb:EvB K Er S OO σ tb Xe mb):EvB K Er S OO σ (tOp (rI0 λi j=>.int (i-j)) ta tb) Xe (ma.bind λa=>mb.bind λb=>.ok (a-b)):=JP (λ_ _ _ _=>rfl) ha hb
theorem Kk {ta tb:TE}{ma mb:Rs Int}(ha:EvB K Er S OO σ ta Xe ma)(hb:EvB K Er S OO σ tb Xe mb):EvB K Er S OO σ (tOp (rI0 λi j=>.bl (decide (i<j))) ta tb) Xy (ma.bind λa=>mb.bind λb=>.ok (decide (a<b))):=JP (λ_ _ _ _=>rfl) ha hb
theorem O1 {ta tb:TE}{ma mb:Rs Int}(ha:EvB K Er S OO σ ta Xe ma)(hb:EvB K Er S OO σ tb Xe mb):EvB K Er S OO σ (tOp (rI0 λi j=>.bl (decide (i<=j))) ta tb) Xy (ma.bind λa=>mb.bind λb=>.ok (decide (a<=b))):=JP (λ_ _ _ _=>rfl) ha hb
theorem Lg {ta tb:TE}{ma mb:Rs Int}(ha:EvB K Er S OO σ ta Xe ma)(hb:EvB K Er S OO σ tb Xe mb):EvB K Er S OO σ (tOp (rI0 λi j=>.bl (decide (j<i))) ta tb) Xy (ma.bind λa=>mb.bind λb=>.ok (decide (b<a))):=JP (λ_ _ _ _=>rfl) ha hb
theorem O6 {ta tb:TE}{ma mb:Rs Int}(ha:EvB K Er S OO σ ta Xe ma)(hb:EvB K Er S OO σ tb Xe mb):EvB K Er S OO σ (tOp (rI0 λi j=>.bl (decide (j<=i))) ta tb) Xy (ma.bind λa=>mb.bind λb=>.ok (decide (b<=a))):=JP (λ_ _ _ _=>rfl) ha hb
theorem VQ {ta:TE}{ma:Rs Int}(ha:EvB K Er S OO σ ta Xe ma):EvB K Er S OO σ (tUn (rU λi=>.int (-i)) ta) Xe (ma.bind λa=>.ok (-a)):=λH Q w s P=>
 ha.run w s FB.tr P λa x H1 s1 w1 q1 r1 P1=>⟨a,r1,P1 _ H1 (Xu.refl _) rfl⟩
class Scal {α:Type}[DecidableEq α](r:Enc α):Prop where
 to:∀{K:PySem.W.Frag}{H H':Hp}{x y:V}{a b:α},r K H x a->r K H' y b->Ro x y=true/\decide (x=y)=decide (a=b)
instance:Scal Xe:=⟨fun {K H H' x y a b} h1 h2=>by cases(show x= .int a from h1);cases(show y= .int b from h2);exact⟨rfl,by simp⟩⟩
instance:Scal Xy:=⟨fun {K H H' x y a b} h1 h2=>by cases(show x= .bl a from h1);cases(show y= .bl b from h2);exact⟨rfl,by simp⟩⟩
instance:Scal UZ:=⟨fun {K H H' x y a b} h1 h2=>by cases(show x= .str a from h1);cases(show y= .str b from h2);exact⟨rfl,by simp⟩⟩
theorem Vm [DecidableEq α]{r:Enc α}[z:Scal r][MonoE r]{ta tb:TE}{ma mb:Rs α}(ha:EvB K Er S OO σ ta r ma)(hb:EvB K Er S OO σ tb r mb):EvB K Er S OO σ (tOp rEq ta tb) Xy (ma.bind λa=>mb.bind λb=>.ok (decide (a=b))):=λH Q w s P=>
 ha.run w s FB.tr P λa x H1 s1 w1 q1 r1 P1=>hb.run w1 q1 FB.tr P1 λb y H2 s2 w2 q2 r2 P2=>by
  obtain⟨h1,h2⟩:=z.to r1 r2
  exact⟨h1,P2 _ H2 (Xu.refl _) (by rw[h2];rfl)⟩
theorem GW [DecidableEq α]{r:Enc α}[z:Scal r][MonoE r]{ta tb:TE}{ma mb:Rs α}(ha:EvB K Er S OO σ ta r ma)(hb:EvB K Er S OO σ tb r mb):EvB K Er S OO σ (tOp rNe ta tb) Xy (ma.bind λa=>mb.bind λb=>.ok (!decide (a=b))):=λH Q w s P=>
 ha.run w s FB.tr P λa x H1 s1 w1 q1 r1 P1=>hb.run w1 q1 FB.tr P1 λb y H2 s2 w2 q2 r2 P2=>by
  obtain⟨h1,h2⟩:=z.to r1 r2
  exact⟨h1,P2 _ H2 (Xu.refl _) (by rw[h2];rfl)⟩
theorem Nw [DecidableEq α]{r:Enc α}[z:MonoE r]{ta tb:TE}{ma mb:Rs α}(ha:EvB K Er S OO σ ta r ma)(hb:EvB K Er S OO σ tb r mb):EvB K Er S OO σ (tOp (Ra K r) ta tb) Xy (ma.bind λa=>mb.bind λb=>.ok (decide (a=b))):=λH Q w s P=>
 ha.run w s FB.tr P λa x H1 s1 w1 q1 r1 P1=>hb.run w1 q1 FB.tr P1 λb y H2 s2 w2 q2 r2 P2=>⟨a,b,z.mono s2 r1,r2,P2 _ H2 (Xu.refl _) rfl⟩
theorem VY [DecidableEq α]{r:Enc α}[z:MonoE r]{ta tb:TE}{ma mb:Rs α}(ha:EvB K Er S OO σ ta r ma)(hb:EvB K Er S OO σ tb r mb):EvB K Er S OO σ (tOp (PX K r) ta tb) Xy (ma.bind λa=>mb.bind λb=>.ok (!decide (a=b))):=λH Q w s P=>
 ha.run w s FB.tr P λa x H1 s1 w1 q1 r1 P1=>hb.run w1 q1 FB.tr P1 λb y H2 s2 w2 q2 r2 P2=>⟨a,b,z.mono s2 r1,r2,P2 _ H2 (Xu.refl _) rfl⟩
theorem GI {te:TE}{m:Rs Bool}(h:EvB K Er S OO σ te Xy m):EvT Er S OO σ (tB te) m:=λH Q w s P=>h H _ w s (by
 cases m with
 |bad=>exact P
 |err x=>exact P
 |ok a=>exact λv H' s' r=>⟨a,r,P H' s'⟩)
theorem XN {te:TE}{m:Rs Bool}(h:EvB K Er S OO σ te Xy m):EvT Er S OO σ (Lc te) m:=GI h
theorem QS {t:TT}{m:Rs Bool}(h:EvT Er S OO σ t m):EvT Er S OO σ (Rw t) (m.bind λb=>.ok (!b)):=λH Q w s P=>h.run w s FT.tr P λb H1 s1 w1 q1 P1=>P1 H1 (Xu.refl _)
noncomputable def Ms (a b:Rs Bool):Rs Bool:=a.bind λx=>if x=true then b else .ok false
noncomputable def orR (a b:Rs Bool):Rs Bool:=a.bind λx=>if x=true then .ok true else b
theorem Mk {t u:TT}{m n:Rs Bool}(h:EvT Er S OO σ t m)(k:EvT Er S OO σ u n):EvT Er S OO σ (Rc t u) (Ms m n):=λH Q w s P=>h.run w s FT.tr P λb H1 s1 w1 q1 P1=>by
 cases b with
 |true=>rw[if_pos rfl] at P1⊢;exact k H1 Q w1 q1 P1
 |false=>exact P1 H1 (Xu.refl _)
theorem Zl {t u:TT}{m n:Rs Bool}(h:EvT Er S OO σ t m)(k:EvT Er S OO σ u n):EvT Er S OO σ (tOr t u) (orR m n):=λH Q w s P=>h.run w s FT.tr P λb H1 s1 w1 q1 P1=>by
 cases b with
 |true=>exact P1 H1 (Xu.refl _)
 |false=>exact k H1 Q w1 q1 P1
theorem Dy {t:TE}{m:Rs Bool}(h:EvB K Er S OO σ t Xy m):EvB K Er S OO σ (Mt t) Xy (m.bind λb=>.ok (!b)):=λH Q w s P=>h.run w s FB.tr P λb x H1 s1 w1 q1 r1 P1=>⟨b,r1,P1 _ H1 (Xu.refl _) rfl⟩
theorem YZ {t u:TE}{m n:Rs Bool}(h:EvB K Er S OO σ t Xy m)(k:EvB K Er S OO σ u Xy n):EvB K Er S OO σ (NX t u) Xy (Ms m n):=λH Q w s P=>h.run w s FB.tr P λb x H1 s1 w1 q1 r1 P1=>⟨b,r1,by
 cases b with
 |true=>rw[if_pos rfl] at P1⊢;exact k H1 Q w1 q1 P1
 |false=>exact P1 _ H1 (Xu.refl _) rfl⟩
theorem M0 {t u:TE}{m n:Rs Bool}(h:EvB K Er S OO σ t Xy m)(k:EvB K Er S OO σ u Xy n):EvB K Er S OO σ (Sb t u) Xy (orR m n):=λH Q w s P=>h.run w s FB.tr P λb x H1 s1 w1 q1 r1 P1=>⟨b,r1,by
 cases b with
 |true=>exact P1 _ H1 (Xu.refl _) rfl
 |false=>exact k H1 Q w1 q1 P1⟩
theorem Pm {c:TT}{ta tb:TE}{r:Enc α}{mc:Rs Bool}{ma mb:Rs α}(hc:EvT Er S OO σ c mc)(ha:EvB K Er S OO σ ta r ma)(hb:EvB K Er S OO σ tb r mb):EvB K Er S OO σ (tIf c ta tb) r (mc.bind λb=>if b=true then ma else mb):=λH Q w s P=>
 hc.run w s FB.tr P λb H1 s1 w1 q1 P1=>by
  cases b with
  |true=>rw[if_pos rfl] at P1⊢;exact ha H1 Q w1 q1 P1
  |false=>exact hb H1 Q w1 q1 P1
theorem IS {c:TT}{ta tb:TE}{o:OE α}{mc:Rs Bool}{ma mb:Rs α}(hc:EvT Er S OO σ c mc)(ha:Ev K Er S OO OO' σ ta o ma)(hb:Ev K Er S OO OO' σ tb o mb):Ev K Er S OO OO' σ (tIf c ta tb) o (mc.bind λb=>if b=true then ma else mb):=λH Q w s P=>
 hc.run w s FO.tr P λb H1 s1 w1 q1 P1=>by
  cases b with
  |true=>rw[if_pos rfl] at P1⊢;exact ha H1 Q w1 q1 P1
  |false=>exact hb H1 Q w1 q1 P1
end
section
variable (K:PySem.W.Frag)(Er:Exc->Hp->Prop)(S:SC)(OO:List (List Xx))(σ:St)
noncomputable def FS {α:Type}(r:Enc α)(Q:VK)(a:α)(H:Hp):Prop:=∀ v H',Xu H H'->r K (hid H' OO) v a->Q v H'
noncomputable def EvS {α:Type}(te:TE)(r:Enc α)(m:Rs α):Prop:=∀ H Q,W OO H->S.p (hid H OO)->PZ Er (FS K OO r Q) H m->te σ H Q
noncomputable def rE {α:Type}(r:Enc α)(H:Hp)(v:V)(as:List α):Prop:=∃ p xs,v= .ref p/\H p=some (.lst xs)/\Paired (r K (hid H OO)) xs as
noncomputable def FL {α:Type}(r:Enc α)(Q:VK)(as:List α)(H:Hp):Prop:=∀ v H',Xu H H'->rE K OO r H' v as->Q v H'
noncomputable def EvL {α:Type}(te:TE)(r:Enc α)(m:Rs (List α)):Prop:=∀ H Q,W OO H->S.p (hid H OO)->PZ Er (FL K OO r Q) H m->te σ H Q
end
section
variable {K:PySem.W.Frag}{Er:Exc->Hp->Prop}{S:SC}{OO OO' OO2:List (List Xx)}{σ:St}{α β γ:Type}
theorem FS.tr {r:Enc α}{Q:VK}:∀a H H',Xu H H'->FS K OO r Q a H->FS K OO r Q a H':=λa H H' s h v H2 s2 q=>h v H2 (s.trans s2) q
theorem FL.tr {r:Enc α}{Q:VK}:∀a H H',Xu H H'->FL K OO r Q a H->FL K OO r Q a H':=λa H H' s h v H2 s2 q=>h v H2 (s.trans s2) q
theorem PZ.run {F:β->Hp->Prop}{f:α->Rs β}{H H':Hp}{a:α}{m:Rs α}(hm:m= .ok a)(hF:∀b H H',Xu H H'->F b H->F b H')(s:Xu H H')(P:PZ Er F H (m.bind f)):PZ Er F H' (f a):=by
 subst hm
 have P':PZ Er F H (f a):=P
 revert P'
 cases f a with
 |bad=>exact λz=>z
 |err x=>exact λz H2 s2=>z H2 (s.trans s2)
 |ok b=>exact λz=>hF b H H' s z
theorem EvS.run {te:TE}{r:Enc α}{m:Rs α}(he:EvS K Er S OO σ te r m){H:Hp}{Q:VK}(w:W OO H)(s:S.p (hid H OO)){f:α->Rs β}{F:β->Hp->Prop}(hF:∀b H H',Xu H H'->F b H->F b H')(P:PZ Er F H (m.bind f))
  (hk:∀a v H',Xu H H'->W OO H'->S.p (hid H' OO)->r K (hid H' OO) v a->PZ Er F H' (f a)->Q v H'):te σ H Q:=by
 refine he H Q w s ?_
 cases e:m with
 |bad=>rw[e] at P;exact P
 |err x=>rw[e] at P;exact P
 |ok a=>exact λv H' s' hr=>hk a v H' s' (w.keep s') (S.mono _ _ (Xk s') s) hr (PZ.run e hF s' P)
theorem EvL.run {te:TE}{r:Enc α}{m:Rs (List α)}(he:EvL K Er S OO σ te r m){H:Hp}{Q:VK}(w:W OO H)(s:S.p (hid H OO)){f:List α->Rs β}{F:β->Hp->Prop}(hF:∀b H H',Xu H H'->F b H->F b H')(P:PZ Er F H (m.bind f))
  (hk:∀a v H',Xu H H'->W OO H'->S.p (hid H' OO)->rE K OO r H' v a->PZ Er F H' (f a)->Q v H'):te σ H Q:=by
 refine he H Q w s ?_
 cases e:m with
 |bad=>rw[e] at P;exact P
 |err x=>rw[e] at P;exact P
 |ok a=>exact λv H' s' hr=>hk a v H' s' (w.keep s') (S.mono _ _ (Xk s') s) hr (PZ.run e hF s' P)
theorem PZ.imp {F G:β->Hp->Prop}{H:Hp}{m:Rs β}(P:PZ Er F H m)(h:∀b,m= .ok b->F b H->G b H):PZ Er G H m:=by
 cases m with
 |bad=>exact P
 |err x=>exact P
 |ok b=>exact h b rfl P
theorem EvS.toB {te:TE}{r:Enc α}[z:MonoE r]{m:Rs α}(he:EvS K Er S OO σ te r m):EvB K Er S OO σ te r m:=λH Q w s P=>he H Q w s (P.imp λb _ h v H' s' q=>h v H' s' (z.mono XB q))
theorem EvS.ev {te:TE}{r:Enc α}{m:Rs α}(he:EvS K Er S OO σ te r m):Ev K Er S OO OO σ te (oF r) m:=λH Q w s P=>he H Q w s (P.imp λb _ h v H' s' q=>
 h v [] H' s' (w.keep s').nil (by rw[Y5];exact Xk s') ⟨rfl,by rw[Y5];exact q⟩)
theorem EvB.sh {te:TE}{r:Enc α}[z:FlatE r]{m:Rs α}(he:EvB K Er S OO σ te r m):EvS K Er S OO σ te r m:=λH Q w s P=>he H Q w s (P.imp λb _ h v H' s' q=>h v H' s' (z.flat (w.keep s').i q))
theorem Ev.sh {te:TE}{o:OE α}{r:Enc α}[z:FrzC o r]{m:Rs α}(he:Ev K Er S OO OO σ te o m):EvS K Er S OO σ te r m:=λH Q w s P=>he.frz H Q w s (P.imp λb _ h v C H' s' w' m' q=>by
 obtain⟨rfl,q⟩:=q
 rw[Y5] at q
 exact h v H' s' q)
theorem NI {r:Enc α}{v:V}{a:α}(i:Nat)(hσ:σ[i]?=some (some v))(h:∀x,S.p x->r K x v a):EvS K Er S OO σ (Qb i) r (.ok a):=λH Q w s P=>⟨v,hσ,P v H (Xu.refl _) (h _ s)⟩
theorem EvS.ls {te:TE}{r:Enc α}{m:Rs (List α)}(he:EvS K Er S OO σ te (rV r) m):EvL K Er S OO σ te r m:=λH Q w s P=>he H Q w s (P.imp λb _ h v H' s' r9=>by obtain⟨p,xs,e,q,pr⟩:=r9;exact h v H' s' ⟨p,xs,e,XB _ _ q,pr⟩)
theorem EvB.ls {te:TE}{r:Enc α}[z:FlatE r]{m:Rs (List α)}(he:EvB K Er S OO σ te (rV r) m):EvL K Er S OO σ te r m:=λH Q w s P=>he H Q w s (P.imp λb _ h v H' s' r9=>by obtain⟨p,xs,e,q,pr⟩:=r9;exact h v H' s' ⟨p,xs,e,q,Paired.imp2 (λ_ _ z'=>z.flat (w.keep s').i z') pr⟩)
theorem Ev.ls {te:TE}{r:Enc α}[z:MonoE r]{m:Rs (List α)}(he:Ev K Er S OO OO σ te (oL (oF r)) m):EvL K Er S OO σ te r m:=he.sh.ls
theorem MA {r:Enc α}[z:MonoE r]{v:V}{as:List α}{C:List Xx}(i k:Nat)(hσ:σ[i]?=some (some v))(hk:OO[k]?=some C)(h:∀x,S.p x->oL (oF r) K x v as C):EvL K Er S OO σ (Qb i) r (.ok as):=λH Q w s P=>by
 obtain⟨p,xs,Cs,e,q,c⟩:=h _ s
 refine⟨v,hσ,P v H (Xu.refl _) ⟨p,xs,e,?_,(P3.flat q).1⟩⟩
 exact w.tr (p, .lst xs) (List.mem_flatten.mpr ⟨C,List.mem_of_getElem? hk,by rw[c];exact List.mem_cons_self⟩)
noncomputable def atR (as:List α)(i:Int):Rs α:=match atI as i with
 |some a=>.ok a
 |none=>.bad
theorem GC {as:List α}{i:Int}{a:α}(h:atR as i= .ok a):atI as i=some a:=by
 unfold atR at h;split at h
 ·cases h;assumption
 ·cases h
theorem V1 {as:List α}{i:Int}{x:Exc}:atR as i≠ .err x:=by unfold atR;split<;> exact λz=>nomatch z
theorem QI {F:V->α->Prop}{xs:List V}{as:List α}{i:Int}{a:α}(p:Paired F xs as)(h:atI as i=some a):∃x,atI xs i=some x/\F x a:=by
 unfold atI at h⊢
 rw[Paired.len p]
 cases e:ixN as.length i with
 |none=>rw[e] at h;cases h
 |some j=>
  rw[e] at h
  obtain⟨x,h1,h2⟩:=Paired.getR p h
  exact⟨x,h1,h2⟩
theorem PZ.okOf {F:β->Hp->Prop}{H:Hp}{m:Rs β}(he:∀x,m≠ .err x)(P:PZ Er F H m):∃b,m= .ok b/\F b H:=by
 cases m with
 |bad=>exact P.elim
 |err x=>exact absurd rfl (he x)
 |ok b=>exact⟨b,rfl,P⟩
theorem Pd {ta tb:TE}{r:Enc α}[z:MonoE r]{ma:Rs (List α)}{mb:Rs Int}(ha:EvB K Er S OO σ ta (rV r) ma)(hb:EvB K Er S OO σ tb Xe mb):EvB K Er S OO σ (tOp (B9 K) ta tb) r (ma.bind λas=>mb.bind λi=>atR as i):=λH Q w s P=>
 ha.run w s FB.tr P λa x H1 s1 w1 q1 ⟨p,xs,e,q,pr⟩ P1=>hb.run w1 q1 FB.tr P1 λb y H2 s2 w2 q2 r2 P2=>by
  obtain⟨c,hc,P3⟩:=P2.okOf λx=>V1
  obtain⟨u,h1,h2⟩:=QI pr (GC hc)
  exact⟨p,xs,b,u,e,r2,SqL.of (s2 _ _ q),h1,P3 u H2 (Xu.refl _) (z.mono s2 h2)⟩
theorem O9 {ta tb:TE}{r:Enc α}[z:MonoE r]{ma:Rs (List α)}{mb:Rs Int}(ha:EvL K Er S OO σ ta r ma)(hb:EvB K Er S OO σ tb Xe mb):EvS K Er S OO σ (tOp (B9 K) ta tb) r (ma.bind λas=>mb.bind λi=>atR as i):=λH Q w s P=>
 ha.run w s FS.tr P λa x H1 s1 w1 q1 ⟨p,xs,e,q,pr⟩ P1=>hb.run w1 q1 FS.tr P1 λb y H2 s2 w2 q2 r2 P2=>by
  obtain⟨c,hc,P3⟩:=P2.okOf λx=>V1
  obtain⟨u,h1,h2⟩:=QI pr (GC hc)
  exact⟨p,xs,b,u,e,r2,SqL.of (s2 _ _ q),h1,P3 u H2 (Xu.refl _) (z.mono (Xk s2) h2)⟩
theorem N2 {ta tb:TE}{r:Enc α}[z:MonoE r]{ma:Rs (List α)}{mb:Rs Int}(ha:EvB K Er S OO σ ta (rPL r) ma)(hb:EvB K Er S OO σ tb Xe mb):EvB K Er S OO σ (tOp (Fj K) ta tb) r (ma.bind λas=>mb.bind λi=>atR as i):=λH Q w s P=>
 ha.run w s FB.tr P λa x H1 s1 w1 q1 ⟨p,xs,e,q,pr⟩ P1=>hb.run w1 q1 FB.tr P1 λb y H2 s2 w2 q2 r2 P2=>by
  obtain⟨c,hc,P3⟩:=P2.okOf λx=>V1
  obtain⟨u,h1,h2⟩:=QI pr (GC hc)
  exact⟨p,xs,b,u,e,r2,SqT.of (s2 _ _ q),h1,P3 u H2 (Xu.refl _) (z.mono s2 h2)⟩
theorem MP {ta:TE}{r:Enc α}{q:Enc β}{m:Rs (α×β)}(ha:EvB K Er S OO σ ta (rP2 r q) m):EvB K Er S OO σ (tOp (Fj K) ta (tC (.int 0))) r (m.bind λp=>.ok p.1):=λH Q w s P=>
 ha.run w s FB.tr P λa x H1 s1 w1 q1 r9 P1=>by obtain⟨p,x,y,e,q,h1,h2⟩:=r9;exact⟨p,_,0,x,e,rfl,SqT.of q,rfl,P1 _ H1 (Xu.refl _) h1⟩
theorem Nz {ta:TE}{r:Enc α}{q:Enc β}{m:Rs (α×β)}(ha:EvB K Er S OO σ ta (rP2 r q) m):EvB K Er S OO σ (tOp (Fj K) ta (tC (.int 1))) q (m.bind λp=>.ok p.2):=λH Q w s P=>
 ha.run w s FB.tr P λa x H1 s1 w1 q1 r9 P1=>by obtain⟨p,x,y,e,q,h1,h2⟩:=r9;exact⟨p,_,1,y,e,rfl,SqT.of q,rfl,P1 _ H1 (Xu.refl _) h2⟩
theorem MO {ta:TE}{r:Enc α}{q:Enc β}{m:Rs (α×β)}(ha:EvS K Er S OO σ ta (rP2 r q) m):EvS K Er S OO σ (tOp (Fj K) ta (tC (.int 0))) r (m.bind λp=>.ok p.1):=λH Q w s P=>
 ha.run w s FS.tr P λa x H1 s1 w1 q1 r9 P1=>by obtain⟨p,x,y,e,q,h1,h2⟩:=r9;exact⟨p,_,0,x,e,rfl,SqT.of (XB _ _ q),rfl,P1 _ H1 (Xu.refl _) h1⟩
theorem MS {ta:TE}{r:Enc α}{q:Enc β}{m:Rs (α×β)}(ha:EvS K Er S OO σ ta (rP2 r q) m):EvS K Er S OO σ (tOp (Fj K) ta (tC (.int 1))) q (m.bind λp=>.ok p.2):=λH Q w s P=>
 ha.run w s FS.tr P λa x H1 s1 w1 q1 r9 P1=>by obtain⟨p,x,y,e,q,h1,h2⟩:=r9;exact⟨p,_,1,y,e,rfl,SqT.of (XB _ _ q),rfl,P1 _ H1 (Xu.refl _) h2⟩
theorem MZ {ta:TE}{r:Enc α}{m:Rs (List α)}(ha:EvB K Er S OO σ ta (rV r) m):EvB K Er S OO σ (tCB (Vf K) (Xv ta Yq)) Xe (m.bind λas=>.ok (as.length:Int)):=λH Q w s P=>
 ha.run w s FB.tr P λa x H1 s1 w1 q1 r9 P1=>by obtain⟨p,xs,e,q,pr⟩:=r9;exact⟨p,xs,by rw[e], .inl (SqL.of q),P1 _ H1 (Xu.refl _) (by rw[Paired.len pr];rfl)⟩
theorem Cb {ta:TE}{r:Enc α}{m:Rs (List α)}(ha:EvB K Er S OO σ ta (rPL r) m):EvB K Er S OO σ (tCB (Vf K) (Xv ta Yq)) Xe (m.bind λas=>.ok (as.length:Int)):=λH Q w s P=>
 ha.run w s FB.tr P λa x H1 s1 w1 q1 r9 P1=>by obtain⟨p,xs,e,q,pr⟩:=r9;exact⟨p,xs,by rw[e], .inr (SqT.of q),P1 _ H1 (Xu.refl _) (by rw[Paired.len pr];rfl)⟩
theorem Hy {r:Enc α}[z:MonoE r]{xs:List V}{as:List α}{H:Hp}{Q:VK}(w:W OO H)(pr:Paired (r K (hid H OO)) xs as)(P:FO K OO OO (oL (oF r)) Q as H):∀p,H p=none->Q (.ref p) (upd H p (.lst xs)):=λp hp=>by
 have hn:=JX (OO:=OO) hp (o:=.lst xs)
 refine P (.ref p) [(p, .lst xs)] _ (XQ hp _) (w.new hp rfl) hn ?_
 refine⟨p,xs,List.replicate as.length [],rfl,(P3.of (Paired.imp2 (λ_ _ h=>z.mono hn h) pr)).imp λ_ _ _ h=>h,by rw[Yd]⟩
theorem Paired.take' {F:α->β->Prop}:∀{l:List α}{m:List β} (n:Nat),Paired F l m->Paired F (l.take n) (m.take n)
 |_,_,0,_=>.nil
 |_,_,_+1, .nil=>.nil
 |_,_,n+1, .cons r t=>.cons r (Paired.take' n t)
theorem Paired.drop' {F:α->β->Prop}:∀{l:List α}{m:List β} (n:Nat),Paired F l m->Paired F (l.drop n) (m.drop n)
 |_,_,0,h=>h
 |_,_,_+1, .nil=>.nil
 |_,_,n+1, .cons _ t=>Paired.drop' n t
theorem Paired.rev' {F:α->β->Prop}:∀{l:List α}{m:List β},Paired F l m->Paired F l.reverse m.reverse
 |_,_, .nil=>.nil
 |_,_, .cons r t=>by rw[List.reverse_cons,List.reverse_cons];exact Paired.app (Paired.rev' t) (.cons r .nil)
theorem Paired.rep' {F:α->β->Prop}{l:List α}{m:List β}(h:Paired F l m):∀n:Nat,Paired F (List.replicate n l).flatten (List.replicate n m).flatten
 |0=>.nil
 |n+1=>by simp only[List.replicate_succ,List.flatten_cons];exact Paired.app h (Paired.rep' h n)
noncomputable def Kb (as:List α)(lo hi:Option Int):List α:=(as.drop (HT.sIx as.length 0 lo)).take (HT.sIx as.length as.length hi-HT.sIx as.length 0 lo)
theorem JI {F:V->α->Prop}{xs:List V}{as:List α}(p:Paired F xs as)(lo hi:Option Int):Paired F (LB xs lo hi) (Kb as lo hi):=by
 unfold LB Kb;rw[Paired.len p];exact Paired.take' _ (Paired.drop' _ p)
noncomputable def FP (Q:Option Int->Hp->Prop)(a:Option Int)(H:Hp):Prop:=∀ H',Xu H H'->Q a H'
noncomputable def EvP (Er:Exc->Hp->Prop)(S:SC)(OO:List (List Xx))(σ:St)(t:TO)(m:Rs (Option Int)):Prop:=∀ H Q,W OO H->S.p (hid H OO)->PZ Er (FP Q) H m->t σ H Q
theorem EvP.run {t:TO}{m:Rs (Option Int)}(he:EvP Er S OO σ t m){H:Hp}{Q:Option Int->Hp->Prop}(w:W OO H)(s:S.p (hid H OO)){f:Option Int->Rs β}{F:β->Hp->Prop}(hF:∀b H H',Xu H H'->F b H->F b H')(P:PZ Er F H (m.bind f))
  (hk:∀a H',Xu H H'->W OO H'->S.p (hid H' OO)->PZ Er F H' (f a)->Q a H'):t σ H Q:=by
 refine he H Q w s ?_
 cases e:m with
 |bad=>rw[e] at P;exact P
 |err x=>rw[e] at P;exact P
 |ok a=>exact λH' s'=>hk a H' s' (w.keep s') (S.mono _ _ (Xk s') s) (PZ.run e hF s' P)
theorem Ih:EvP Er S OO σ Fz (.ok none):=λH Q w s P=>P H (Xu.refl _)
theorem Iy {te:TE}{m:Rs Int}(h:EvB K Er S OO σ te Xe m):EvP Er S OO σ (Mb te) (m.bind λi=>.ok (some i)):=λH Q w s P=>
 h.run w s (λ_ _ _ s h H2 s2=>h H2 (s.trans s2)) P λa v H1 s1 w1 q1 r1 P1=>⟨a,r1,P1 H1 (Xu.refl _)⟩
theorem La {te:TE}{tl th:TO}{r:Enc α}[z:MonoE r]{m:Rs (List α)}{ml mh:Rs (Option Int)}(he:EvL K Er S OO σ te r m)(hl:EvP Er S OO σ tl ml)(hh:EvP Er S OO σ th mh):
  Ev K Er S OO OO σ (tSl (Pl K) te tl th) (oL (oF r)) (m.bind λas=>ml.bind λlo=>mh.bind λhi=>.ok (Kb as lo hi)):=λH Q w s P=>
 he.run w s FO.tr P λas x H1 s1 w1 q1 ⟨p,xs,e,q,pr⟩ P1=>hl.run w1 q1 FO.tr P1 λlo H2 s2 w2 q2 P2=>hh.run w2 q2 FO.tr P2 λhi H3 s3 w3 q3 P3'=>
  ⟨p,xs,e,SqL.of (s3 _ _ (s2 _ _ q)),Hy w3 (JI (Paired.imp2 (λ_ _ h=>z.mono ((Xk s2).trans (Xk s3)) h) pr) lo hi) P3'⟩
theorem HN {ta:TE}{r:Enc α}{m:Rs (List α)}(ha:EvB K Er S OO σ ta (rL r) m):EvB K Er S OO σ (tCB (Vf K) (Xv ta Yq)) Xe (m.bind λas=>.ok (as.length:Int)):=λH Q w s P=>
 ha.run w s FB.tr P λa x H1 s1 w1 q1 r9 P1=>by obtain⟨p,xs,e,q,pr⟩:=r9;exact⟨p,xs,by rw[e], .inl q,P1 _ H1 (Xu.refl _) (by rw[Paired.len pr];rfl)⟩
theorem Nb {ta tb:TE}{ma:Rs (List Int)}{mb:Rs Int}(ha:EvB K Er S OO σ ta (rL Xe) ma)(hb:EvB K Er S OO σ tb Xe mb):EvB K Er S OO σ (tOp (B9 K) ta tb) Xe (ma.bind λas=>mb.bind λi=>atR as i):=λH Q w s P=>
 ha.run w s FB.tr P λa x H1 s1 w1 q1 ⟨p,xs,e,q,pr⟩ P1=>hb.run w1 q1 FB.tr P1 λb y H2 s2 w2 q2 r2 P2=>by
  obtain⟨c,hc,P3⟩:=P2.okOf λx=>V1
  obtain⟨u,h1,h2⟩:=QI pr (GC hc)
  exact⟨p,xs,b,u,e,r2,s2.seq q,h1,P3 u H2 (Xu.refl _) h2⟩
theorem ET {te:TE}{tl th:TO}{m:Rs (List Int)}{ml mh:Rs (Option Int)}(he:EvB K Er S OO σ te (rL Xe) m)(hl:EvP Er S OO σ tl ml)(hh:EvP Er S OO σ th mh):
  Ev K Er S OO OO σ (tSl (Pl K) te tl th) (oL (oF Xe)) (m.bind λas=>ml.bind λlo=>mh.bind λhi=>.ok (Kb as lo hi)):=λH Q w s P=>
 he.run w s FO.tr P λas x H1 s1 w1 q1 ⟨p,xs,e,q,pr⟩ P1=>hl.run w1 q1 FO.tr P1 λlo H2 s2 w2 q2 P2=>hh.run w2 q2 FO.tr P2 λhi H3 s3 w3 q3 P3'=>
  ⟨p,xs,e,s3.seq (s2.seq q),Hy w3 (JI (Paired.imp2 (λ_ _ h=>h) pr) lo hi) P3'⟩
noncomputable def Br (as bs:List α):Rs (List α):=chk (as.length+bs.length<=sizeLine) (.ok (as++bs))
theorem BP {ta tb:TE}{r:Enc α}[z:MonoE r]{ma mb:Rs (List α)}(ha:EvL K Er S OO σ ta r ma)(hb:EvL K Er S OO σ tb r mb):Ev K Er S OO OO σ (tOp RZ ta tb) (oL (oF r)) (ma.bind λas=>mb.bind λbs=>Br as bs):=λH Q w s P=>
 ha.run w s FO.tr P λas x H1 s1 w1 q1 ⟨p,xs,e,q,pr⟩ P1=>hb.run w1 q1 FO.tr P1 λbs y H2 s2 w2 q2 ⟨p',ys,e',q',pr'⟩ P2=>by
  obtain⟨c,hc,P3⟩:=P2.okOf λx=>Qg
  obtain⟨h1,h2⟩:=Y8 hc
  cases h2
  exact⟨p,p',xs,ys,e,e',s2 _ _ q,q',by rw[Paired.len pr,Paired.len pr'];exact h1,Hy w2 (Paired.app (Paired.imp2 (λ_ _ h=>z.mono (Xk s2) h) pr) pr') P3⟩
noncomputable def Lp (as:List α)(n:Int):Rs (List α):=chk (-(2^63)<=n/\n<2^63/\as.length*n.toNat<=sizeLine) (.ok (List.replicate n.toNat as).flatten)
theorem Pa {ta tb:TE}{r:Enc α}[z:MonoE r]{ma:Rs (List α)}{mb:Rs Int}(ha:EvL K Er S OO σ ta r ma)(hb:EvB K Er S OO σ tb Xe mb):Ev K Er S OO OO σ (tOp RT ta tb) (oL (oF r)) (ma.bind λas=>mb.bind λn=>Lp as n):=λH Q w s P=>
 ha.run w s FO.tr P λas x H1 s1 w1 q1 ⟨p,xs,e,q,pr⟩ P1=>hb.run w1 q1 FO.tr P1 λn y H2 s2 w2 q2 r2 P2=>by
  obtain⟨c,hc,P3⟩:=P2.okOf λx=>Qg
  obtain⟨⟨h0,h1,h3⟩,h2⟩:=Y8 hc
  cases h2
  exact⟨p,n,xs,e,r2,s2 _ _ q,h0,h1,by rw[Paired.len pr];exact h3,Hy w2 (Paired.rep' (Paired.imp2 (λ_ _ h=>z.mono (Xk s2) h) pr) _) P3⟩
theorem Nu {ta:TE}{r:Enc α}[z:MonoE r]{ma:Rs (List α)}(ha:EvL K Er S OO σ ta r ma):Ev K Er S OO OO σ (tCB (Do K) (Xv ta Yq)) (oL (oF r)) (ma.bind λas=>.ok as):=λH Q w s P=>
 ha.run w s FO.tr P λas x H1 s1 w1 q1 r9 P1=>by obtain⟨p,xs,e,q,pr⟩:=r9;exact⟨p,xs,by rw[e], .inl (SqL.of q),Hy w1 pr P1⟩
noncomputable def Jo (lo hi:Int):List Int:=(List.range (hi-lo).toNat).map λ(i:Nat)=>lo+(i:Int)
theorem Gk {ta:TE}{ma:Rs Int}(ha:EvB K Er S OO σ ta Xe ma):Ev K Er S OO OO σ (Cm (Xv ta Yq)) (oL (oF Xe)) (ma.bind λn=>chk (0<=n/\n<=1000) (.ok (Jo 0 n))):=λH Q w s P=>
 ha.run w s FO.tr P λn x H1 s1 w1 q1 r1 P1=>by
  obtain⟨c,hc,P3⟩:=P1.okOf λx=>Qg
  obtain⟨⟨h0,h1⟩,h2⟩:=Y8 hc
  cases h2
  refine⟨n,by rw[show x= .int n from r1],h0,h1,Hy w1 ?_ P3⟩
  unfold Jo
  rw[Int.sub_zero]
  have:∀l:List Nat,Paired (Xe K (hid H1 OO)) (l.map λ(i:Nat)=>V.int (i:Int)) (l.map λ(i:Nat)=>(0:Int)+(i:Int)):=λl=>by
   induction l with
   |nil=>exact .nil
   |cons a l ih=>exact .cons (by show V.int (a:Int)=V.int (0+(a:Int));rw[Int.zero_add]) ih
  exact this _
theorem UV {o:OE α}:Ev K Er S OO OO σ (HK Yq) (oL o) (.ok []):=λH Q w s P=>⟨Nat.zero_le _,λp hp=>P (.ref p) [(p, .lst [])] _ (XQ hp _) (w.new hp rfl) (JX hp) ⟨p,[],[],rfl, .nil,rfl⟩⟩
noncomputable def FA {α:Type}(K:PySem.W.Frag)(OO:List (List Xx))(r:Enc α)(Q:List V->Hp->Prop)(as:List α)(H:Hp):Prop:=∀ vs H',Xu H H'->Paired (r K (hid H' OO)) vs as->Q vs H'
noncomputable def EvA {α:Type}(K:PySem.W.Frag)(Er:Exc->Hp->Prop)(S:SC)(OO:List (List Xx))(σ:St)(t:TA)(r:Enc α)(m:Rs (List α)):Prop:=∀ H Q,W OO H->S.p (hid H OO)->PZ Er (FA K OO r Q) H m->t σ H Q
theorem Nq {r:Enc α}:EvA K Er S OO σ Yq r (.ok []):=λH Q w s P=>P [] H (Xu.refl _) .nil
theorem Yo {te:TE}{t:TA}{r:Enc α}[z:MonoE r]{m:Rs α}{n:Rs (List α)}(he:EvS K Er S OO σ te r m)(ht:EvA K Er S OO σ t r n):EvA K Er S OO σ (Xv te t) r (m.bind λa=>n.bind λas=>.ok (a::as)):=λH Q w s P=>
 he.run w s (λb H H' s h vs H2 s2 p=>h vs H2 (s.trans s2) p) P λa x H1 s1 w1 q1 r1 P1=>by
  refine ht H1 _ w1 q1 ?_
  cases e:n with
  |bad=>rw[e] at P1;exact P1
  |err x=>rw[e] at P1;exact P1
  |ok as=>rw[e] at P1;exact λvs H2 s2 p=>P1 (x::vs) H2 s2 (.cons (z.mono (Xk s2) r1) p)
theorem Vh {t:TA}{r:Enc α}[z:MonoE r]{m:Rs (List α)}(h:EvA K Er S OO σ t r m):Ev K Er S OO OO σ (HK t) (oL (oF r)) (m.bind λas=>chk (as.length<=sizeLine) (.ok as)):=λH Q w s P=>by
 refine h H _ w s ?_
 cases e:m with
 |bad=>rw[e] at P;exact P
 |err x=>rw[e] at P;exact P
 |ok as=>
  rw[e] at P
  intro vs H1 s1 p
  obtain⟨c,hc,P3⟩:=PZ.okOf (λx=>Qg) (show PZ Er _ H (chk (as.length<=sizeLine) (.ok as)) from P)
  obtain⟨h1,h2⟩:=Y8 hc
  cases h2
  exact⟨by rw[Paired.len p];exact h1,Hy (w.keep s1) p (FO.tr _ _ _ s1 P3)⟩
theorem ZZ {t:TA}{r:Enc α}[z:MonoE r]{m:Rs (List α)}(h:EvA K Er S OO σ t r m):EvS K Er S OO σ (N9 t) (rPL r) (m.bind λas=>chk (as.length<=sizeLine) (.ok as)):=λH Q w s P=>by
 refine h H _ w s ?_
 cases e:m with
 |bad=>rw[e] at P;exact P
 |err x=>rw[e] at P;exact P
 |ok as=>
  rw[e] at P
  intro vs H1 s1 p
  obtain⟨c,hc,P3⟩:=PZ.okOf (λx=>Qg) (show PZ Er _ H (chk (as.length<=sizeLine) (.ok as)) from P)
  obtain⟨h1,h2⟩:=Y8 hc
  cases h2
  have w1:=w.keep s1
  refine⟨by rw[Paired.len p];exact h1,λa ha=>P3 _ _ (s1.trans (XQ ha _)) ⟨a,vs,rfl,VD w1 ha,Paired.imp2 (λ_ _ q=>z.mono (Xk (XQ ha _)) q) p⟩⟩
theorem Y9 {ta tb:TE}{r:Enc α}{q:Enc β}[z:MonoE r][y:MonoE q]{ma:Rs α}{mb:Rs β}(ha:EvS K Er S OO σ ta r ma)(hb:EvS K Er S OO σ tb q mb):EvS K Er S OO σ (N9 (Xv ta (Xv tb Yq))) (rP2 r q) (ma.bind λa=>mb.bind λb=>.ok (a,b)):=λH Q w s P=>
 ha.run w s FS.tr P λa x H1 s1 w1 q1 r1 P1=>hb.run w1 q1 FS.tr P1 λb y' H2 s2 w2 q2 r2 P2=>
  ⟨by show 2<=sizeLine;decide,λp hp=>P2 _ _ (XQ hp _) ⟨p,x,y',rfl,VD w2 hp,z.mono ((Xk s2).trans (Xk (XQ hp _))) r1,y.mono (Xk (XQ hp _)) r2⟩⟩
end
section
variable {K:PySem.W.Frag}{Er:Exc->Hp->Prop}{S:SC}{OO OO' OO2:List (List Xx)}{σ:St}{α β γ ρ ι:Type}{α1 α2 α3 α4 α5 α6:Type}
noncomputable def noE (m:Rs α):Rs α:=match m with
 | .ok a=>.ok a
 |_=>.bad
theorem U8 {m:Rs α}{a:α}(h:noE m= .ok a):m= .ok a:=by
 cases m with
 |ok b=>exact h
 |bad=>cases h
 |err x=>cases h
theorem Ki {m:Rs α}{x:Exc}:noE m≠ .err x:=by cases m<;> exact λz=>nomatch z
noncomputable def FF (K:PySem.W.Frag)(o:OE α)(Q:VK)(a:α)(H:Hp):Prop:=∀ v C H',W [C] H'->Xu H (hid H' [C])->o K (hid H' [C]) v a C->Q v H'
noncomputable def sp1 (r1:Enc α1)(o:OE ρ)(f:α1->Rs ρ)(K:PySem.W.Frag):Sp:=λvs H Q _=>∃ v1 a1 b,vs=[v1]/\r1 K H v1 a1/\f a1= .ok b/\FF K o Q b H
noncomputable def sp2 (r1:Enc α1)(r2:Enc α2)(o:OE ρ)(f:α1->α2->Rs ρ)(K:PySem.W.Frag):Sp:=λvs H Q _=>∃ v1 v2 a1 a2 b,vs=[v1,v2]/\r1 K H v1 a1/\r2 K H v2 a2/\f a1 a2= .ok b/\FF K o Q b H
noncomputable def sp3 (r1:Enc α1)(r2:Enc α2)(r3:Enc α3)(o:OE ρ)(f:α1->α2->α3->Rs ρ)(K:PySem.W.Frag):Sp:=λvs H Q _=>∃ v1 v2 v3 a1 a2 a3 b,vs=[v1,v2,v3]/\r1 K H v1 a1/\r2 K H v2 a2/\r3 K H v3 a3/\f a1 a2 a3= .ok b/\FF K o Q b H
noncomputable def sp4 (r1:Enc α1)(r2:Enc α2)(r3:Enc α3)(r4:Enc α4)(o:OE ρ)(f:α1->α2->α3->α4->Rs ρ)(K:PySem.W.Frag):Sp:=λvs H Q _=>∃ v1 v2 v3 v4 a1 a2 a3 a4 b,vs=[v1,v2,v3,v4]/\r1 K H v1 a1/\r2 K H v2 a2/\r3 K H v3 a3/\r4 K H v4 a4/\f a1 a2 a3 a4= .ok b/\FF K o Q b H
theorem Mz {C:List Xx}{H H':Hp}(w:W OO H)(w':W [C] H')(m':Xu H (hid H' [C])):W (C::OO) H'/\Xu (hid H OO) (hid H' (C::OO))/\JR (hid H' [C]) (hid H' (C::OO)):=by
 have s:Xu H H':=m'.trans XB
 have f1:fl [C]=C.map (·.1):=by simp[fl]
 have hd:∀b,b∈fl OO->b∉C.map (·.1):=λb hb hc=>by
  obtain⟨u,hu⟩:=Bn hb
  exact(X2 (m' _ _ (w.tr _ hu))).2 (by rw[f1];exact hc)
 have w2:W (C::OO) H':=by
  refine⟨λc hc=>?_,?_,λc hc=>?_⟩
  ·rw[List.flatten_cons,List.mem_append] at hc
   rcases hc with hc |hc
   ·exact w'.tr c (by simp[hc])
   ·exact s _ _ (w.tr c hc)
  ·rw[XO]
   refine List.nodup_append.mpr ⟨by rw[←f1];exact w'.nd,w.nd,λa ha b hb e=>?_⟩
   subst e;exact hd a hb ha
  ·rw[List.flatten_cons,List.mem_append] at hc
   rcases hc with hc |hc
   ·exact w'.mu c (by simp[hc])
   ·exact w.mu c hc
 refine⟨w2,λb u q=>?_,λb u q i=>?_⟩
 ·obtain⟨q1,q2⟩:=X2 q
  obtain⟨q3,q4⟩:=X2 (m' _ _ q1)
  refine YO q3 ?_
  rw[XO,List.mem_append]
  exact λz=>z.elim (λz=>q4 (by rw[f1];exact z)) q2
 ·exact w2.i b u (X2 q).1 i
theorem K1 {o:OE α}[z:FlatO o]{Q:VK}{b:α}{H:Hp}(w:W OO H)(P:FO K OO OO o Q b H):FF K o Q b H:=λv C H' w' m' ho=>by
 obtain⟨w2,h2,h3⟩:=Mz w w' m'
 exact P v C H' (m'.trans XB) w2 h2 (z.flat h3 ho)
theorem I0 {ta:TE}{r1:Enc α1}{o:OE ρ}[FlatO o]{f:α1->Rs ρ}{ma:Rs α1}(ha:EvB K Er S OO σ ta r1 ma):Ev K Er S OO OO σ (Q0 (sp1 r1 o f K) [] E0 (Xv ta Yq)) o (ma.bind λa=>noE (f a)):=λH Q w s P=>
 ha.run w s FO.tr P λa x H1 s1 w1 q1 r1 P1=>by
  obtain⟨b,hb,P2⟩:=P1.okOf λx=>Ki
  exact⟨x,a,b,rfl,r1,U8 hb,K1 w1 P2⟩
theorem Cz {ta tb:TE}{r1:Enc α1}{r2:Enc α2}[z1:MonoE r1]{o:OE ρ}[FlatO o]{f:α1->α2->Rs ρ}{ma:Rs α1}{mb:Rs α2}(ha:EvB K Er S OO σ ta r1 ma)(hb:EvB K Er S OO σ tb r2 mb):
  Ev K Er S OO OO σ (Q0 (sp2 r1 r2 o f K) [] E0 (Xv ta (Xv tb Yq))) o (ma.bind λa=>mb.bind λb=>noE (f a b)):=λH Q w s P=>
 ha.run w s FO.tr P λa x H1 s1 w1 q1 r1 P1=>hb.run w1 q1 FO.tr P1 λb y H2 s2 w2 q2 r2 P2=>by
  obtain⟨c,hc,P3⟩:=P2.okOf λx=>Ki
  exact⟨x,y,a,b,c,rfl,z1.mono s2 r1,r2,U8 hc,K1 w2 P3⟩
theorem ID {ta tb tc:TE}{r1:Enc α1}{r2:Enc α2}{r3:Enc α3}[z1:MonoE r1][z2:MonoE r2]{o:OE ρ}[FlatO o]{f:α1->α2->α3->Rs ρ}{ma:Rs α1}{mb:Rs α2}{mc:Rs α3}(ha:EvB K Er S OO σ ta r1 ma)(hb:EvB K Er S OO σ tb r2 mb)(hc:EvB K Er S OO σ tc r3 mc):
  Ev K Er S OO OO σ (Q0 (sp3 r1 r2 r3 o f K) [] E0 (Xv ta (Xv tb (Xv tc Yq)))) o (ma.bind λa=>mb.bind λb=>mc.bind λc=>noE (f a b c)):=λH Q w s P=>
 ha.run w s FO.tr P λa x H1 s1 w1 q1 r1 P1=>hb.run w1 q1 FO.tr P1 λb y H2 s2 w2 q2 r2 P2=>hc.run w2 q2 FO.tr P2 λc z H3 s3 w3 q3 r3 P3=>by
  obtain⟨d,hd,P4⟩:=P3.okOf λx=>Ki
  exact⟨x,y,z,a,b,c,d,rfl,z1.mono (s2.trans s3) r1,z2.mono s3 r2,r3,U8 hd,K1 w3 P4⟩
theorem HW {ta tb tc td:TE}{r1:Enc α1}{r2:Enc α2}{r3:Enc α3}{r4:Enc α4}[z1:MonoE r1][z2:MonoE r2][z3:MonoE r3]{o:OE ρ}[FlatO o]{f:α1->α2->α3->α4->Rs ρ}{ma:Rs α1}{mb:Rs α2}{mc:Rs α3}{md:Rs α4}(ha:EvB K Er S OO σ ta r1 ma)(hb:EvB K Er S OO σ tb r2 mb)(hc:EvB K Er S OO σ tc r3 mc)(hd:EvB K Er S OO σ td r4 md):
  Ev K Er S OO OO σ (Q0 (sp4 r1 r2 r3 r4 o f K) [] E0 (Xv ta (Xv tb (Xv tc (Xv td Yq))))) o (ma.bind λa=>mb.bind λb=>mc.bind λc=>md.bind λd=>noE (f a b c d)):=λH Q w s P=>
 ha.run w s FO.tr P λa x H1 s1 w1 q1 r1 P1=>hb.run w1 q1 FO.tr P1 λb y H2 s2 w2 q2 r2 P2=>hc.run w2 q2 FO.tr P2 λc z H3 s3 w3 q3 r3 P3=>hd.run w3 q3 FO.tr P3 λd u H4 s4 w4 q4 r4 P4=>by
  obtain⟨e,he,P5⟩:=P4.okOf λx=>Ki
  exact⟨x,y,z,u,a,b,c,d,e,rfl,z1.mono (s2.trans (s3.trans s4)) r1,z2.mono (s3.trans s4) r2,z3.mono s4 r3,r4,U8 he,K1 w4 P5⟩
structure Jn (γ ι:Type) where
 oo:ι->List (List Xx)
 ss:ι->St
 sc:γ->ι->SC
inductive Ctl (ρ γ:Type) where
 |ret (r:ρ) |nx (g:γ)
noncomputable def FTd (K:PySem.W.Frag)(o:OE ρ)(D:Ends)(r:ρ)(h:Hp):Prop:=∀ v C OO' H',W (C::OO') H'->Xu h (hid H' (C::OO'))->o K (hid H' (C::OO')) v r C->D.rt v H'
noncomputable def FNd (J:Jn γ ι)(D:Ends)(g:γ)(h:Hp):Prop:=∀ x H',W (J.oo x) H'->Xu h (hid H' (J.oo x))->(J.sc g x).p (hid H' (J.oo x))->D.nx (J.ss x) H'
noncomputable def FCd (K:PySem.W.Frag)(o:OE ρ)(J:Jn γ ι)(D:Ends)(c:Ctl ρ γ)(h:Hp):Prop:=match c with
 | .ret r=>FTd K o D r h
 | .nx g=>FNd J D g h
class FdOk (Fd:Ends->β->Hp->Prop):Prop where
 tr:∀D b h h',Xu h h'->Fd D b h->Fd D b h'
instance {o:OE ρ}:FdOk (FTd K o):=⟨λD b h h' s q v C O H' w m x=>q v C O H' w (s.trans m) x⟩
instance {J:Jn γ ι}:FdOk (FNd J):=⟨λD b h h' s q x H' w m y=>q x H' w (s.trans m) y⟩
instance {o:OE ρ}{J:Jn γ ι}:FdOk (FCd K o J):=⟨λD b h h' s q=>by
 cases b with
 |ret r=>exact λv C O H' w m x=>q v C O H' w (s.trans m) x
 |nx g=>exact λx H' w m y=>q x H' w (s.trans m) y⟩
theorem PZ.tr {F:β->Hp->Prop}(hF:∀b H H',Xu H H'->F b H->F b H'){H H':Hp}{m:Rs β}(s:Xu H H')(P:PZ Er F H m):PZ Er F H' m:=by
 cases m with
 |bad=>exact P
 |err x=>exact λH2 s2=>P H2 (s.trans s2)
 |ok b=>exact hF b H H' s P
noncomputable def Sv (Er:Exc->Hp->Prop)(S:SC)(OO:List (List Xx))(σ:St)(t:TS)(Fd:Ends->β->Hp->Prop)(m:Rs β):Prop:=∀ H D,W OO H->S.p (hid H OO)->PZ Er (Fd D) (hid H OO) m->t D σ H
variable {Fd:Ends->β->Hp->Prop}[fd:FdOk Fd]{u:TS}
theorem Ev.st {te:TE}{o:OE α}{m:Rs α}(he:Ev K Er S OO OO' σ te o m){H:Hp}{D:Ends}{Q:VK}(w:W OO H)(s:S.p (hid H OO)){f:α->Rs β}(P:PZ Er (Fd D) (hid H OO) (m.bind f))
  (hk:∀a v C H',W (C::OO') H'->S.p (hid H' (C::OO'))->o K (hid H' (C::OO')) v a C->PZ Er (Fd D) (hid H' (C::OO')) (f a)->Q v H'):te σ H Q:=by
 refine he H Q w s ?_
 cases m with
 |bad=>exact P
 |err x=>exact λH' s'=>P H' (XB.trans s')
 |ok a=>exact λv C H' s' w' m' ho=>hk a v C H' w' (S.mono _ _ m' s) ho (PZ.tr (fd.tr D) m' P)
theorem EvB.st {te:TE}{r:Enc α}{m:Rs α}(he:EvB K Er S OO σ te r m){H:Hp}{D:Ends}{Q:VK}(w:W OO H)(s:S.p (hid H OO)){f:α->Rs β}(P:PZ Er (Fd D) (hid H OO) (m.bind f))
  (hk:∀a v H',Xu H H'->W OO H'->S.p (hid H' OO)->r K H' v a->PZ Er (Fd D) (hid H' OO) (f a)->Q v H'):te σ H Q:=by
 refine he H Q w s ?_
 cases m with
 |bad=>exact P
 |err x=>exact λH' s'=>P H' (XB.trans s')
 |ok a=>exact λv H' s' hr=>hk a v H' s' (w.keep s') (S.mono _ _ (Xk s') s) hr (PZ.tr (fd.tr D) (Xk s') P)
theorem EvS.st {te:TE}{r:Enc α}{m:Rs α}(he:EvS K Er S OO σ te r m){H:Hp}{D:Ends}{Q:VK}(w:W OO H)(s:S.p (hid H OO)){f:α->Rs β}(P:PZ Er (Fd D) (hid H OO) (m.bind f))
  (hk:∀a v H',Xu H H'->W OO H'->S.p (hid H' OO)->r K (hid H' OO) v a->PZ Er (Fd D) (hid H' OO) (f a)->Q v H'):te σ H Q:=by
 refine he H Q w s ?_
 cases m with
 |bad=>exact P
 |err x=>exact λH' s'=>P H' (XB.trans s')
 |ok a=>exact λv H' s' hr=>hk a v H' s' (w.keep s') (S.mono _ _ (Xk s') s) hr (PZ.tr (fd.tr D) (Xk s') P)
theorem EvT.st {tt:TT}{m:Rs Bool}(he:EvT Er S OO σ tt m){H:Hp}{D:Ends}{Q:Bool->Hp->Prop}(w:W OO H)(s:S.p (hid H OO)){f:Bool->Rs β}(P:PZ Er (Fd D) (hid H OO) (m.bind f))
  (hk:∀b H',W OO H'->S.p (hid H' OO)->PZ Er (Fd D) (hid H' OO) (f b)->Q b H'):tt σ H Q:=by
 refine he H Q w s ?_
 cases m with
 |bad=>exact P
 |err x=>exact λH' s'=>P H' (XB.trans s')
 |ok a=>exact λH' s'=>hk a H' (w.keep s') (S.mono _ _ (Xk s') s) (PZ.tr (fd.tr D) (Xk s') P)
theorem set_set {OO:List (List Xx)}{k:Nat}{C:List Xx}:(OO.set k C).set k []=OO.set k []:=by simp
theorem Oq {C:List Xx}{H:Hp}{k:Nat}(w:W (C::OO) H)(hk:k<OO.length):W (OO.set k C) H/\Xu (hid H (C::OO)) (hid H (OO.set k C)):=by
 have h1:=XH (OO:=OO) (k:=k) (C:=OO[k]) (by simp[hk])
 have h2:=XH (OO:=OO.set k C) (k:=k) (C:=C) (by simp[hk])
 rw[set_set] at h2
 have h3:(OO.set k C).flatten.Perm (C++(OO.set k []).flatten):=by simpa using h2.symm
 have h4:(C::OO).flatten.Perm (C++(OO[k]++(OO.set k []).flatten)):=by
  rw[List.flatten_cons];exact(by simpa using h1.symm:OO.flatten.Perm (OO[k]++(OO.set k []).flatten)).append_left C
 have h5:(C++(OO.set k []).flatten).Sublist (C++(OO[k]++(OO.set k []).flatten)):=List.Sublist.append (List.Sublist.refl _) (List.sublist_append_right _ _)
 have w1:W [C++(OO[k]++(OO.set k []).flatten)] H:=w.of (by simpa using h4.symm)
 have w2:W [C++(OO.set k []).flatten] H:=w1.sub (by simpa using h5)
 refine⟨w2.of (by simpa using h3),Zx (Xu.refl _) λb hb=>?_⟩
 obtain⟨o,ho⟩:=Bn hb
 exact Vq (h4.mem_iff.mpr (h5.mem (h3.mem_iff.mp ho)))
theorem No {te:TE}{o:OE α}[MonoO o]{m:Rs α}{f:α->Rs β}(i k:Nat)(he:Ev K Er S OO OO' σ te o m)(hk:k<OO'.length)(hr:∀a v C,Sv Er (S.addO K o v a C) (OO'.set k C) (σ.set i (some v)) u Fd (f a)):Sv Er S OO σ (YX (Dq te (Yz i)) u) Fd (m.bind f):=λH D w s P=>
 he.st w s P λa v C H' w' s' ho P'=>by
  obtain⟨w2,h2⟩:=Oq w' hk
  exact hr a v C H' D w2 ⟨S.mono _ _ h2 s',MonoO.mono h2 ho⟩ (PZ.tr (fd.tr D) h2 P')
theorem Pq {te:TE}{r:Enc α}[MonoE r]{m:Rs α}{f:α->Rs β}(i:Nat)(he:EvS K Er S OO σ te r m)(hr:∀a v,Sv Er (S.add K r v a) OO (σ.set i (some v)) u Fd (f a)):Sv Er S OO σ (YX (Dq te (Yz i)) u) Fd (m.bind f):=λH D w s P=>
 he.st w s P λa v H' s1 w' s' ho P'=>hr a v H' D w' ⟨s',ho⟩ P'
theorem Xt {te:TE}{o:OE ρ}{m:Rs ρ}(he:Ev K Er S OO OO' σ te o m):Sv Er S OO σ (YX (PJ te) u) (FTd K o) m:=λH D w s P=>
 he H _ w s (by
  cases m with
  |bad=>exact P
  |err x=>exact λH' s'=>P H' (XB.trans s')
  |ok a=>exact λv C H' s' w' m' ho=>P v C OO' H' w' m' ho)
theorem Dp {J:Jn γ ι}{t:TS}{o:OE ρ}{m:Rs γ}(h:Sv Er S OO σ t (FNd J) m):Sv Er S OO σ t (FCd K o J) (m.bind λr=>.ok (.nx r)):=λH D w s P=>h H D w s (by
 cases m with
 |bad=>exact P
 |err x=>exact P
 |ok a=>exact P)
theorem Pb {J:Jn γ ι}(x:ι)(g:γ)(h1:OO=J.oo x)(h2:σ=J.ss x)(h3:∀h,S.p h->(J.sc g x).p h):Sv Er S OO σ UP (FNd J) (.ok g):=λH D w s P=>by
 subst h1 h2
 exact P x H w (Xu.refl _) (h3 _ s)
theorem Ps {t:TS}:Sv Er S OO σ t Fd .bad:=λH D w s P=>P.elim
theorem Ye {o:OE ρ}{c:TT}{t1:TS}{mc:Rs Bool}{m1 m2:Rs ρ}(hc:EvT Er S OO σ c mc)(h1:Sv Er S OO σ t1 (FTd K o) m1)(h2:Sv Er S OO σ u (FTd K o) m2):Sv Er S OO σ (YX (NM c t1 UP) u) (FTd K o) (mc.bind λb=>if b=true then m1 else m2):=λH D w s P=>
 hc.st (Fd:=FTd K o) w s P λb H' w' s' P'=>by
  cases b with
  |true=>rw[if_pos rfl] at P'⊢;exact h1 H' _ w' s' P'
  |false=>exact h2 H' D w' s' P'
theorem VV {o:OE ρ}{J:Jn γ ι}{c:TT}{t1:TS}{mc:Rs Bool}{m1:Rs ρ}{m2:Rs (Ctl ρ γ)}(hc:EvT Er S OO σ c mc)(h1:Sv Er S OO σ t1 (FTd K o) m1)(h2:Sv Er S OO σ u (FCd K o J) m2):Sv Er S OO σ (YX (NM c t1 UP) u) (FCd K o J) (mc.bind λb=>if b=true then m1.bind (λr=>.ok (.ret r)) else m2):=λH D w s P=>
 hc.st (Fd:=FCd K o J) w s P λb H' w' s' P'=>by
  cases b with
  |true=>
   rw[if_pos rfl] at P'⊢
   refine h1 H' _ w' s' ?_
   cases m1 with
   |bad=>exact P'
   |err x=>exact P'
   |ok a=>exact P'
  |false=>exact h2 H' D w' s' P'
theorem YG {c:TT}{t1 t2:TS}{mc:Rs Bool}{m1 m2:Rs β}(hc:EvT Er S OO σ c mc)(h1:Sv Er S OO σ t1 Fd m1)(h2:Sv Er S OO σ t2 Fd m2):Sv Er S OO σ (NM c t1 t2) Fd (mc.bind λb=>if b=true then m1 else m2):=λH D w s P=>
 hc.st w s P λb H' w' s' P'=>by
  cases b with
  |true=>rw[if_pos rfl] at P'⊢;exact h1 H' _ w' s' P'
  |false=>exact h2 H' D w' s' P'
theorem Mh {J:Jn γ ι}{t:TS}{m:Rs γ}{f:γ->Rs β}(hb:Sv Er S OO σ t (FNd J) m)(hr:∀g x,Sv Er (J.sc g x) (J.oo x) (J.ss x) u Fd (f g)):Sv Er S OO σ (YX t u) Fd (m.bind f):=λH D w s P=>
 hb H _ w s (by
  cases m with
  |bad=>exact P
  |err x=>exact P
  |ok g=>exact λx H' w' m' q=>hr g x H' D w' q (PZ.tr (fd.tr D) m' P))
noncomputable def UY (f:γ->Rs ρ):Ctl ρ γ->Rs ρ
 | .ret r=>.ok r
 | .nx g=>f g
noncomputable def U7 {δ:Type}(f:γ->Rs (Ctl ρ δ)):Ctl ρ γ->Rs (Ctl ρ δ)
 | .ret r=>.ok (.ret r)
 | .nx g=>f g
theorem Sv.weak {S2:SC}{t:TS}{m:Rs β}(h:Sv Er S2 OO σ t Fd m)(hs:∀x,S.p x->S2.p x):Sv Er S OO σ t Fd m:=λH D w s P=>h H D w (hs _ s) P
theorem Ln {t:TS}{o:OE α}{r:Enc α}[z:FrzC o r][MonoE r]{v:V}{a:α}{C:List Xx}{m:Rs β}(k:Nat)(hk:OO[k]?=some C)(h:∀x,S.p x->o K x v a C)(hr:Sv Er (S.add K r v a) (OO.set k []) σ t Fd m):Sv Er S OO σ t Fd m:=λH D w s P=>by
 have hp:=XH hk
 have w1:W (C::OO.set k []) H:=w.of hp
 have hs:Xu (hid H OO) (hid H (OO.set k [])):=by
  rw[←XI hp]
  exact Zx (Xu.refl _) λb hb=>by rw[XO];simp[hb]
 refine hr H D w1.tail ⟨S.mono _ _ hs s,z.frz (h _ s) hs λc hc=>YO (w1.cell c hc) ?_⟩ (PZ.tr (fd.tr D) hs P)
 have:=w1.nd
 rw[XO] at this
 exact λhb=>(List.nodup_append.mp this).2.2 c.1 (List.mem_map.mpr ⟨c,hc,rfl⟩) c.1 hb rfl
theorem R9 {C D C':List Xx}{H:Hp}{k:Nat}{p:Addr}{o:HO}(w:W (D::OO) H)(hk:OO[k]?=some C)(hp:p∈C.map (·.1))(hC:(C'.map (·.1)).Perm ((C++D).map (·.1)))(ht:∀c∈C',upd H p o c.1=some c.2)(hm:∀c∈C',N7 c.2=true):
  W (OO.set k C') (upd H p o)/\hid (upd H p o) (OO.set k C')=hid H (D::OO):=by
 have hlt:k<OO.length:=by
  rcases Nat.lt_or_ge k OO.length with h |h
  ·exact h
  ·rw[List.getElem?_eq_none h] at hk;cases hk
 have h1:=XH hk
 have h2:=XH (OO:=OO.set k C') (k:=k) (C:=C') (by simp[hlt])
 rw[set_set] at h2
 have h3:(OO.set k C').flatten.Perm (C'++(OO.set k []).flatten):=by simpa using h2.symm
 have h4:(D::OO).flatten.Perm (D++(C++(OO.set k []).flatten)):=by
  rw[List.flatten_cons];exact(by simpa using h1.symm:OO.flatten.Perm (C++(OO.set k []).flatten)).append_left D
 have hfl:(fl (OO.set k C')).Perm (fl (D::OO)):=by
  unfold fl
  refine(h3.map _).trans (List.Perm.trans ?_ (h4.map _).symm)
  simp only[List.map_append]
  refine(hC.append_right _).trans ?_
  simp only[List.map_append]
  rw[←List.append_assoc]
  exact List.perm_append_comm.append_right _
 have nd:=w.nd
 refine⟨⟨λc hc=>?_,hfl.nodup_iff.mpr nd,λc hc=>?_⟩,?_⟩
 ·rcases List.mem_append.mp (h3.mem_iff.mp hc) with hc |hc
  ·exact ht c hc
  ·have hne:c.1≠p:=λe=>by
    have nd2:((D++(C++(OO.set k []).flatten)).map (·.1)).Nodup:=(h4.map _).nodup_iff.mp nd
    simp only[List.map_append] at nd2
    have nd3:=(List.nodup_append.mp nd2).2.1
    exact(List.nodup_append.mp nd3).2.2 p hp c.1 (List.mem_map.mpr ⟨c,hc,rfl⟩) e.symm
   rw[XT hne]
   exact w.tr c (h4.mem_iff.mpr (by simp[hc]))
 ·rcases List.mem_append.mp (h3.mem_iff.mp hc) with hc |hc
  ·exact hm c hc
  ·exact w.mu c (h4.mem_iff.mpr (by simp[hc]))
 ·funext b
  unfold hid
  by_cases hb:b∈fl (D::OO)
  ·rw[if_pos hb,if_pos (hfl.mem_iff.mpr hb)]
  ·rw[if_neg hb,if_neg λz=>hb (hfl.mem_iff.mp z)]
   refine XT λe=>hb ?_
   rw[e]
   obtain⟨c,hc,rfl⟩:=List.mem_map.mp hp
   exact Vq (h4.mem_iff.mpr (by simp[hc]))
theorem Yy {Cs:List (List Xx)}{D:List Xx}:(Cs++[D]).flatten=Cs.flatten++D:=by simp
theorem OD {ta:TE}{o:OE α}[MonoO o]{m:Rs α}{f:List α->Rs β}{v:V}{as:List α}{C:List Xx}(i k:Nat)(hσ:σ[i]?=some (some v))(hk:OO[k]?=some C)(hk':OO'[k]?=some C)(h:∀x,S.p x->oL o K x v as C)(he:Ev K Er S OO OO' σ ta o m)
  (hr:∀a C',Sv Er (S.addO K (oL o) v (as++[a]) C') (OO'.set k C') σ u Fd (f (as++[a]))):Sv Er S OO σ (YX (Jv (tBM K "list" Qd (Qb i) (Xv ta Yq))) u) Fd (m.bind λa=>chk (as.length<sizeLine) (f (as++[a]))):=λH D w s P=>by
 obtain⟨p,xs,Cs,e,q,c⟩:=h _ s
 subst c
 have hH:H p=some (.lst xs):=w.tr (p, .lst xs) (List.mem_flatten.mpr ⟨_,List.mem_of_getElem? hk,List.mem_cons_self⟩)
 refine⟨v,hσ,by rw[e];exact .inl ⟨rfl,_,SqL.of hH⟩,he.st w s P λa y D' H' w' s' ho P'=>?_⟩
 obtain⟨p',xs',Cs',e2,q2,c2⟩:=h _ s'
 rw[e] at e2;cases e2
 have c3:(p,HO.lst xs)=(p,HO.lst xs')/\Cs.flatten=Cs'.flatten:=by
  injection c2 with h1 h2
  exact⟨h1,h2⟩
 obtain⟨c3,c4⟩:=c3
 cases c3
 have hH':H' p=some (.lst xs):=w'.tr (p, .lst xs) (by rw[List.flatten_cons];exact List.mem_append_right _ (List.mem_flatten.mpr ⟨_,List.mem_of_getElem? hk',List.mem_cons_self⟩))
 cases hlt:decide (as.length<sizeLine) with
 |false=>rw[chk,if_neg (by simpa using hlt)] at P';exact P'.elim
 |true=>
  have hlt':as.length<sizeLine:=by simpa using hlt
  rw[Xp hlt'] at P'
  have wnd:=w'.nd
  have hcell:∀c∈(p,HO.lst (xs++[y]))::(Cs'++[D']).flatten,upd H' p (.lst (xs++[y])) c.1=some c.2:=λc hc=>by
   rcases List.mem_cons.mp hc with rfl |hc
   ·exact X9
   ·have hp1:=XH hk'
    have w3:W [D'++(((p,HO.lst xs)::Cs.flatten)++(OO'.set k []).flatten)] H':=w'.of (by
     simp only[List.flatten_cons,List.flatten_nil,List.append_nil]
     exact(by simpa using hp1:(((p,HO.lst xs)::Cs.flatten)++(OO'.set k []).flatten).Perm OO'.flatten).append_left D')
    have hin:c∈D'++(((p,HO.lst xs)::Cs.flatten)++(OO'.set k []).flatten):=by
     rw[Yy,List.mem_append] at hc
     rcases hc with hc |hc
     ·rw[←c4] at hc;simp[hc]
     ·simp[hc]
    have hne:c.1≠p:=λee=>by
     have nd3:=w3.nd
     rw[Yy,List.mem_append, ←c4] at hc
     simp only[fl,List.flatten_cons,List.flatten_nil,List.append_nil,List.map_append,List.cons_append,List.map_cons] at nd3
     rw[List.nodup_append] at nd3
     obtain⟨_,n2,n3⟩:=nd3
     rcases hc with hc |hc
     ·exact(List.nodup_cons.mp n2).1 (List.mem_append_left _ (List.mem_map.mpr ⟨c,hc,ee⟩))
     ·exact n3 c.1 (List.mem_map.mpr ⟨c,hc,rfl⟩) p List.mem_cons_self ee
    rw[XT hne]
    exact w3.tr c (by simpa using hin)
  obtain⟨w4,h4⟩:=R9 (C':=(p, .lst (xs++[y]))::(Cs'++[D']).flatten) w' hk' List.mem_cons_self (by simp[Yy,c4]) hcell (λc hc=>by
   rcases List.mem_cons.mp hc with rfl |hc
   ·rfl
   ·rw[Yy,List.mem_append, ←c4] at hc
    rcases hc with hc |hc
    ·exact w'.mu c (by rw[List.flatten_cons];exact List.mem_append_right _ (List.mem_flatten.mpr ⟨_,List.mem_of_getElem? hk',List.mem_cons_of_mem _ hc⟩))
    ·exact w'.mu c (by rw[List.flatten_cons];exact List.mem_append_left _ hc))
  refine⟨p,xs,y,e,rfl,hH',by rw[(P3.len q).1];exact hlt',?_⟩
  refine hr a _ _ D w4 ?_ (by rw[h4];exact P')
  rw[h4]
  exact⟨s',⟨p,xs++[y],Cs'++[D'],e,q2.snoc ho,rfl⟩⟩
end
section
variable {K:PySem.W.Frag}{Er:Exc->Hp->Prop}{S:SC}{OO OO' OO2:List (List Xx)}{σ:St}{α β γ ρ ι δ ε:Type}
variable {Fd:Ends->β->Hp->Prop}[fd:FdOk Fd]{u:TS}
noncomputable def forN:List α->γ->(γ->α->Rs γ)->Rs γ
 | [],g,_=>.ok g
 |a::as,g,f=>(f g a).bind λg'=>forN as g' f
noncomputable def forC:List α->γ->(γ->α->Rs (Ctl ρ γ))->Rs (Ctl ρ γ)
 | [],g,_=>.ok (.nx g)
 |a::as,g,f=>(f g a).bind λc=>match c with
  | .ret r=>.ok (.ret r)
  | .nx g'=>forC as g' f
theorem Yh {m:Rs α}{f:α->Rs β}{g:β->Rs γ}:(m.bind f).bind g=m.bind λa=>(f a).bind g:=by cases m<;> rfl
structure Tgt (K:PySem.W.Frag)(OO:List (List Xx))(g:TG)(r:Enc α)(κ:Type) where
 set:κ->St->St
 sc:α->κ->SC->SC
 ok:∀{H:Hp}{v:V}{a:α}{σ:St}{S:SC}{Q:St->Hp->Prop},r K (hid H OO) v a->S.p (hid H OO)->(∀x,(sc a x S).p (hid H OO)->Q (set x σ) H)->g v σ H Q
@[reducible] noncomputable def tg1 {r:Enc α}[MonoE r](i:Nat):Tgt K OO (Yz i) r V where
 set:=λv σ=>σ.set i (some v)
 sc:=λa v S=>S.add K r v a
 ok:=fun {H v a σ S Q} hr hs hq=>hq v ⟨hs,hr⟩
@[reducible] noncomputable def tg2 {r:Enc α}{q:Enc β}[MonoE r][MonoE q](i j:Nat):Tgt K OO (Li K 2 (ZS (Yz i) (ZS (Yz j) NL))) (rP2 r q) (V×V) where
 set:=λv σ=>(σ.set i (some v.1)).set j (some v.2)
 sc:=λa v S=>(S.add K r v.1 a.1).add K q v.2 a.2
 ok:=fun {H v a σ S Q} r9 hs hq=>by obtain⟨p,x,y,e,h,h1,h2⟩:=r9;exact⟨p,_,e,SqT.of (XB _ _ h),rfl,x,[y],rfl,y,[],rfl,rfl,hq (x,y) ⟨⟨hs,h1⟩,h2⟩⟩
@[reducible] noncomputable def tg3 {r:Enc α}{q:Enc β}{t:Enc γ}[MonoE r][MonoE q][MonoE t](i j k:Nat):Tgt K OO (Li K 3 (ZS (Yz i) (ZS (Yz j) (ZS (Yz k) NL)))) (rP3 r q t) (V×V×V) where
 set:=λv σ=>((σ.set i (some v.1)).set j (some v.2.1)).set k (some v.2.2)
 sc:=λa v S=>((S.add K r v.1 a.1).add K q v.2.1 a.2.1).add K t v.2.2 a.2.2
 ok:=fun {H v a σ S Q} r9 hs hq=>by obtain⟨p,x,y,z,e,h,h1,h2,h3⟩:=r9;exact⟨p,_,e,SqT.of (XB _ _ h),rfl,x,[y,z],rfl,y,[z],rfl,z,[],rfl,rfl,hq (x,y,z) ⟨⟨⟨hs,h1⟩,h2⟩,h3⟩⟩
structure Walk (K:PySem.W.Frag)(Er:Exc->Hp->Prop)(S:SC)(OO:List (List Xx))(σ:St)(wi:TI)(r:Enc α)(m:Rs (List α)):Prop where
 ok:∀{H:Hp}{R:It->Hp->Prop},W OO H->S.p (hid H OO)->PZ Er (λas H=>∀ J H',Xu H H'->
   (∀(i:Nat) a,as[i]?=some a->∀OO2 H2,W OO2 H2->Xu (hid H' OO) (hid H2 OO2)->J.go i H2/\∀x H3,J.yld i H2 x H3->Xu H2 H3/\r K (hid H3 OO2) x a)->
   (∀OO2 H2,W OO2 H2->Xu (hid H' OO) (hid H2 OO2)->J.stop as.length H2)->R J H') H m->wi σ H R
theorem Ze {te:TE}{r:Enc α}[z:MonoE r]{m:Rs (List α)}(he:EvS K Er S OO σ te (rV r) m):Walk K Er S OO σ (Gz K te) r m:=⟨fun {H R} w s P=>by
 refine he H _ w s (P.imp λas _ h v H' s' ⟨p,xs,e,hp,pr⟩=>⟨p,e,⟨xs,SqL.of (XB _ _ hp)⟩,h _ H' s' ?_ ?_⟩)
 ·intro i a ha OO2 H2 w2 m2
  obtain⟨x,hx,rx⟩:=Paired.getR pr ha
  have hq:SqL K H2 p xs:=SqL.of (XB _ _ (m2 _ _ hp))
  refine⟨⟨xs,x,hq,hx⟩,λy H3 r9=>?_⟩
  obtain⟨e3,hy⟩:=r9
  subst e3
  refine⟨Xu.refl _,?_⟩
  have:=hy xs hq
  rw[hx] at this
  cases this
  exact z.mono m2 rx
 ·intro OO2 H2 w2 m2
  exact⟨xs,SqL.of (XB _ _ (m2 _ _ hp)),by rw[Paired.len pr];exact Nat.le_refl _⟩⟩
theorem Dt {te:TE}{r:Enc α}[z:MonoE r]{m:Rs (List α)}(he:EvS K Er S OO σ te (rPL r) m):Walk K Er S OO σ (PU K te) r m:=⟨fun {H R} w s P=>by
 refine he H _ w s (P.imp λas _ h v H' s' ⟨p,xs,e,hp,pr⟩=>⟨p,e,⟨xs,SqT.of (XB _ _ hp)⟩,h _ H' s' ?_ ?_⟩)
 ·intro i a ha OO2 H2 w2 m2
  obtain⟨x,hx,rx⟩:=Paired.getR pr ha
  have hq:SqT K H2 p xs:=SqT.of (XB _ _ (m2 _ _ hp))
  refine⟨⟨xs,x,hq,hx⟩,λy H3 r9=>?_⟩
  obtain⟨e3,hy⟩:=r9
  subst e3
  refine⟨Xu.refl _,?_⟩
  have:=hy xs hq
  rw[hx] at this
  cases this
  exact z.mono m2 rx
 ·intro OO2 H2 w2 m2
  exact⟨xs,SqT.of (XB _ _ (m2 _ _ hp)),by rw[Paired.len pr];exact Nat.le_refl _⟩⟩
theorem Kg {lo hi:Int}{i:Nat}{a:Int}(h:(Jo lo hi)[i]?=some a):a=lo+i/\i<(hi-lo).toNat:=by
 unfold Jo at h
 rw[List.getElem?_map] at h
 rcases Nat.lt_or_ge i (hi-lo).toNat with q |q
 ·rw[List.getElem?_range q] at h;exact⟨(Option.some.inj h).symm,q⟩
 ·rw[List.getElem?_eq_none (by simpa using q)] at h;cases h
theorem Ko {lo hi:Int}:(Jo lo hi).length=(hi-lo).toNat:=by simp[Jo]
noncomputable def Mu (lo hi:Int):Rs (List Int):=chk (-(2^62)<=lo/\lo<2^62/\ -(2^62)<=hi/\hi<2^62) (.ok (Jo lo hi))
theorem Dh {te:TE}{m:Rs Int}(he:EvB K Er S OO σ te Xe m):Walk K Er S OO σ (MN (Xv te Yq)) Xe (m.bind λn=>Mu 0 n):=⟨fun {H R} w s P=>
 he.run w s (λas H H' s' h J H2 s2=>h J H2 (s'.trans s2)) P λn v H1 s1 w1 q1 r1 P1=>by
  obtain⟨c,hc,P2⟩:=P1.okOf λx=>Qg
  obtain⟨⟨_,_,h1,h2⟩,h3⟩:=Y8 hc
  cases h3
  refine⟨n,by rw[show v= .int n from r1],h1,h2,P2 _ H1 (Xu.refl _) (λi a ha OO2 H2 w2 m2=>?_) λOO2 H2 w2 m2=>?_⟩
  ·obtain⟨e1,e2⟩:=Kg ha
   rw[Int.sub_zero] at e2
   refine⟨e2,λx H3 r9=>?_⟩
   obtain⟨e3,e4⟩:=r9
   subst e3
   exact⟨Xu.refl _,by rw[e4,e1];rfl⟩
  ·show n.toNat<=_
   rw[Ko,Int.sub_zero];exact Nat.le_refl _⟩
theorem Dd {ta tb:TE}{ma mb:Rs Int}(ha:EvB K Er S OO σ ta Xe ma)(hb:EvB K Er S OO σ tb Xe mb):Walk K Er S OO σ (ON (Xv ta (Xv tb Yq))) Xe (ma.bind λlo=>mb.bind λn=>Mu lo n):=⟨fun {H R} w s P=>
 ha.run w s (λas H H' s' h J H2 s2=>h J H2 (s'.trans s2)) P λlo v H1 s1 w1 q1 r1 P1=>hb.run w1 q1 (λas H H' s' h J H2 s2=>h J H2 (s'.trans s2)) P1 λn v2 H2 s2 w2 q2 r2 P2'=>by
  obtain⟨c,hc,P2⟩:=P2'.okOf λx=>Qg
  obtain⟨h1,h3⟩:=Y8 hc
  cases h3
  refine⟨lo,n,by rw[show v= .int lo from r1,show v2= .int n from r2],h1,P2 _ H2 (Xu.refl _) (λi a ha OO2 H3 w3 m3=>?_) λOO2 H3 w3 m3=>?_⟩
  ·obtain⟨e1,e2⟩:=Kg ha
   refine⟨e2,λx H4 r9=>?_⟩
   obtain⟨e3,e4⟩:=r9
   subst e3
   exact⟨Xu.refl _,by rw[e4,e1];rfl⟩
  ·show(n-lo).toNat<=_
   rw[Ko];exact Nat.le_refl _⟩
theorem OV {wi:TI}{g:TG}{tb:TS}{r:Enc α}{κ:Type}{m:Rs (List α)}{body:γ->α->Rs γ}{f:γ->Rs β}(J:Jn γ ι)(T:∀OO,Tgt K OO g r κ)(x0:ι)(g0:γ)(he:Walk K Er S OO σ wi r m)(h1:OO=J.oo x0)(h2:σ=J.ss x0)(h3:∀h,S.p h->(J.sc g0 x0).p h)
  (hb:∀g x a v,Sv Er ((T (J.oo x)).sc a v (J.sc g x)) (J.oo x) ((T (J.oo x)).set v (J.ss x)) tb (FNd J) (body g a))
  (hr:∀g x,Sv Er (J.sc g x) (J.oo x) (J.ss x) u Fd (f g)):Sv Er S OO σ (YX (By wi g tb) u) Fd (m.bind λas=>(forN as g0 body).bind f):=λH D w s P=>by
 refine he.ok w s ?_
 cases em:m with
 |bad=>rw[em] at P;exact P
 |err x=>rw[em] at P;exact λH' s'=>P H' (XB.trans s')
 |ok as=>
  rw[em] at P
  have P:PZ Er (Fd D) (hid H OO) ((forN as g0 body).bind f):=P
  intro It H' s' hgo hstop
  refine⟨λi mm σ' H2=>mm=as.length-i/\i<=as.length/\∃x gg,σ'=J.ss x/\W (J.oo x) H2/\Xu (hid H' OO) (hid H2 (J.oo x))/\(J.sc gg x).p (hid H2 (J.oo x))/\PZ Er (Fd D) (hid H2 (J.oo x)) ((forN (as.drop i) gg body).bind f),⟨as.length,rfl,Nat.zero_le _,x0,g0,h2,?_,?_,?_,?_⟩,?_⟩
  ·rw[←h1];exact w.keep s'
  ·rw[←h1];exact Xu.refl _
  ·rw[←h1];exact h3 _ (S.mono _ _ (Xk s') s)
  ·rw[←h1,List.drop_zero];exact PZ.tr (fd.tr D) (Xk s') P
  ·rintro i mm σ' H2 ⟨rfl,hi,x,gg,rfl,w2,m2,sc2,P2⟩
   by_cases hlt:i<as.length
   ·right
    have ha:as[i]?=some as[i]:=by simp[hlt]
    obtain⟨h4,h5⟩:=hgo i _ ha (J.oo x) H2 w2 m2
    refine⟨h4,λσ3 H3=>∃ x gg,σ3=J.ss x/\W (J.oo x) H3/\Xu (hid H' OO) (hid H3 (J.oo x))/\(J.sc gg x).p (hid H3 (J.oo x))/\PZ Er (Fd D) (hid H3 (J.oo x)) ((forN (as.drop (i+1)) gg body).bind f),λσ3 H3 q=>⟨as.length-(i+1),Nat.sub_lt_sub_left hlt (Nat.lt_succ_self i),rfl,hlt,q⟩,λy H3 hy=>?_⟩
    obtain⟨s3,r3⟩:=h5 y H3 hy
    have w3:=w2.keep s3
    have m3:=Xk (OO:=J.oo x) s3
    refine(T (J.oo x)).ok r3 ((J.sc gg x).mono _ _ m3 sc2) λv hv=>hb gg x as[i] v H3 _ w3 hv ?_
    rw[List.drop_eq_getElem_cons hlt] at P2
    have P3:PZ Er (Fd D) (hid H2 (J.oo x)) ((body gg as[i]).bind λg'=>(forN (as.drop (i+1)) g' body).bind f):=by rw[←Yh];exact P2
    cases eb:body gg as[i] with
    |bad=>rw[eb] at P3;exact P3
    |err x=>rw[eb] at P3;exact λH4 s4=>P3 H4 (m3.trans s4)
    |ok g'=>
     rw[eb] at P3
     exact λx' H4 w4 m4 sc4=>⟨x',g',rfl,w4,m2.trans (m3.trans m4),sc4,PZ.tr (fd.tr D) (m3.trans m4) P3⟩
   ·left
    have e:i=as.length:=Nat.le_antisymm hi (Nat.not_lt.mp hlt)
    subst e
    refine⟨hstop (J.oo x) H2 w2 m2,hr gg x H2 D w2 sc2 ?_⟩
    rw[List.drop_length] at P2
    exact P2
theorem L8 {o:OE ρ}{wi:TI}{g:TG}{tb:TS}{r:Enc α}{κ:Type}{m:Rs (List α)}{body:γ->α->Rs (Ctl ρ γ)}{f:γ->Rs ρ}(J:Jn γ ι)(T:∀OO,Tgt K OO g r κ)(x0:ι)(g0:γ)(he:Walk K Er S OO σ wi r m)(h1:OO=J.oo x0)(h2:σ=J.ss x0)(h3:∀h,S.p h->(J.sc g0 x0).p h)
  (hb:∀g x a v,Sv Er ((T (J.oo x)).sc a v (J.sc g x)) (J.oo x) ((T (J.oo x)).set v (J.ss x)) tb (FCd K o J) (body g a))
  (hr:∀g x,Sv Er (J.sc g x) (J.oo x) (J.ss x) u (FTd K o) (f g)):Sv Er S OO σ (YX (By wi g tb) u) (FTd K o) (m.bind λas=>(forC as g0 body).bind (UY f)):=λH D w s P=>by
 refine he.ok w s ?_
 cases em:m with
 |bad=>rw[em] at P;exact P
 |err x=>rw[em] at P;exact λH' s'=>P H' (XB.trans s')
 |ok as=>
  rw[em] at P
  have P:PZ Er (FTd K o D) (hid H OO) ((forC as g0 body).bind (UY f)):=P
  intro It H' s' hgo hstop
  refine⟨λi mm σ' H2=>mm=as.length-i/\i<=as.length/\∃x gg,σ'=J.ss x/\W (J.oo x) H2/\Xu (hid H' OO) (hid H2 (J.oo x))/\(J.sc gg x).p (hid H2 (J.oo x))/\PZ Er (FTd K o D) (hid H2 (J.oo x)) ((forC (as.drop i) gg body).bind (UY f)),⟨as.length,rfl,Nat.zero_le _,x0,g0,h2,?_,?_,?_,?_⟩,?_⟩
  ·rw[←h1];exact w.keep s'
  ·rw[←h1];exact Xu.refl _
  ·rw[←h1];exact h3 _ (S.mono _ _ (Xk s') s)
  ·rw[←h1,List.drop_zero];exact PZ.tr (FdOk.tr D) (Xk s') P
  ·rintro i mm σ' H2 ⟨rfl,hi,x,gg,rfl,w2,m2,sc2,P2⟩
   by_cases hlt:i<as.length
   ·right
    have ha:as[i]?=some as[i]:=by simp[hlt]
    obtain⟨h4,h5⟩:=hgo i _ ha (J.oo x) H2 w2 m2
    refine⟨h4,λσ3 H3=>∃ x gg,σ3=J.ss x/\W (J.oo x) H3/\Xu (hid H' OO) (hid H3 (J.oo x))/\(J.sc gg x).p (hid H3 (J.oo x))/\PZ Er (FTd K o D) (hid H3 (J.oo x)) ((forC (as.drop (i+1)) gg body).bind (UY f)),λσ3 H3 q=>⟨as.length-(i+1),Nat.sub_lt_sub_left hlt (Nat.lt_succ_self i),rfl,hlt,q⟩,λy H3 hy=>?_⟩
    obtain⟨s3,r3⟩:=h5 y H3 hy
    have w3:=w2.keep s3
    have m3:=Xk (OO:=J.oo x) s3
    refine(T (J.oo x)).ok r3 ((J.sc gg x).mono _ _ m3 sc2) λv hv=>hb gg x as[i] v H3 _ w3 hv ?_
    rw[List.drop_eq_getElem_cons hlt] at P2
    have P3:PZ Er (FTd K o D) (hid H2 (J.oo x)) ((body gg as[i]).bind λc=>(match c with
     | .ret r=>Rs.ok (Ctl.ret r)
     | .nx g'=>forC (as.drop (i+1)) g' body).bind (UY f)):=by rw[←Yh];exact P2
    cases eb:body gg as[i] with
    |bad=>rw[eb] at P3;exact P3
    |err x=>rw[eb] at P3;exact λH4 s4=>P3 H4 (m3.trans s4)
    |ok c=>
     rw[eb] at P3
     cases c with
     |ret r=>exact FdOk.tr (Fd:=FTd K o) D r _ _ m3 P3
     |nx g'=>exact λx' H4 w4 m4 sc4=>⟨x',g',rfl,w4,m2.trans (m3.trans m4),sc4,PZ.tr (FdOk.tr D) (m3.trans m4) P3⟩
   ·left
    have e:i=as.length:=Nat.le_antisymm hi (Nat.not_lt.mp hlt)
    subst e
    refine⟨hstop (J.oo x) H2 w2 m2,hr gg x H2 D w2 sc2 ?_⟩
    rw[List.drop_length] at P2
    exact P2
theorem Iv {κ2:Type}{o:OE ρ}{J2:Jn δ κ2}{wi:TI}{g:TG}{tb:TS}{r:Enc α}{κ:Type}{m:Rs (List α)}{body:γ->α->Rs (Ctl ρ γ)}{f:γ->Rs (Ctl ρ δ)}(J:Jn γ ι)(T:∀OO,Tgt K OO g r κ)(x0:ι)(g0:γ)(he:Walk K Er S OO σ wi r m)(h1:OO=J.oo x0)(h2:σ=J.ss x0)(h3:∀h,S.p h->(J.sc g0 x0).p h)
  (hb:∀g x a v,Sv Er ((T (J.oo x)).sc a v (J.sc g x)) (J.oo x) ((T (J.oo x)).set v (J.ss x)) tb (FCd K o J) (body g a))
  (hr:∀g x,Sv Er (J.sc g x) (J.oo x) (J.ss x) u (FCd K o J2) (f g)):Sv Er S OO σ (YX (By wi g tb) u) (FCd K o J2) (m.bind λas=>(forC as g0 body).bind (U7 f)):=λH D w s P=>by
 refine he.ok w s ?_
 cases em:m with
 |bad=>rw[em] at P;exact P
 |err x=>rw[em] at P;exact λH' s'=>P H' (XB.trans s')
 |ok as=>
  rw[em] at P
  have P:PZ Er (FCd K o J2 D) (hid H OO) ((forC as g0 body).bind (U7 f)):=P
  intro It H' s' hgo hstop
  refine⟨λi mm σ' H2=>mm=as.length-i/\i<=as.length/\∃x gg,σ'=J.ss x/\W (J.oo x) H2/\Xu (hid H' OO) (hid H2 (J.oo x))/\(J.sc gg x).p (hid H2 (J.oo x))/\PZ Er (FCd K o J2 D) (hid H2 (J.oo x)) ((forC (as.drop i) gg body).bind (U7 f)),⟨as.length,rfl,Nat.zero_le _,x0,g0,h2,?_,?_,?_,?_⟩,?_⟩
  ·rw[←h1];exact w.keep s'
  ·rw[←h1];exact Xu.refl _
  ·rw[←h1];exact h3 _ (S.mono _ _ (Xk s') s)
  ·rw[←h1,List.drop_zero];exact PZ.tr (FdOk.tr D) (Xk s') P
  ·rintro i mm σ' H2 ⟨rfl,hi,x,gg,rfl,w2,m2,sc2,P2⟩
   by_cases hlt:i<as.length
   ·right
    have ha:as[i]?=some as[i]:=by simp[hlt]
    obtain⟨h4,h5⟩:=hgo i _ ha (J.oo x) H2 w2 m2
    refine⟨h4,λσ3 H3=>∃ x gg,σ3=J.ss x/\W (J.oo x) H3/\Xu (hid H' OO) (hid H3 (J.oo x))/\(J.sc gg x).p (hid H3 (J.oo x))/\PZ Er (FCd K o J2 D) (hid H3 (J.oo x)) ((forC (as.drop (i+1)) gg body).bind (U7 f)),λσ3 H3 q=>⟨as.length-(i+1),Nat.sub_lt_sub_left hlt (Nat.lt_succ_self i),rfl,hlt,q⟩,λy H3 hy=>?_⟩
    obtain⟨s3,r3⟩:=h5 y H3 hy
    have w3:=w2.keep s3
    have m3:=Xk (OO:=J.oo x) s3
    refine(T (J.oo x)).ok r3 ((J.sc gg x).mono _ _ m3 sc2) λv hv=>hb gg x as[i] v H3 _ w3 hv ?_
    rw[List.drop_eq_getElem_cons hlt] at P2
    have P3:PZ Er (FCd K o J2 D) (hid H2 (J.oo x)) ((body gg as[i]).bind λc=>(match c with
     | .ret r=>Rs.ok (Ctl.ret r)
     | .nx g'=>forC (as.drop (i+1)) g' body).bind (U7 f)):=by rw[←Yh];exact P2
    cases eb:body gg as[i] with
    |bad=>rw[eb] at P3;exact P3
    |err x=>rw[eb] at P3;exact λH4 s4=>P3 H4 (m3.trans s4)
    |ok c=>
     rw[eb] at P3
     cases c with
     |ret r=>exact FdOk.tr (Fd:=FTd K o) D r _ _ m3 P3
     |nx g'=>exact λx' H4 w4 m4 sc4=>⟨x',g',rfl,w4,m2.trans (m3.trans m4),sc4,PZ.tr (FdOk.tr D) (m3.trans m4) P3⟩
   ·left
    have e:i=as.length:=Nat.le_antisymm hi (Nat.not_lt.mp hlt)
    subst e
    refine⟨hstop (J.oo x) H2 w2 m2,hr gg x H2 D w2 sc2 ?_⟩
    rw[List.drop_length] at P2
    exact P2
noncomputable def V9:Nat->γ->(γ->Rs Bool)->(γ->Rs γ)->Rs γ
 |0,_,_,_=>.bad
 |n+1,g,c,f=>(c g).bind λb=>if b=true then(f g).bind λg'=>V9 n g' c f else .ok g
theorem HY {c:TT}{tb:TS}{mc:γ->Rs Bool}{body:γ->Rs γ}{f:γ->Rs β}(J:Jn γ ι)(n:Nat)(x0:ι)(g0:γ)(h1:OO=J.oo x0)(h2:σ=J.ss x0)(h3:∀h,S.p h->(J.sc g0 x0).p h)
  (hc:∀g x,EvT Er (J.sc g x) (J.oo x) (J.ss x) c (mc g))(hb:∀g x,Sv Er (J.sc g x) (J.oo x) (J.ss x) tb (FNd J) (body g))
  (hr:∀g x,Sv Er (J.sc g x) (J.oo x) (J.ss x) u Fd (f g)):Sv Er S OO σ (YX (HB c tb) u) Fd ((V9 n g0 mc body).bind f):=λH D w s P=>by
 refine⟨λmm σ' H2=>∃ x gg,σ'=J.ss x/\W (J.oo x) H2/\(J.sc gg x).p (hid H2 (J.oo x))/\PZ Er (Fd D) (hid H2 (J.oo x)) ((V9 mm gg mc body).bind f),⟨n,x0,g0,h2,by rw[←h1];exact w,by rw[←h1];exact h3 _ s,by rw[←h1];exact P⟩,?_⟩
 rintro mm σ' H2 ⟨x,gg,rfl,w2,sc2,P2⟩
 cases mm with
 |zero=>exact P2.elim
 |succ mm=>
  have P3:PZ Er (Fd D) (hid H2 (J.oo x)) ((mc gg).bind λb=>(if b=true then(body gg).bind λg'=>V9 mm g' mc body else .ok gg).bind f):=by rw[←Yh];exact P2
  refine(hc gg x).st w2 sc2 P3 λb H3 w3 sc3 P4=>?_
  cases b with
  |false=>exact hr gg x H3 D w3 sc3 P4
  |true=>
   rw[if_pos rfl] at P4⊢
   refine⟨λσ3 H4=>∃ x gg,σ3=J.ss x/\W (J.oo x) H4/\(J.sc gg x).p (hid H4 (J.oo x))/\PZ Er (Fd D) (hid H4 (J.oo x)) ((V9 mm gg mc body).bind f),λσ3 H4 q=>⟨mm,Nat.lt_succ_self _,q⟩,hb gg x H3 _ w3 sc3 ?_⟩
   rw[Yh] at P4
   cases eb:body gg with
   |bad=>rw[eb] at P4;exact P4
   |err x=>rw[eb] at P4;exact P4
   |ok g'=>
    rw[eb] at P4
    exact λx' H5 w5 m5 sc5=>⟨x',g',rfl,w5,sc5,PZ.tr (fd.tr D) m5 P4⟩
noncomputable def Bq (as:List α)(f:α->Rs β):Rs (List β):=match as with
 | []=>.ok []
 |a::as=>(f a).bind λb=>(Bq as f).bind λbs=>.ok (b::bs)
noncomputable def P8 (as:List α)(f:α->Rs β):Rs (List β):=chk (as.length<=sizeLine) (Bq as f)
noncomputable def DM (as:List α)(c:α->Rs Bool)(f:α->Rs β):Rs (List β):=match as with
 | []=>.ok []
 |a::as=>(c a).bind λb=>if b=true then(f a).bind λb=>(DM as c f).bind λbs=>.ok (b::bs) else DM as c f
noncomputable def P9 (as:List α)(c:α->Rs Bool)(f:α->Rs β):Rs (List β):=chk (as.length<=sizeLine) (DM as c f)
theorem PZ.chk {F:β->Hp->Prop}{H:Hp}{c:Prop}[Decidable c]{m:Rs β}(P:PZ Er F H (chk c m)):c/\PZ Er F H m:=by
 unfold L2.chk at P;split at P
 ·exact⟨by assumption,P⟩
 ·exact P.elim
theorem OT {o:OE α}[z:MonoO o]{xs:List V}{as:List α}{Cs:List (List Xx)}{H H0:Hp}{Q:VK}(w:W (Cs.flatten::OO) H)(m0:Xu (hid H0 OO) (hid H (Cs.flatten::OO)))(s0:Xu H0 H)(pr:P3 (o K (hid H (Cs.flatten::OO))) xs as Cs)(P:FO K OO OO (oL o) Q as H0):∀p,H p=none->Q (.ref p) (upd H p (.lst xs)):=λp hp=>by
 have hn:=JX (OO:=Cs.flatten::OO) hp (o:=.lst xs)
 have wn:=w.new hp (o:=.lst xs) rfl
 have pe:(((p,HO.lst xs)::Cs.flatten)::OO).flatten.Perm ([(p,HO.lst xs)]::Cs.flatten::OO).flatten:=by simp
 refine P (.ref p) ((p, .lst xs)::Cs.flatten) _ (s0.trans (XQ hp _)) (wn.of pe) ?_ ?_
 ·rw[XI pe];exact m0.trans hn
 ·rw[XI pe]
  exact⟨p,xs,Cs,rfl,pr.imp λ_ _ _ h=>z.mono hn h,rfl⟩
theorem YT {o:OE β}[z:MonoO o]{wi:TI}{g:TG}{te:TE}{r:Enc α}{κ:Type}{m:Rs (List α)}{f:α->Rs β}{n:Nat}{caps:List (Nat×Str)}(T:∀OO,Tgt K OO g r κ)(he:Walk K Er S OO σ wi r m)
  (hb:∀C a v,Ev K Er ((T (C::OO)).sc a v S) (C::OO) (C::OO) ((T (C::OO)).set v (Yl n caps σ)) te o (f a)):Ev K Er S OO OO σ (F8 n caps wi g KQ te) (oL o) (m.bind λas=>P8 as f):=λH Q w s P=>by
 refine he.ok w s ?_
 cases em:m with
 |bad=>rw[em] at P;exact P
 |err x=>rw[em] at P;exact P
 |ok as=>
  rw[em] at P
  obtain⟨hsz,P⟩:=PZ.chk (show PZ Er _ H (chk (as.length<=sizeLine) (Bq as f)) from P)
  intro It H' s' hgo hstop
  -- what is left: the Z9 of the items, then all
  refine⟨λi mm ys H2=>mm=as.length-i/\i<=as.length/\∃bs Cs,Xu H H2/\W (Cs.flatten::OO) H2/\Xu (hid H' OO) (hid H2 (Cs.flatten::OO))/\P3 (o K (hid H2 (Cs.flatten::OO))) ys bs Cs/\bs.length=i/\PZ Er (FO K OO OO (oL o) Q) H ((Bq (as.drop i) f).bind λZ9=>.ok (bs++Z9)),
   ⟨as.length,rfl,Nat.zero_le _,[],[],s',(w.keep s').nil,by show Xu _ (hid H' ([]::OO));rw[Y5];exact Xu.refl _, .nil,rfl,?_⟩,?_⟩
  ·rw[List.drop_zero]
   revert P
   cases Bq as f<;> exact λz=>z
  ·rintro i mm ys H2 ⟨rfl,hi,bs,Cs,s2,w2,m2,pr,hlen,P2⟩
   refine⟨by rw[pr.len.1,hlen];omega,?_⟩
   by_cases hlt:i<as.length
   ·right
    have ha:as[i]?=some as[i]:=by simp[hlt]
    obtain⟨h4,h5⟩:=hgo i _ ha (Cs.flatten::OO) H2 w2 m2
    refine⟨h4,λys' H3=>∃ bs Cs,Xu H H3/\W (Cs.flatten::OO) H3/\Xu (hid H' OO) (hid H3 (Cs.flatten::OO))/\P3 (o K (hid H3 (Cs.flatten::OO))) ys' bs Cs/\bs.length=i+1/\PZ Er (FO K OO OO (oL o) Q) H ((Bq (as.drop (i+1)) f).bind λZ9=>.ok (bs++Z9)),λys' H3 q=>⟨as.length-(i+1),Nat.sub_lt_sub_left hlt (Nat.lt_succ_self i),rfl,hlt,q⟩,λy H3 hy=>?_⟩
    obtain⟨s3,r3⟩:=h5 y H3 hy
    have w3:=w2.keep s3
    have m3:=Xk (OO:=Cs.flatten::OO) s3
    have sS:S.p (hid H3 (Cs.flatten::OO)):=S.mono _ _ ((Xk s').trans (m2.trans m3)) s
    refine(T (Cs.flatten::OO)).ok r3 sS λv hv=>?_
    show KQ _ _ _
    refine PD ?_
    rw[List.drop_eq_getElem_cons hlt] at P2
    have P3':PZ Er (FO K OO OO (oL o) Q) H ((f as[i]).bind λb=>(Bq (as.drop (i+1)) f).bind λZ9=>.ok (bs++b::Z9)):=by
     have:((f as[i]).bind λb=>(Bq (as.drop (i+1)) f).bind λZ9=>Rs.ok (bs++b::Z9))=(Bq (as[i]::as.drop (i+1)) f).bind λZ9=>.ok (bs++Z9):=by
      show _=((f as[i]).bind λb=>(Bq (as.drop (i+1)) f).bind λbs=>Rs.ok (b::bs)).bind _
      rw[Yh];congr 1;funext b;rw[Yh];rfl
     rw[this];exact P2
    refine hb Cs.flatten as[i] v H3 _ w3 hv ?_
    cases eb:f as[i] with
    |bad=>rw[eb] at P3';exact P3'
    |err x=>rw[eb] at P3';exact λH4 s4=>P3' H4 (s2.trans (s3.trans s4))
    |ok b=>
     rw[eb] at P3'
     intro v' C' H4 s4 w4 m4 ho
     have pe:((Cs++[C']).flatten::OO).flatten.Perm (C'::Cs.flatten::OO).flatten:=by
      simp only[Yy,List.flatten_cons]
      rw[List.append_assoc, ←List.append_assoc, ←List.append_assoc]
      exact List.perm_append_comm.append_right _
     refine⟨bs++[b],Cs++[C'],s2.trans (s3.trans s4),w4.of pe,?_,?_,by simp[hlen],?_⟩
     ·rw[XI pe];exact m2.trans (m3.trans m4)
     ·rw[XI pe];exact P3.snoc (pr.imp λ_ _ _ h=>z.mono (m3.trans m4) h) ho
     ·have P4:PZ Er (FO K OO OO (oL o) Q) H ((Bq (as.drop (i+1)) f).bind λZ9=> .ok (bs++b::Z9)):=P3'
      simpa using P4
   ·left
    have e:i=as.length:=Nat.le_antisymm hi (Nat.not_lt.mp hlt)
    subst e
    refine⟨hstop (Cs.flatten::OO) H2 w2 m2,?_⟩
    rw[List.drop_length] at P2
    have P3':FO K OO OO (oL o) Q (bs++[]) H:=P2
    rw[List.append_nil] at P3'
    exact OT (H0:=H) w2 ((Xk s').trans m2) s2 pr P3'
theorem JF {o:OE β}[z:MonoO o]{wi:TI}{g:TG}{tt:TT}{te:TE}{r:Enc α}{κ:Type}{m:Rs (List α)}{c:α->Rs Bool}{f:α->Rs β}{n:Nat}{caps:List (Nat×Str)}(T:∀OO,Tgt K OO g r κ)(he:Walk K Er S OO σ wi r m)
  (hc:∀C a v,EvT Er ((T (C::OO)).sc a v S) (C::OO) ((T (C::OO)).set v (Yl n caps σ)) tt (c a))
  (hb:∀C a v,Ev K Er ((T (C::OO)).sc a v S) (C::OO) (C::OO) ((T (C::OO)).set v (Yl n caps σ)) te o (f a)):Ev K Er S OO OO σ (F8 n caps wi g tt te) (oL o) (m.bind λas=>P9 as c f):=λH Q w s P=>by
 refine he.ok w s ?_
 cases em:m with
 |bad=>rw[em] at P;exact P
 |err x=>rw[em] at P;exact P
 |ok as=>
  rw[em] at P
  obtain⟨hsz,P⟩:=PZ.chk (show PZ Er _ H (chk (as.length<=sizeLine) (DM as c f)) from P)
  intro It H' s' hgo hstop
  refine⟨λi mm ys H2=>mm=as.length-i/\i<=as.length/\∃bs Cs,Xu H H2/\W (Cs.flatten::OO) H2/\Xu (hid H' OO) (hid H2 (Cs.flatten::OO))/\P3 (o K (hid H2 (Cs.flatten::OO))) ys bs Cs/\bs.length<=i/\PZ Er (FO K OO OO (oL o) Q) H ((DM (as.drop i) c f).bind λZ9=>.ok (bs++Z9)),
   ⟨as.length,rfl,Nat.zero_le _,[],[],s',(w.keep s').nil,by show Xu _ (hid H' ([]::OO));rw[Y5];exact Xu.refl _, .nil,Nat.zero_le _,?_⟩,?_⟩
  ·rw[List.drop_zero]
   revert P
   cases DM as c f<;> exact λz=>z
  ·rintro i mm ys H2 ⟨rfl,hi,bs,Cs,s2,w2,m2,pr,hlen,P2⟩
   refine⟨by rw[pr.len.1];omega,?_⟩
   by_cases hlt:i<as.length
   ·right
    have ha:as[i]?=some as[i]:=by simp[hlt]
    obtain⟨h4,h5⟩:=hgo i _ ha (Cs.flatten::OO) H2 w2 m2
    refine⟨h4,λys' H3=>∃ bs Cs,Xu H H3/\W (Cs.flatten::OO) H3/\Xu (hid H' OO) (hid H3 (Cs.flatten::OO))/\P3 (o K (hid H3 (Cs.flatten::OO))) ys' bs Cs/\bs.length<=i+1/\PZ Er (FO K OO OO (oL o) Q) H ((DM (as.drop (i+1)) c f).bind λZ9=>.ok (bs++Z9)),λys' H3 q=>⟨as.length-(i+1),Nat.sub_lt_sub_left hlt (Nat.lt_succ_self i),rfl,hlt,q⟩,λy H3 hy=>?_⟩
    obtain⟨s3,r3⟩:=h5 y H3 hy
    have w3:=w2.keep s3
    have m3:=Xk (OO:=Cs.flatten::OO) s3
    have sS:S.p (hid H3 (Cs.flatten::OO)):=S.mono _ _ ((Xk s').trans (m2.trans m3)) s
    refine(T (Cs.flatten::OO)).ok r3 sS λv hv=>?_
    rw[List.drop_eq_getElem_cons hlt] at P2
    have P3':PZ Er (FO K OO OO (oL o) Q) H ((c as[i]).bind λb=>(if b=true then(f as[i]).bind λb=>(DM (as.drop (i+1)) c f).bind λbs=>.ok (b::bs) else DM (as.drop (i+1)) c f).bind λZ9=>.ok (bs++Z9)):=by
     rw[←Yh];exact P2
    refine hc Cs.flatten as[i] v H3 _ w3 hv ?_
    cases ec:c as[i] with
    |bad=>rw[ec] at P3';exact P3'
    |err x=>rw[ec] at P3';exact λH4 s4=>P3' H4 (s2.trans (s3.trans s4))
    |ok b=>
     rw[ec] at P3'
     intro H4 s4
     have w4:=w3.keep s4
     have m4:=Xk (OO:=Cs.flatten::OO) s4
     cases b with
     |false=>exact⟨bs,Cs,s2.trans (s3.trans s4),w4,m2.trans (m3.trans m4),pr.imp λ_ _ _ h=>z.mono (m3.trans m4) h,Nat.le_succ_of_le hlen,P3'⟩
     |true=>
      rw[if_pos rfl]
      have P4:PZ Er (FO K OO OO (oL o) Q) H ((f as[i]).bind λb=>(DM (as.drop (i+1)) c f).bind λZ9=>.ok (bs++b::Z9)):=by
       have:((f as[i]).bind λb=>(DM (as.drop (i+1)) c f).bind λZ9=>Rs.ok (bs++b::Z9))=((f as[i]).bind λb=>(DM (as.drop (i+1)) c f).bind λbs=>Rs.ok (b::bs)).bind λZ9=>.ok (bs++Z9):=by
        rw[Yh];congr 1;funext b;rw[Yh];rfl
       rw[this];exact P3'
      refine hb Cs.flatten as[i] v H4 _ w4 (((T (Cs.flatten::OO)).sc as[i] v S).mono _ _ m4 hv) ?_
      cases eb:f as[i] with
      |bad=>rw[eb] at P4;exact P4
      |err x=>rw[eb] at P4;exact λH5 s5=>P4 H5 (s2.trans (s3.trans (s4.trans s5)))
      |ok b=>
       rw[eb] at P4
       intro v' C' H5 s5 w5 m5 ho
       have pe:((Cs++[C']).flatten::OO).flatten.Perm (C'::Cs.flatten::OO).flatten:=by
        simp only[Yy,List.flatten_cons]
        rw[List.append_assoc, ←List.append_assoc, ←List.append_assoc]
        exact List.perm_append_comm.append_right _
       refine⟨bs++[b],Cs++[C'],s2.trans (s3.trans (s4.trans s5)),w5.of pe,?_,?_,by simpa using hlen,?_⟩
       ·rw[XI pe];exact m2.trans (m3.trans (m4.trans m5))
       ·rw[XI pe];exact P3.snoc (pr.imp λ_ _ _ h=>z.mono (m3.trans (m4.trans m5)) h) ho
       ·have P5:PZ Er (FO K OO OO (oL o) Q) H ((DM (as.drop (i+1)) c f).bind λZ9=> .ok (bs++b::Z9)):=P4
        simpa using P5
   ·left
    have e:i=as.length:=Nat.le_antisymm hi (Nat.not_lt.mp hlt)
    subst e
    refine⟨hstop (Cs.flatten::OO) H2 w2 m2,?_⟩
    rw[List.drop_length] at P2
    have P3':FO K OO OO (oL o) Q (bs++[]) H:=P2
    rw[List.append_nil] at P3'
    exact OT (H0:=H) w2 ((Xk s').trans m2) s2 pr P3'
noncomputable def Vw (as:List α)(i:Int)(a:α):Rs (List α):=match ixN as.length i with
 |some j=>.ok (as.set j a)
 |none=>.bad
end
section
variable {K:PySem.W.Frag}{Er:Exc->Hp->Prop}{S:SC}{OO OO' OO2:List (List Xx)}{σ:St}{α β γ ρ ι δ ε:Type}
variable {Fd:Ends->β->Hp->Prop}[fd:FdOk Fd]{u:TS}
theorem BW {C D C':List Xx}{H:Hp}{k:Nat}{p:Addr}{o:HO}(w:W (D::OO) H)(hk:OO[k]?=some C)(hp:p∈C.map (·.1))(hp':p∈C'.map (·.1))(hnd:(C'.map (·.1)).Nodup)(hin:∀b∈C'.map (·.1),b∈(C++D).map (·.1))(ht:∀c∈C',upd H p o c.1=some c.2)(hm:∀c∈C',N7 c.2=true):
  W (OO.set k C') (upd H p o)/\Xu (hid H (D::OO)) (hid (upd H p o) (OO.set k C')):=by
 have hlt:k<OO.length:=by
  rcases Nat.lt_or_ge k OO.length with h |h
  ·exact h
  ·rw[List.getElem?_eq_none h] at hk;cases hk
 have h1:=XH hk
 have h2:=XH (OO:=OO.set k C') (k:=k) (C:=C') (by simp[hlt])
 rw[set_set] at h2
 have h3:(OO.set k C').flatten.Perm (C'++(OO.set k []).flatten):=by simpa using h2.symm
 have h4:(D::OO).flatten.Perm ((C++D)++(OO.set k []).flatten):=by
  rw[List.flatten_cons]
  refine((by simpa using h1.symm:OO.flatten.Perm (C++(OO.set k []).flatten)).append_left D).trans ?_
  rw[←List.append_assoc]
  exact List.perm_append_comm.append_right _
 have nd2:(((C++D)++(OO.set k []).flatten).map (·.1)).Nodup:=(h4.map _).nodup_iff.mp w.nd
 rw[List.map_append] at nd2
 obtain⟨n1,n2,n3⟩:=List.nodup_append.mp nd2
 refine⟨⟨λc hc=>?_,?_,λc hc=>?_⟩,λb v q=>?_⟩
 ·rcases List.mem_append.mp (h3.mem_iff.mp hc) with hc |hc
  ·exact ht c hc
  ·have hne:c.1≠p:=λe=>n3 p (hin p hp') c.1 (List.mem_map.mpr ⟨c,hc,rfl⟩) e.symm
   rw[XT hne]
   exact w.tr c (h4.mem_iff.mpr (by simp[hc]))
 ·refine((h3.map _).nodup_iff).mpr ?_
  rw[List.map_append]
  exact List.nodup_append.mpr ⟨hnd,n2,λa ha b hb=>n3 a (hin a ha) b hb⟩
 ·rcases List.mem_append.mp (h3.mem_iff.mp hc) with hc |hc
  ·exact hm c hc
  ·exact w.mu c (h4.mem_iff.mpr (by simp[hc]))
 ·obtain⟨q1,q2⟩:=X2 q
  have hbp:b≠p:=λe=>q2 (by
   rw[e]
   obtain⟨c,hc,rfl⟩:=List.mem_map.mp hp
   exact Vq (h4.mem_iff.mpr (by simp[hc])))
  refine YO (by rw[XT hbp];exact q1) λz=>q2 ?_
  obtain⟨o',ho'⟩:=Bn z
  rcases List.mem_append.mp (h3.mem_iff.mp ho') with hc |hc
  ·obtain⟨c,hc2,e⟩:=List.mem_map.mp (hin b (List.mem_map.mpr ⟨_,hc,rfl⟩))
   rw[←e]
   exact Vq (h4.mem_iff.mpr (List.mem_append_left _ hc2))
  ·exact Vq (c:=(b,o')) (h4.mem_iff.mpr (by simp[hc]))
theorem RP {D:List Xx}{Cs Cs':List (List Xx)}{H:Hp}{k:Nat}{p:Addr}{xs xs':List V}(w:W (D::OO) H)(hk:OO[k]?=some ((p, .lst xs)::Cs.flatten))(hin:∀c∈Cs'.flatten,c∈Cs.flatten++D)(hnd:(Cs'.flatten.map (·.1)).Nodup):
  W (OO.set k ((p, .lst xs')::Cs'.flatten)) (upd H p (.lst xs'))/\Xu (hid H (D::OO)) (hid (upd H p (.lst xs')) (OO.set k ((p, .lst xs')::Cs'.flatten))):=by
 have h1:=XH hk
 have w3:W [((p,HO.lst xs)::(Cs.flatten++D))++(OO.set k []).flatten] H:=w.of (by
  simp only[List.flatten_cons,List.flatten_nil,List.append_nil]
  refine List.Perm.trans ?_ ((by simpa using h1:(((p,HO.lst xs)::Cs.flatten)++(OO.set k []).flatten).Perm OO.flatten).append_left D)
  rw[←List.append_assoc]
  refine List.Perm.append_right _ ?_
  exact(List.perm_append_comm (l₁:=(p,HO.lst xs)::Cs.flatten) (l₂:=D)))
 have nd:=w3.nd
 simp only[fl,List.flatten_cons,List.flatten_nil,List.append_nil,List.map_append,List.cons_append,List.map_cons] at nd
 have hne:∀c∈Cs'.flatten,c.1≠p:=λc hc e=>by
  refine(List.nodup_cons.mp nd).1 ?_
  rw[←e]
  refine List.mem_append_left _ ?_
  rw[←List.map_append]
  exact List.mem_map.mpr ⟨c,hin c hc,rfl⟩
 refine BW w hk List.mem_cons_self List.mem_cons_self ?_ ?_ ?_ ?_
 ·rw[List.map_cons,List.nodup_cons]
  refine⟨λz=>?_,hnd⟩
  obtain⟨c,hc,e⟩:=List.mem_map.mp z
  exact hne c hc e
 ·intro b hb
  rcases List.mem_cons.mp hb with rfl |hb
  ·exact List.mem_cons_self
  ·obtain⟨c,hc,rfl⟩:=List.mem_map.mp hb
   rw[List.cons_append,List.map_cons]
   exact List.mem_cons_of_mem _ (List.mem_map.mpr ⟨c,hin c hc,rfl⟩)
 ·intro c hc
  rcases List.mem_cons.mp hc with rfl |hc
  ·exact X9
  ·rw[XT (hne c hc)]
   exact w3.tr c (by
    rw[List.flatten_cons,List.flatten_nil,List.append_nil]
    exact List.mem_append_left _ (List.mem_cons_of_mem _ (hin c hc)))
 ·intro c hc
  rcases List.mem_cons.mp hc with rfl |hc
  ·rfl
  ·exact w3.mu c (by
    rw[List.flatten_cons,List.flatten_nil,List.append_nil]
    exact List.mem_append_left _ (List.mem_cons_of_mem _ (hin c hc)))
theorem EE {o:OE α}{h:Hp}{p:Addr}{xs:List V}{as:List α}{R:List Xx}(q:oL o K h (.ref p) as ((p, .lst xs)::R)):∃Cs,P3 (o K h) xs as Cs/\R=Cs.flatten:=by
 obtain⟨p',xs',Cs,e,q,c⟩:=q
 injection c with c1 c2
 injection c1 with c3 c4
 injection c4 with c5
 subst c5
 exact⟨Cs,q,c2⟩
theorem Hk {as:List α}{i:Int}{a:α}{bs:List α}(h:Vw as i a= .ok bs):∃j,ixN as.length i=some j/\bs=as.set j a:=by
 unfold Vw at h;split at h
 ·cases h;exact⟨_,by assumption,rfl⟩
 ·cases h
theorem B4 {as:List α}{i:Int}{a:α}{x:Exc}:Vw as i a≠ .err x:=by unfold Vw;split<;> exact λz=>nomatch z
theorem J1 {l r m:List Xx}(h:(l++r).Perm m)(n:(m.map (·.1)).Nodup):(l.map (·.1)).Nodup:=by
 have:((l++r).map (·.1)).Nodup:=(h.map _).nodup_iff.mpr n
 rw[List.map_append] at this
 exact(List.nodup_append.mp this).1
theorem DO {Cs:List (List Xx)}{j:Nat}{D:List Xx}(hj:j<Cs.length):((Cs.set j D).flatten++Cs[j]).Perm (Cs.flatten++D):=by
 have h1:=XH (OO:=Cs) (k:=j) (C:=Cs[j]) (by simp[hj])
 have h2:=XH (OO:=Cs.set j D) (k:=j) (C:=D) (by simp[hj])
 rw[set_set] at h2
 have h3:(Cs.set j D).flatten.Perm (D++(Cs.set j []).flatten):=by simpa using h2.symm
 have h4:Cs.flatten.Perm (Cs[j]++(Cs.set j []).flatten):=by simpa using h1.symm
 refine(h3.append_right _).trans (List.Perm.trans ?_ (h4.append_right _).symm)
 refine List.perm_append_comm.trans ((List.perm_append_comm.append_left _).trans ?_)
 rw[List.append_assoc]
theorem QT {D:List Xx}{Cs:List (List Xx)}{H:Hp}{k:Nat}{p:Addr}{xs:List V}(w:W (D::OO) H)(hk:OO[k]?=some ((p, .lst xs)::Cs.flatten)):((Cs.flatten++D).map (·.1)).Nodup:=by
 have h1:=XH hk
 have w3:W [((p,HO.lst xs)::(Cs.flatten++D))++(OO.set k []).flatten] H:=w.of (by
  simp only[List.flatten_cons,List.flatten_nil,List.append_nil]
  refine List.Perm.trans ?_ ((by simpa using h1:(((p,HO.lst xs)::Cs.flatten)++(OO.set k []).flatten).Perm OO.flatten).append_left D)
  rw[←List.append_assoc]
  refine List.Perm.append_right _ ?_
  exact(List.perm_append_comm (l₁:=(p,HO.lst xs)::Cs.flatten) (l₂:=D)))
 have nd:=w3.nd
 simp only[fl,List.flatten_cons,List.flatten_nil,List.append_nil,List.cons_append,List.map_cons] at nd
 have n2:=(List.nodup_cons.mp nd).2
 rw[List.map_append] at n2
 exact(List.nodup_append.mp n2).1
theorem Ix {ta ti:TE}{o:OE α}[MonoO o]{m:Rs α}{mi:Rs Int}{f:List α->Rs β}{v:V}{as:List α}{C:List Xx}(i k:Nat)(hσ:σ[i]?=some (some v))(hk':OO'[k]?=some C)(h:∀x,S.p x->oL o K x v as C)(he:Ev K Er S OO OO' σ ta o m)
  (hi:∀D,EvB K Er S (D::OO') σ ti Xe mi)
  (hr:∀bs C',Sv Er (S.addO K (oL o) v bs C') (OO'.set k C') σ u Fd (f bs)):Sv Er S OO σ (YX (Dq ta (PL (Qb i) ti Ij)) u) Fd (m.bind λa=>mi.bind λj=>(Vw as j a).bind f):=λH D w s P=>
 he.st w s P λa y D' H' w' s' ho P'=>⟨v,hσ,(hi D').st w' s' P' λj z H2 s2 w2 q2 r2 P2=>by
  obtain⟨p,xs,Cs,e,q,c⟩:=h _ q2
  subst c
  have hH:H2 p=some (.lst xs):=w2.tr (p, .lst xs) (by rw[List.flatten_cons];exact List.mem_append_right _ (List.mem_flatten.mpr ⟨_,List.mem_of_getElem? hk',List.mem_cons_self⟩))
  cases es:Vw as j a with
  |bad=>rw[es] at P2;exact P2.elim
  |err x=>exact absurd es B4
  |ok bs=>
   rw[es] at P2
   obtain⟨jj,h1,rfl⟩:=Hk es
   have hjl:jj<as.length:=by
    unfold ixN at h1
    split at h1
    ·split at h1
     ·cases h1;omega
     ·cases h1
    ·split at h1
     ·cases h1;omega
     ·cases h1
   have hjC:jj<Cs.length:=by rw[q.len.2];exact hjl
   have hp:=DO (Cs:=Cs) (j:=jj) (D:=D') hjC
   obtain⟨w3,m3⟩:=RP (xs':=xs.set jj y) (Cs':=Cs.set jj D') w2 hk' (λc hc=>hp.mem_iff.mp (List.mem_append_left _ hc)) (J1 hp (QT w2 hk'))
   refine⟨p,xs,j,jj,e,r2,hH,by rw[q.len.1];exact h1,hr _ _ _ D w3 ⟨S.mono _ _ m3 q2,⟨p,_,_,e,P3.imp (λ_ _ _ z=>MonoO.mono m3 z) (P3.set (MonoO.mono (Xk s2) ho) jj q),rfl⟩⟩ (PZ.tr (fd.tr D) m3 P2)⟩⟩
theorem Pt {ta:TE}{o:OE α}[MonoO o]{m:Rs (List α)}{f:List α->Rs β}{v:V}{as:List α}{C:List Xx}(i k:Nat)(hσ:σ[i]?=some (some v))(hk:OO[k]?=some C)(hk':OO'[k]?=some C)(h:∀x,S.p x->oL o K x v as C)(he:Ev K Er S OO OO' σ ta (oL o) m)
  (hr:∀bs C',Sv Er (S.addO K (oL o) v (as++bs) C') (OO'.set k C') σ u Fd (f (as++bs))):Sv Er S OO σ (YX (Jv (tBM K "list" FN (Qb i) (Xv ta Yq))) u) Fd (m.bind λbs=>chk (as.length+bs.length<=sizeLine) (f (as++bs))):=λH D w s P=>by
 obtain⟨p,xs,Cs,e,q,c⟩:=h _ s
 subst c
 have hH:H p=some (.lst xs):=w.tr (p, .lst xs) (List.mem_flatten.mpr ⟨_,List.mem_of_getElem? hk,List.mem_cons_self⟩)
 refine⟨v,hσ,by rw[e];exact .inl ⟨rfl,_,SqL.of hH⟩,he.st w s P λbs y D' H' w' s' ho P'=>?_⟩
 obtain⟨hsz,P'⟩:=PZ.chk P'
 subst e
 obtain⟨Cs2,q2,c2⟩:=EE (h _ s')
 obtain⟨p',zs,Ds,e3,q3,c3⟩:=ho
 subst c3
 have hH':H' p=some (.lst xs):=w'.tr (p, .lst xs) (by rw[List.flatten_cons];exact List.mem_append_right _ (List.mem_flatten.mpr ⟨_,List.mem_of_getElem? hk',List.mem_cons_self⟩))
 have hH2:H' p'=some (.lst zs):=w'.tr (p', .lst zs) (by rw[List.flatten_cons];exact List.mem_append_left _ List.mem_cons_self)
 have cn:=QT w' hk'
 obtain⟨w3,m3⟩:=RP (xs':=xs++zs) (Cs':=Cs2++Ds) w' hk' (λc hc=>by
   rw[List.flatten_append,List.mem_append] at hc
   rcases hc with hc |hc
   ·rw[c2];exact List.mem_append_left _ hc
   ·exact List.mem_append_right _ (List.mem_cons_of_mem _ hc)) (by
   rw[List.flatten_append, ←c2]
   refine List.Nodup.sublist (List.Sublist.map _ ?_) cn
   exact List.Sublist.append (List.Sublist.refl _) (List.sublist_cons_self _ _))
 refine⟨p,p',xs,zs,rfl,by rw[e3],hH',hH2,by rw[q2.len.1,q3.len.1];exact hsz,?_⟩
 exact hr bs _ _ D w3 ⟨S.mono _ _ m3 s',⟨p,_,_,rfl,P3.imp (λ_ _ _ z=>MonoO.mono m3 z) (q2.app q3),rfl⟩⟩ (PZ.tr (fd.tr D) m3 P')
noncomputable def IL (as:List α)(i:Int):Rs (α×List α):=chk (-(2^63)<=i/\i<2^63) (match seqIndex? i as.length with
 |none=>.bad
 |some k=>match as[k]? with
  |none=>.bad
  |some a=>.ok (a,as.eraseIdx k))
theorem Ma {as:List α}{i:Int}{p:α×List α}(h:IL as i= .ok p):(-(2^63)<=i/\i<2^63)/\∃k,seqIndex? i as.length=some k/\as[k]?=some p.1/\p.2=as.eraseIdx k:=by
 obtain⟨h1,h2⟩:=Y8 h
 refine⟨h1,?_⟩
 split at h2
 ·cases h2
 ·split at h2
  ·cases h2
  ·cases h2;exact⟨_,by assumption,by assumption,rfl⟩
theorem MC {as:List α}{i:Int}{x:Exc}:IL as i≠ .err x:=by
 unfold IL chk;split
 ·split
  ·exact λz=>nomatch z
  ·split<;> exact λz=>nomatch z
 ·exact λz=>nomatch z
theorem Paired.erase' {F:α->γ->Prop}:∀{l:List α}{m:List γ} (n:Nat),Paired F l m->Paired F (l.eraseIdx n) (m.eraseIdx n)
 |_,_,_, .nil=>.nil
 |_,_,0, .cons _ t=>t
 |_,_,n+1, .cons r t=>.cons r (Paired.erase' n t)
theorem NO {te ti:TE}{r:Enc α}[MonoE r]{mi:Rs Int}{f:α×List α->Rs β}{v:V}{as:List α}{C:List Xx}{D:Ends}{H:Hp}{Q:VK}(i k:Nat)(hσ:σ[i]?=some (some v))(hk:OO[k]?=some C)(h:∀x,S.p x->oL (oF r) K x v as C)(hi:EvB K Er S OO σ ti Xe mi)
  (w:W OO H)(s:S.p (hid H OO))(P:PZ Er (Fd D) (hid H OO) (mi.bind λj=>(IL as j).bind f))
  (hr:∀a bs y C' H',W (OO.set k C') H'->((S.add K r y a).addO K (oL (oF r)) v bs C').p (hid H' (OO.set k C'))->PZ Er (Fd D) (hid H' (OO.set k C')) (f (a,bs))->Q y H'):tBM K "list" Cu (Qb i) (Xv ti Yq) σ H Q:=by
 obtain⟨p,xs,Cs,e,q,c⟩:=h _ s
 subst c
 have hH:H p=some (.lst xs):=w.tr (p, .lst xs) (List.mem_flatten.mpr ⟨_,List.mem_of_getElem? hk,List.mem_cons_self⟩)
 refine⟨v,hσ,by rw[e];exact .inl ⟨rfl,_,SqL.of hH⟩,hi.st w s P λj z H' s1 w' s' ho P'=>?_⟩
 subst e
 obtain⟨Cs2,q2,c2⟩:=EE (h _ s')
 obtain⟨pr,hfl⟩:=P3.flat q2
 cases es:IL as j with
 |bad=>rw[es] at P';exact P'.elim
 |err x=>exact absurd es MC
 |ok pp=>
  rw[es] at P'
  obtain⟨a,bs⟩:=pp
  obtain⟨h1,kk,h2,h3,h4⟩:=Ma es
  obtain⟨y,hy,ry⟩:=Paired.getR pr h3
  have w0:W ([]::OO) H':=w'.nil
  have hk0:OO[k]?=some ((p, .lst xs)::([]:List (List Xx)).flatten):=by rw[hk,c2,hfl];rfl
  obtain⟨w3,m3⟩:=RP (D:=[]) (Cs:=[]) (xs':=xs.eraseIdx kk) (Cs':=List.replicate bs.length []) w0 hk0 (λc hc=>by rw[Yd] at hc;cases hc) (by rw[Yd];exact List.nodup_nil)
  rw[Y5] at m3
  refine⟨p,xs,j,kk,y,rfl,by rw[show z= .int j from ho],s1 _ _ hH,h1.1,h1.2,by rw[Paired.len pr];exact h2,hy,?_⟩
  have pr2:Paired (r K (hid H' OO)) (xs.eraseIdx kk) bs:=by rw[show bs=as.eraseIdx kk from h4];exact Paired.erase' kk pr
  exact hr a bs y _ _ w3 ⟨⟨S.mono _ _ m3 s',MonoE.mono m3 ry⟩,⟨p,_,_,rfl,(P3.of (Paired.imp2 (λ_ _ z=>MonoE.mono m3 z) pr2)).imp λ_ _ _ z=>z,rfl⟩⟩ (PZ.tr (fd.tr D) m3 P')
theorem Oi {ti:TE}{r:Enc α}[MonoE r]{mi:Rs Int}{f:α×List α->Rs β}{v:V}{as:List α}{C:List Xx}(x i k:Nat)(hσ:σ[i]?=some (some v))(hk:OO[k]?=some C)(h:∀x,S.p x->oL (oF r) K x v as C)(hi:EvB K Er S OO σ ti Xe mi)
  (hr:∀a bs y C',Sv Er ((S.add K r y a).addO K (oL (oF r)) v bs C') (OO.set k C') (σ.set x (some y)) u Fd (f (a,bs))):Sv Er S OO σ (YX (Dq (tBM K "list" Cu (Qb i) (Xv ti Yq)) (Yz x)) u) Fd (mi.bind λj=>(IL as j).bind f):=λH D w s P=>
 NO (te:=ti) i k hσ hk h hi w s P λa bs y C' H' w' s' P'=>hr a bs y C' H' D w' s' P'
theorem LZ {ta tb:TE}{r:Enc α}{q:Enc γ}[z:MonoE r][MonoE q]{ma:Rs α}{mb:Rs γ}{f:α->γ->Rs β}(i j:Nat)(ha:EvS K Er S OO σ ta r ma)(hb:EvS K Er S OO σ tb q mb)
  (hr:∀a b v w,Sv Er ((S.add K r v a).add K q w b) OO ((σ.set i (some v)).set j (some w)) u Fd (f a b)):Sv Er S OO σ (YX (Se i j (Xv ta (Xv tb Yq))) u) Fd (ma.bind λa=>mb.bind λb=>f a b):=λH D w s P=>
 ha.st w s P λa x H1 s1 w1 q1 r1 P1=>hb.st w1 q1 P1 λb y H2 s2 w2 q2 r2 P2=>⟨x,y,rfl,hr a b x y H2 D w2 ⟨⟨q2,z.mono (Xk s2) r1⟩,r2⟩ P2⟩
theorem DH {te:TE}{r:Enc α}{q:Enc γ}[MonoE r][MonoE q]{m:Rs (α×γ)}{f:α×γ->Rs β}(i j:Nat)(he:EvS K Er S OO σ te (rP2 r q) m)
  (hr:∀a v w,Sv Er ((S.add K r v a.1).add K q w a.2) OO ((σ.set i (some v)).set j (some w)) u Fd (f a)):Sv Er S OO σ (YX (Dq te (Li K 2 (ZS (Yz i) (ZS (Yz j) NL)))) u) Fd (m.bind f):=λH D w s P=>
 he.st w s P λa v H1 s1 w1 q1 r9 P1=>by obtain⟨p,x,y,e,h,h1,h2⟩:=r9;exact⟨p,_,e,SqT.of (XB _ _ h),rfl,x,[y],rfl,y,[],rfl,rfl,hr a x y H1 D w1 ⟨⟨q1,h1⟩,h2⟩ P1⟩
theorem EH {ta tb:TE}{ma mb:Rs Int}(ha:EvB K Er S OO σ ta Xe ma)(hb:EvB K Er S OO σ tb Xe mb):EvB K Er S OO σ (tCB (λxs H Q=>∃ i j:Int,xs=[.int i, .int j]/\Q (.int (if j > i then j else i)) H) (Xv ta (Xv tb Yq))) Xe (ma.bind λa=>mb.bind λb=>.ok (max a b)):=λH Q w s P=>
 ha.run w s FB.tr P λa x H1 s1 w1 q1 r1 P1=>hb.run w1 q1 FB.tr P1 λb y H2 s2 w2 q2 r2 P2=>⟨a,b,by rw[show x= .int a from r1,show y= .int b from r2],P2 _ H2 (Xu.refl _) (by show V.int _=V.int _;congr 1;omega)⟩
theorem HI {ta tb:TE}{ma mb:Rs Int}(ha:EvB K Er S OO σ ta Xe ma)(hb:EvB K Er S OO σ tb Xe mb):EvB K Er S OO σ (tCB (λxs H Q=>∃ i j:Int,xs=[.int i, .int j]/\Q (.int (if j<i then j else i)) H) (Xv ta (Xv tb Yq))) Xe (ma.bind λa=>mb.bind λb=>.ok (min a b)):=λH Q w s P=>
 ha.run w s FB.tr P λa x H1 s1 w1 q1 r1 P1=>hb.run w1 q1 FB.tr P1 λb y H2 s2 w2 q2 r2 P2=>⟨a,b,by rw[show x= .int a from r1,show y= .int b from r2],P2 _ H2 (Xu.refl _) (by show V.int _=V.int _;congr 1;omega)⟩
theorem Vj:∀{xs:List V}{bs:List Bool}{H:Hp},Paired (Xy K H) xs bs->xs=bs.map V.bl
 |_,_,_, .nil=>rfl
 |_,_,_, .cons r t=>by rw[show _=V.bl _ from r,Vj t];rfl
theorem N5 {ta:TE}{ma:Rs (List Bool)}(ha:EvB K Er S OO σ ta (rV Xy) ma):EvB K Er S OO σ (tCB (Si K) (Xv ta Yq)) Xy (ma.bind λa=>.ok (a.all id)):=λH Q w s P=>
 ha.run w s FB.tr P λa x H1 s1 w1 q1 r9 P1=>by obtain⟨p,xs,e,q,pr⟩:=r9;exact⟨p,a,by rw[e],by rw[←Vj pr];exact SqL.of q,P1 _ H1 (Xu.refl _) rfl⟩
class TyE {α:Type}(r:Enc α)(n:outParam String):Prop where
 ty:∀{K:PySem.W.Frag}{H:Hp}{v:V}{a:α},r K H v a->TyOf K H v (.type n)
instance:TyE Xe "int":=⟨fun {K H v a} h=>by cases(show v= .int a from h);exact .int a⟩
instance:TyE Xy "bool":=⟨fun {K H v a} h=>by cases(show v= .bl a from h);exact .bl a⟩
instance:TyE UZ "str":=⟨fun {K H v a} h=>by cases(show v= .str a from h);exact .str a⟩
instance {r:Enc α}:TyE (rV r) "list":=⟨λr9=>by obtain⟨p,xs,e,q,_⟩:=r9;exact by subst e;exact .lst q⟩
instance {r:Enc α}:TyE (rPL r) "tuple":=⟨λr9=>by obtain⟨p,xs,e,q,_⟩:=r9;exact by subst e;exact .tup q⟩
instance {r:Enc α}{q:Enc γ}:TyE (rP2 r q) "tuple":=⟨λr9=>by obtain⟨p,x,y,e,q,_⟩:=r9;exact by subst e;exact .tup q⟩
instance {r:Enc α}{q:Enc γ}{t:Enc δ}:TyE (rP3 r q t) "tuple":=⟨λr9=>by obtain⟨p,x,y,z,e,q,_⟩:=r9;exact by subst e;exact .tup q⟩
theorem YS {te:TE}{r:Enc α}{n:String}[z:TyE r n]{m:Rs α}(t:String)(b:Bool)(hk:PySem.W.kitOne K (.type n) (.type t)=some b)(he:EvB K Er S OO σ te r m):
  EvB K Er S OO σ (tCB (λxs H Q=>∃ x n t b,xs=[x, .ty n]/\TyOf K H x t/\PySem.W.kitOne K t (.type n)=some b/\Q (.bl b) H) (Xv te (Xv (tC (.ty t)) Yq))) Xy (m.bind λ_=>.ok b):=λH Q w s P=>
 he.run w s FB.tr P λa x H1 s1 w1 q1 r1 P1=>⟨x,t, .type n,b,rfl,z.ty r1,hk,P1 _ H1 (Xu.refl _) rfl⟩
theorem L9 {ta:TE}{ma:Rs Int}(ha:EvB K Er S OO σ ta Xe ma):EvB K Er S OO σ (tCB (λxs H Q=>∃ i:Int,xs=[.int i]/\Q (.int (if i<0 then-i else i)) H) (Xv ta Yq)) Xe (ma.bind λa=>.ok (a.natAbs:Int)):=λH Q w s P=>
 ha.run w s FB.tr P λa x H1 s1 w1 q1 r1 P1=>⟨a,by rw[show x= .int a from r1],P1 _ H1 (Xu.refl _) (by show V.int _=V.int _;congr 1;omega)⟩
end
section
variable {K:PySem.W.Frag}{Er:Exc->Hp->Prop}{S:SC}{OO OO' OO1 OO2:List (List Xx)}{σ:St}{α β γ ρ ι δ ε:Type}
variable {Fd:Ends->β->Hp->Prop}[fd:FdOk Fd]{u:TS}
theorem Of (n:Nat)(H:Hp):W (List.replicate n []) H:=⟨λc hc=>(by rw[Yd] at hc;cases hc),(by unfold fl;rw[Yd];exact List.nodup_nil),λc hc=>(by rw[Yd] at hc;cases hc)⟩
theorem HU (n:Nat)(H:Hp):hid H (List.replicate n [])=H:=by funext b;unfold hid fl;rw[Yd];simp
theorem LM {o:OE ρ}[z:MonoO o]{Q:VK}{b:ρ}{H:Hp}(q:FF K o Q b H):∀v C OO' H',W (C::OO') H'->Xu H (hid H' (C::OO'))->o K (hid H' (C::OO')) v b C->Q v H':=λv C OO' H' w m ho=>by
 have hs:Xu (hid H' (C::OO')) (hid H' [C]):=Zx (Xu.refl _) λb hb=>by
  rw[XO]
  refine List.mem_append_left _ ?_
  simpa[fl] using hb
 exact q v C H' (w.sub (by simp)) (m.trans hs) (z.mono hs ho)
theorem E6 {o:OE ρ}[MonoO o]{t:TS}{m:Rs ρ}{Q:VK}{b:ρ}{H:Hp}{D:Ends}(n:Nat)(h:Sv (λ_ _=>False) S (List.replicate n []) σ t (FTd K o) m)(hs:S.p H)(hm:m= .ok b)(q:FF K o Q b H)(hD:D.rt=Q):t D σ H:=by
 refine h H D (Of n H) (by rw[HU];exact hs) ?_
 subst hm
 rw[HU]
 intro v C OO' H' w mm ho
 rw[hD]
 exact LM q v C OO' H' w mm ho
noncomputable def oU:OE Unit:=λ_ _ v _ C=>v= .non/\C=[]
instance:MonoO oU:=⟨λ_ h=>h⟩
instance:FlatO oU:=⟨λ_ h=>h⟩
noncomputable def rU0:Enc Unit:=λ_ _ v _=>v= .non
instance:FlatE rU0:=⟨λ_ h=>h⟩
instance:FrzC oU rU0:=⟨λh _ _=>h.1⟩
theorem Rj {J:Jn Unit ι}{t:TS}{m:Rs Unit}{Q:VK}{b:Unit}{H:Hp}{D:Ends}(n:Nat)(h:Sv (λ_ _=>False) S (List.replicate n []) σ t (FNd J) m)(hs:S.p H)(hm:m= .ok b)(q:FF K oU Q b H)(hD:∀σ H,D.nx σ H=Q .non H):t D σ H:=by
 refine h H D (Of n H) (by rw[HU];exact hs) ?_
 subst hm
 rw[HU]
 intro x H' w mm ho
 rw[hD]
 have hs:Xu (hid H' (J.oo x)) (hid H' [[]]):=Zx (Xu.refl _) λb hb=>by simp[fl] at hb
 exact q .non [] H' ⟨λc hc=>by simp at hc,by simp[fl],λc hc=>by simp at hc⟩ (mm.trans hs) ⟨rfl,rfl⟩
theorem E2 {t:TS}{m:Rs β}(k:Nat)(hr:Sv Er S (OO.set k []) σ t Fd m):Sv Er S OO σ t Fd m:=λH D w s P=>by
 cases hk:OO[k]? with
 |none=>
  rw[List.set_eq_of_length_le (List.getElem?_eq_none_iff.mp hk)] at hr
  exact hr H D w s P
 |some C=>
  have hp:=XH hk
  have w1:W (C::OO.set k []) H:=w.of hp
  have hs:Xu (hid H OO) (hid H (OO.set k [])):=by
   rw[←XI hp]
   exact Zx (Xu.refl _) λb hb=>by rw[XO];simp[hb]
  exact hr H D w1.tail (S.mono _ _ hs s) (PZ.tr (fd.tr D) hs P)
theorem Nk {te:TE}{r:Enc α}{m:Rs α}{f:Rs β}(he:EvB K Er S OO σ te r m)(hr:Sv Er S OO σ u Fd f):Sv Er S OO σ (YX (Jv te) u) Fd (m.bind λ_=>f):=λH D w s P=>
 he.st w s P λa v H' s1 w' s' ho P'=>hr H' D w' s' P'
class InE {α:Type}[DecidableEq α](r:Enc α):Prop where
 fl:∀{K:PySem.W.Frag}{H:Hp}{x:V}{a:α},r K H x a->UT x=true
 eq:∀{K:PySem.W.Frag}{H H':Hp}{x y:V}{a b:α},r K H x a->r K H' y b->eqV x y=decide (a=b)
instance:InE Xe:=⟨fun {K H x a} h=>by cases(show x= .int a from h);rfl,fun {K H H' x y a b} h h'=>by
 cases(show x= .int a from h);cases(show y= .int b from h');show(a==b)=_;rw[Ic]⟩
instance:InE UZ:=⟨fun {K H x a} h=>by cases(show x= .str a from h);rfl,fun {K H H' x y a b} h h'=>by
 cases(show x= .str a from h);cases(show y= .str b from h');show(a==b)=_
 rw[Bool.eq_iff_iff];simp⟩
theorem Jh [DecidableEq α]{r:Enc α}[z:InE r]{H H':Hp}{x:V}{a:α}(hx:r K H x a):∀{xs:List V}{as:List α},Paired (r K H') xs as->xs.all UT=true/\inV x xs=decide (a∈as)
 |_,_, .nil=>⟨rfl,by simp[inV]⟩
 |_,_, .cons h t=>by
  obtain⟨h1,h2⟩:=Jh hx t
  refine⟨by rw[List.all_cons,h1,z.fl h];rfl,?_⟩
  unfold inV at h2⊢
  rw[List.any_cons,h2,z.eq h hx,Bool.eq_iff_iff,Bool.or_eq_true,decide_eq_true_eq,decide_eq_true_eq,decide_eq_true_eq,List.mem_cons]
  exact or_congr ⟨Eq.symm,Eq.symm⟩ Iff.rfl
theorem MK [DecidableEq α]{ta tb:TE}{r:Enc α}[z:InE r]{ma:Rs α}{mb:Rs (List α)}(ha:EvB K Er S OO σ ta r ma)(hb:EvB K Er S OO σ tb (rV r) mb):EvB K Er S OO σ (tOp (rIn K true) ta tb) Xy (ma.bind λa=>mb.bind λas=>.ok (!decide (a∈as))):=λH Q w s P=>
 ha.run w s FB.tr P λa x H1 s1 w1 q1 r1 P1=>hb.run w1 q1 FB.tr P1 λb y H2 s2 w2 q2 ⟨p,xs,e,q,pr⟩ P2=>by
  obtain⟨h1,h2⟩:=Jh r1 pr
  exact⟨p,xs,e, .inl (SqL.of q),z.fl r1,h1,P2 _ H2 (Xu.refl _) (by rw[h2];rfl)⟩
theorem V6 [DecidableEq α]{ta tb:TE}{r:Enc α}[z:InE r]{ma:Rs α}{mb:Rs (List α)}(ha:EvB K Er S OO σ ta r ma)(hb:EvB K Er S OO σ tb (rPL r) mb):EvB K Er S OO σ (tOp (rIn K false) ta tb) Xy (ma.bind λa=>mb.bind λas=>.ok (decide (a∈as))):=λH Q w s P=>
 ha.run w s FB.tr P λa x H1 s1 w1 q1 r1 P1=>hb.run w1 q1 FB.tr P1 λb y H2 s2 w2 q2 ⟨p,xs,e,q,pr⟩ P2=>by
  obtain⟨h1,h2⟩:=Jh r1 pr
  exact⟨p,xs,e, .inr (SqT.of q),z.fl r1,h1,P2 _ H2 (Xu.refl _) (by rw[h2];rfl)⟩
theorem KP [DecidableEq α]{ta tb:TE}{r:Enc α}[z:InE r]{ma:Rs α}{mb:Rs (List α)}(ha:EvB K Er S OO σ ta r ma)(hb:EvB K Er S OO σ tb (rPL r) mb):EvB K Er S OO σ (tOp (rIn K true) ta tb) Xy (ma.bind λa=>mb.bind λas=>.ok (!decide (a∈as))):=λH Q w s P=>
 ha.run w s FB.tr P λa x H1 s1 w1 q1 r1 P1=>hb.run w1 q1 FB.tr P1 λb y H2 s2 w2 q2 ⟨p,xs,e,q,pr⟩ P2=>by
  obtain⟨h1,h2⟩:=Jh r1 pr
  exact⟨p,xs,e, .inr (SqT.of q),z.fl r1,h1,P2 _ H2 (Xu.refl _) (by rw[h2];rfl)⟩
theorem F6 {ta tb:TE}{r:Enc α}{m:Rs (Option α)}(ha:EvB K Er S OO σ ta (Bp r) m):EvB K Er S OO σ (tOp (λx y H Q=>y= .non/\Q (.bl (decide (x= .non))) H) ta (tC .non)) Xy (m.bind λa=>.ok a.isNone):=λH Q w s P=>
 ha.run w s FB.tr P λa x H1 s1 w1 q1 r1 P1=>⟨rfl,P1 _ H1 (Xu.refl _) (by
  cases a with
  |none=>rw[show x= .non from r1];rfl
  |some a=>show V.bl _=V.bl _;rw[decide_eq_false r1.1];rfl)⟩
theorem KH {ta tb:TE}{r:Enc α}{m:Rs (Option α)}(ha:EvB K Er S OO σ ta (Bp r) m):EvB K Er S OO σ (tOp (λx y H Q=>y= .non/\Q (.bl (!decide (x= .non))) H) ta (tC .non)) Xy (m.bind λa=>.ok a.isSome):=λH Q w s P=>
 ha.run w s FB.tr P λa x H1 s1 w1 q1 r1 P1=>⟨rfl,P1 _ H1 (Xu.refl _) (by
  cases a with
  |none=>rw[show x= .non from r1];rfl
  |some a=>show V.bl _=V.bl _;rw[decide_eq_false r1.1];rfl)⟩
theorem JD {ta tb tc:TE}{p q:Int->Int->Bool}{ma mb mc:Rs Int}(ha:EvB K Er S OO σ ta Xe ma)(hb:EvB K Er S OO σ tb Xe mb)(hc:EvB K Er S OO σ tc Xe mc):
  EvB K Er S OO σ (Bx (rI0 λi j=>.bl (p i j)) (rI0 λi j=>.bl (q i j)) ta tb tc) Xy (ma.bind λa=>mb.bind λb=>if p a b=true then mc.bind λc=>.ok (q b c) else .ok false):=λH Q w s P=>
 ha.run w s FB.tr P λa x H1 s1 w1 q1 r1 P1=>hb.run w1 q1 FB.tr P1 λb y H2 s2 w2 q2 r2 P2=>⟨a,b,r1,r2,p a b,rfl,by
  cases h:p a b with
  |false=>rw[h] at P2;exact P2 _ H2 (Xu.refl _) rfl
  |true=>
   rw[h,if_pos rfl] at P2
   rw[if_pos rfl]
   exact hc.run w2 q2 FB.tr P2 λc z H3 s3 w3 q3 r3 P3=>⟨b,c,r2,r3,P3 _ H3 (Xu.refl _) rfl⟩⟩
theorem ED {α:Type}[DecidableEq α]{r r':Enc α}{d:Nat}(E:EqOk r d)(h:∀{K:PySem.W.Frag}{H:Hp}{v:V}{a:α},r' K H v a->r K H v a)(m:MonoE r'):EqOk r' d where
 uniq:=λI h1 h2=>E.uniq I (h h1) (h h2)
 eq:=λI rx ry h1 h2 hu=>E.eq I rx ry (h h1) (h h2) hu
 rc:=λI rx ry h1 h2 hu=>E.rc I rx ry (h h1) (h h2) hu
 ne:=λI rx ry h1 h2 hu=>E.ne I rx ry (h h1) (h h2) hu
 keep:=λs q=>m.mono s q
theorem GF {α:Type}[DecidableEq α]{r:Enc α}{d:Nat}[m:MonoE r](E:EqOk r d):EqOk (rV r) (d+1):=ED (MG E) (λr9=>by obtain⟨a,xs,e,q,p⟩:=r9;exact⟨a,xs,e,SqL.of q,p⟩) inferInstance
theorem KN {α β:Type}[DecidableEq α][DecidableEq β]{r:Enc α}{q:Enc β}{d:Nat}[m:MonoE r][n:MonoE q](E:EqOk r d)(F:EqOk q d):EqOk (rP2 r q) (d+1):=ED (Nf E F) (λr9=>by obtain⟨a,x,y,e,q,p⟩:=r9;exact⟨a,x,y,e,SqT.of q,p⟩) inferInstance
end
section
variable {K:PySem.W.Frag}{Er:Exc->Hp->Prop}{S:SC}{OO OO' OO1 OO2:List (List Xx)}{σ:St}{α β γ ρ ι δ ε:Type}
variable {Fd:Ends->β->Hp->Prop}[fd:FdOk Fd]{u:TS}
theorem Za {ta tb:TE}{o:OE α}{q:OE β}[z:MonoO o][y:MonoO q]{ma:Rs α}{mb:Rs β}(ha:Ev K Er S OO OO1 σ ta o ma)(hb:∀C,Ev K Er S (C::OO1) (C::OO2) σ tb q mb):Ev K Er S OO OO2 σ (N9 (Xv ta (Xv tb Yq))) (oT2 o q) (ma.bind λa=>mb.bind λb=>.ok (a,b)):=λH Q w s P=>by
 refine ha H _ w s ?_
 cases em:ma with
 |bad=>rw[em] at P;exact P
 |err x=>rw[em] at P;exact P
 |ok a=>
  rw[em] at P
  intro v C H1 s1 w1 m1 ho
  refine hb C H1 _ w1 (S.mono _ _ m1 s) ?_
  have P1:PZ Er (FO K OO OO2 (oT2 o q) Q) H (mb.bind λb=>.ok (a,b)):=P
  cases en:mb with
  |bad=>rw[en] at P1;exact P1
  |err x=>rw[en] at P1;exact λH2 s2=>P1 H2 (s1.trans s2)
  |ok b=>
   rw[en] at P1
   have P1:FO K OO OO2 (oT2 o q) Q (a,b) H:=P1
   intro v2 C2 H2 s2 w2 m2 ho2
   refine⟨by show 2<=sizeLine;decide,λp hp=>?_⟩
   have pe:((C++C2)::OO2).flatten.Perm (C2::C::OO2).flatten:=by
    simp only[List.flatten_cons]
    rw[←List.append_assoc]
    exact List.perm_append_comm.append_right _
   have s3:Xu H2 (upd H2 p (.tup [v,v2])):=XQ hp _
   have w3:=(w2.keep s3).of pe
   have m3:Xu (hid H2 (C2::C::OO2)) (hid (upd H2 p (.tup [v,v2])) ((C++C2)::OO2)):=by rw[XI pe];exact Xk s3
   refine P1 (.ref p) (C++C2) _ (s1.trans (s2.trans s3)) w3 (m1.trans (m2.trans m3)) ⟨p,v,v2,C,C2,rfl,?_,z.mono (m2.trans m3) ho,y.mono m3 ho2,rfl⟩
   rw[XI pe]
   exact VD w2 hp
theorem Oc {c:TT}{t1:TS}{mc:Rs Bool}{m2:Rs β}(hc:EvT Er S OO σ c mc)(h2:Sv Er S OO σ u Fd m2):Sv Er S OO σ (YX (NM c t1 UP) u) Fd (mc.bind λb=>if b=true then .bad else m2):=λH D w s P=>
 hc.st w s P λb H' w' s' P'=>by
  cases b with
  |true=>rw[if_pos rfl] at P';exact P'.elim
  |false=>exact h2 H' D w' s' P'
theorem Fe:∀{l:List Xx}{a b:Xx},(l.map (·.1)).Nodup->a∈l->b∈l->a.1=b.1->a=b
 | [],_,_,_,h,_,_=>by cases h
 |c::l,a,b,n,ha,hb,e=>by
  rw[List.map_cons,List.nodup_cons] at n
  cases ha with
  |head=>cases hb with
   |head=>rfl
   |tail _ hb=>exact absurd (List.mem_map.mpr ⟨b,hb,e.symm⟩) n.1
  |tail _ ha=>cases hb with
   |head=>exact absurd (List.mem_map.mpr ⟨a,ha,e⟩) n.1
   |tail _ hb=>exact Fe n.2 ha hb e
theorem Jw {Cs:List (List Xx)}{k:Nat}{C:List Xx}(h:Cs[k]?=some C):∀c∈C,c∈Cs.flatten:=λc hc=>List.mem_flatten.mpr ⟨C,List.mem_of_getElem? h,hc⟩
theorem Eh {as:List α}{i:Int}{a:α}(h:atR as i= .ok a):∃k,ixN as.length i=some k/\as[k]?=some a:=by
 have:=GC h
 unfold atI at this
 cases e:ixN as.length i with
 |none=>rw[e] at this;cases this
 |some k=>rw[e] at this;exact⟨k,rfl,this⟩
theorem Dc {r:Enc α}[z:MonoE r]{v:V}{as:List (List α)}{row row':List α}{H:Hp}{p q:Addr}{xs ys ys':List V}{Cs:List (List Xx)}{k kk:Nat}(w:W OO H)(hk:OO[k]?=some ((p, .lst xs)::Cs.flatten))(hP:P3 (oL (oF r) K (hid H OO)) xs as Cs)(hrow:as[kk]?=some row)
  (hx:xs[kk]?=some (.ref q))(hq:H q=some (.lst ys))(hcs:Cs[kk]?=some [(q, .lst ys)])(pr:Paired (r K (hid H OO)) ys' row'):
  ∃C',W (OO.set k C') (upd H q (.lst ys'))/\Xu (hid H OO) (hid (upd H q (.lst ys')) (OO.set k C'))/\oL (oL (oF r)) K (hid (upd H q (.lst ys')) (OO.set k C')) (.ref p) (as.set kk row') C':=by
 have hkl:kk<Cs.length:=by
  rcases Nat.lt_or_ge kk Cs.length with h |h
  ·exact h
  ·rw[List.getElem?_eq_none h] at hcs;cases hcs
 have hin:∀c∈(p,HO.lst xs)::Cs.flatten,c∈OO.flatten:=λc hc=>List.mem_flatten.mpr ⟨_,List.mem_of_getElem? hk,hc⟩
 have w0:W ([]::OO) H:=w.nil
 have cn0:=QT w0 hk
 rw[List.append_nil] at cn0
 have e0:Cs[kk]=[(q, .lst ys)]:=by
  rw[List.getElem?_eq_getElem hkl] at hcs;exact Option.some.inj hcs
 have hp:=DO (Cs:=Cs) (j:=kk) (D:=[(q,HO.lst ys')]) hkl
 rw[e0] at hp
 have hpm:((Cs.set kk [(q,HO.lst ys')]).flatten.map (·.1)).Perm (Cs.flatten.map (·.1)):=by
  have:=hp.map (·.1)
  simp only[List.map_append,List.map_cons,List.map_nil] at this
  exact(List.perm_append_right_iff _).mp this
 have hpne:p∉Cs.flatten.map (·.1):=by
  have h1:=XH hk
  have:=(w.of (OO':=((p,HO.lst xs)::Cs.flatten)::OO.set k []) h1).nd
  rw[XO,List.map_cons,List.cons_append,List.nodup_cons] at this
  exact λz=>this.1 (List.mem_append_left _ z)
 have hqC:q∈Cs.flatten.map (·.1):=List.mem_map.mpr ⟨(q, .lst ys),Jw hcs _ (by simp),rfl⟩
 have hpq:p≠q:=λe=>hpne (e▸hqC)
 have hcells:∀c∈(p,HO.lst xs)::(Cs.set kk [(q,HO.lst ys')]).flatten,upd H q (.lst ys') c.1=some c.2/\N7 c.2=true:=λc hc=>by
  rcases List.mem_cons.mp hc with rfl |hc
  ·rw[XT hpq];exact⟨w.tr _ (hin _ List.mem_cons_self),rfl⟩
  ·obtain⟨D,hD,hcD⟩:=List.mem_flatten.mp hc
   rcases List.mem_or_eq_of_mem_set hD with hD |hD
   ·by_cases hcq:c.1=q
    ·-- a cell at q in another place:then it is this one
     have hc2:c∈(Cs.set kk [(q,HO.lst ys')]).flatten:=hc
     have n1:((Cs.set kk [(q,HO.lst ys')]).flatten.map (·.1)).Nodup:=hpm.nodup_iff.mpr cn0
     have hm:(q,HO.lst ys')∈(Cs.set kk [(q,HO.lst ys')]).flatten:=List.mem_flatten.mpr ⟨[(q, .lst ys')],List.mem_set (by simpa using hkl) _,by simp⟩
     have e1:c=(q,HO.lst ys'):=by
      have:=Fe n1 hc2 hm hcq
      exact this
     rw[e1];exact⟨X9,rfl⟩
    ·rw[XT hcq]
     have:c∈OO.flatten:=hin c (List.mem_cons_of_mem _ (List.mem_flatten.mpr ⟨D,hD,hcD⟩))
     exact⟨w.tr c this,w.mu c this⟩
   ·rw[hD] at hcD
    have e1:c=(q,HO.lst ys'):=by simpa using hcD
    rw[e1];exact⟨X9,rfl⟩
 have hq':q∈(Cs.set kk [(q,HO.lst ys')]).flatten.map (·.1):=hpm.mem_iff.mpr hqC
 obtain⟨w2,m2⟩:=BW (C':=(p, .lst xs)::(Cs.set kk [(q,HO.lst ys')]).flatten) (p:=q) (o:=.lst ys') w0 hk (List.mem_cons_of_mem _ hqC) (List.mem_cons_of_mem _ hq') (by
   rw[List.map_cons,List.nodup_cons]
   exact⟨λz=>hpne (hpm.mem_iff.mp z),hpm.nodup_iff.mpr cn0⟩) (λb hb=>by
   rw[List.append_nil]
   rcases List.mem_cons.mp hb with rfl |hb
   ·exact List.mem_cons_self
   ·exact List.mem_cons_of_mem _ (hpm.mem_iff.mp hb)) (λc hc=>(hcells c hc).1) λc hc=>(hcells c hc).2
 rw[Y5] at m2
 have e3:xs.set kk (.ref q)=xs:=by
  apply List.ext_getElem?
  intro n
  by_cases hn:n=kk
  ·subst hn
   rw[hx,List.getElem?_set_self (by
    rcases Nat.lt_or_ge n xs.length with h |h
    ·exact h
    ·rw[List.getElem?_eq_none h] at hx;cases hx)]
  ·rw[List.getElem?_set_ne (λe=>hn e.symm)]
 refine⟨_,w2,m2,⟨p,xs,Cs.set kk [(q,HO.lst ys')],rfl,?_,rfl⟩⟩
 have:=P3.set (F:=oL (oF r) K (hid (upd H q (.lst ys')) (OO.set k ((p, .lst xs)::(Cs.set kk [(q,HO.lst ys')]).flatten)))) (a:=V.ref q) (b:=row') (c:=[(q,HO.lst ys')])
  ⟨q,ys',List.replicate row'.length [],rfl,(P3.of (Paired.imp2 (λ_ _ h=>z.mono m2 h) pr)).imp λ_ _ _ h=>h,by rw[Yd]⟩ kk (P3.imp (λ_ _ _ h=>MonoO.mono m2 h) hP)
 rw[e3] at this
 exact this
theorem F5 {r:Enc α}{h:Hp}{as:List (List α)}{xs:List V}{Cs:List (List Xx)}{kk:Nat}{row:List α}(q:P3 (oL (oF r) K h) xs as Cs)(hrow:as[kk]?=some row):∃q0 ys,xs[kk]?=some (.ref q0)/\Cs[kk]?=some [(q0, .lst ys)]/\Paired (r K h) ys row:=by
 obtain⟨x,c,h1,h2,p,ys,Ds,e,h3,h4⟩:=q.get hrow
 obtain⟨h5,h6⟩:=P3.flat h3
 rw[h6] at h4
 exact⟨p,ys,by rw[h1,e],by rw[h2,h4],h5⟩
theorem U9 {F:V->α->Prop}{y:V}{a:α}(r:F y a):∀{l:List V}{m:List α} (i:Nat),Paired F l m->Paired F (l.set i y) (m.set i a)
 |_,_,_, .nil=>.nil
 |_,_,0, .cons _ t=>.cons r t
 |_,_,i+1, .cons q t=>.cons q (U9 r i t)
theorem Jy {ta ti tj:TE}{r:Enc α}[z:MonoE r]{m:Rs α}{mi mj:Rs Int}{f:List (List α)->Rs β}{v:V}{as:List (List α)}{C:List Xx}(i k:Nat)(hσ:σ[i]?=some (some v))(hk:OO[k]?=some C)(h:∀x,S.p x->oL (oL (oF r)) K x v as C)(he:EvS K Er S OO σ ta r m)
  (hi:EvB K Er S OO σ ti Xe mi)(hj:EvB K Er S OO σ tj Xe mj)
  (hr:∀bs C',Sv Er (S.addO K (oL (oL (oF r))) v bs C') (OO.set k C') σ u Fd (f bs)):
  Sv Er S OO σ (YX (Dq ta (PL (tOp (B9 K) (Qb i) ti) tj Ij)) u) Fd (m.bind λa=>mi.bind λx=>(atR as x).bind λrow=>mj.bind λy=>(Vw row y a).bind λrow'=>(Vw as x row').bind f):=λH D w s P=>
 he.st w s P λa va H1 s1 w1 q1 r1 P1=>⟨v,hσ,hi.st w1 q1 P1 λx vx H2 s2 w2 q2 r2 P2=>by
  cases ea:atR as x with
  |bad=>rw[ea] at P2;exact P2.elim
  |err ex=>exact absurd ea V1
  |ok row=>
   rw[ea] at P2
   obtain⟨kk,hkk,hrow⟩:=Eh ea
   obtain⟨p,xs,Cs,e,q,c⟩:=h _ q2
   subst c e
   obtain⟨q0,ys,g1,g2,g3⟩:=F5 q hrow
   have hin:∀c∈(p,HO.lst xs)::Cs.flatten,c∈OO.flatten:=λc hc=>List.mem_flatten.mpr ⟨_,List.mem_of_getElem? hk,hc⟩
   have hH:H2 p=some (.lst xs):=w2.tr (p, .lst xs) (hin _ List.mem_cons_self)
   have hq0:H2 q0=some (.lst ys):=w2.tr (q0, .lst ys) (hin _ (List.mem_cons_of_mem _ (Jw g2 _ (by simp))))
   refine⟨p,xs,x, .ref q0,rfl,r2,SqL.of hH,by unfold atI;rw[q.len.1,hkk];exact g1,hj.st w2 q2 (f:=λy=>(Vw row y a).bind λrow'=>(Vw as x row').bind f) P2 λy vy H3 s3 w3 q3 r3 P3'=>?_⟩
   cases eb:Vw row y a with
   |bad=>rw[eb] at P3';exact P3'.elim
   |err ex=>exact absurd eb B4
   |ok row'=>
    rw[eb] at P3'
    obtain⟨jj,hjj,rfl⟩:=Hk eb
    have P4:PZ Er (Fd D) (hid H3 OO) (f (as.set kk (row.set jj a))):=by
     have e5:Vw as x (row.set jj a)= .ok (as.set kk (row.set jj a)):=by unfold Vw;rw[hkk]
     have:PZ Er (Fd D) (hid H3 OO) ((Vw as x (row.set jj a)).bind f):=P3'
     rw[e5] at this
     exact this
    have m3:=Xk (OO:=OO) s3
    obtain⟨C',w4,m4,o4⟩:=Dc (ys':=ys.set jj va) (row':=row.set jj a) (v:=.ref p) w3 hk (P3.imp (λ_ _ _ h=>MonoO.mono m3 h) q) hrow g1 (s3 _ _ hq0) g2 (U9 (z.mono ((Xk s2).trans m3) r1) jj (Paired.imp2 (λ_ _ h=>z.mono m3 h) g3))
    exact⟨q0,ys,y,jj,rfl,r3,s3 _ _ hq0,by rw[Paired.len g3];exact hjj,hr _ C' _ D w4 ⟨S.mono _ _ m4 q3,o4⟩ (PZ.tr (fd.tr D) m4 P4)⟩⟩
theorem Lb {ta ti:TE}{r:Enc α}[z:MonoE r]{m:Rs α}{mi:Rs Int}{f:List (List α)->Rs β}{v:V}{as:List (List α)}{C:List Xx}(i k:Nat)(hσ:σ[i]?=some (some v))(hk:OO[k]?=some C)(h:∀x,S.p x->oL (oL (oF r)) K x v as C)(he:EvS K Er S OO σ ta r m)
  (hi:EvB K Er S OO σ ti Xe mi)
  (hr:∀bs C',Sv Er (S.addO K (oL (oL (oF r))) v bs C') (OO.set k C') σ u Fd (f bs)):
  Sv Er S OO σ (YX (Jv (tBM K "list" Qd (tOp (B9 K) (Qb i) ti) (Xv ta Yq))) u) Fd (mi.bind λx=>(atR as x).bind λrow=>m.bind λa=>chk (row.length<sizeLine) ((Vw as x (row++[a])).bind f)):=λH D w s P=>
 ⟨v,hσ,hi.st w s P λx vx H2 s2 w2 q2 r2 P2=>by
  cases ea:atR as x with
  |bad=>rw[ea] at P2;exact P2.elim
  |err ex=>exact absurd ea V1
  |ok row=>
   rw[ea] at P2
   obtain⟨kk,hkk,hrow⟩:=Eh ea
   obtain⟨p,xs,Cs,e,q,c⟩:=h _ q2
   subst c e
   obtain⟨q0,ys,g1,g2,g3⟩:=F5 q hrow
   have hin:∀c∈(p,HO.lst xs)::Cs.flatten,c∈OO.flatten:=λc hc=>List.mem_flatten.mpr ⟨_,List.mem_of_getElem? hk,hc⟩
   have hH:H2 p=some (.lst xs):=w2.tr (p, .lst xs) (hin _ List.mem_cons_self)
   have hq0:H2 q0=some (.lst ys):=w2.tr (q0, .lst ys) (hin _ (List.mem_cons_of_mem _ (Jw g2 _ (by simp))))
   refine⟨p,xs,x, .ref q0,rfl,r2,SqL.of hH,by unfold atI;rw[q.len.1,hkk];exact g1, .inl ⟨rfl,_,SqL.of hq0⟩,he.st w2 q2 (f:=λa=>chk (row.length<sizeLine) ((Vw as x (row++[a])).bind f)) P2 λa va H3 s3 w3 q3 r3 P3'=>?_⟩
   obtain⟨hsz,P3'⟩:=PZ.chk P3'
   have P4:PZ Er (Fd D) (hid H3 OO) (f (as.set kk (row++[a]))):=by
    have e5:Vw as x (row++[a])= .ok (as.set kk (row++[a])):=by unfold Vw;rw[hkk]
    rw[e5] at P3'
    exact P3'
   have m3:=Xk (OO:=OO) s3
   obtain⟨C',w4,m4,o4⟩:=Dc (ys':=ys++[va]) (row':=row++[a]) (v:=.ref p) w3 hk (P3.imp (λ_ _ _ h=>MonoO.mono m3 h) q) hrow g1 (s3 _ _ hq0) g2 (Paired.app (Paired.imp2 (λ_ _ h=>z.mono m3 h) g3) (.cons r3 .nil))
   exact⟨q0,ys,va,rfl,rfl,s3 _ _ hq0,by rw[Paired.len g3];exact hsz,hr _ C' _ D w4 ⟨S.mono _ _ m4 q3,o4⟩ (PZ.tr (fd.tr D) m4 P4)⟩⟩
theorem RN {H H':Hp}{C D:List Xx}{k:Nat}(w:W OO H)(hk:OO[k]?=some C)(s:Xu H H')(w':W (D::OO.set k []) H')(m:Xu (hid H (OO.set k [])) (hid H' (D::OO.set k []))):
  W (D::OO) H'/\Xu (hid H OO) (hid H' (D::OO))/\JR (hid H' (D::OO.set k [])) (hid H' (D::OO)):=by
 have hp:=XH hk
 have wk:W (C::OO.set k []) H:=w.of hp
 have hC:∀c∈C,hid H (OO.set k []) c.1=some c.2:=λc hc=>YO (wk.cell c hc) (by
  have:=wk.nd
  rw[XO] at this
  exact λhb=>(List.nodup_append.mp this).2.2 c.1 (List.mem_map.mpr ⟨c,hc,rfl⟩) c.1 hb rfl)
 have hC':∀c∈C,H' c.1=some c.2/\c.1∉fl (D::OO.set k []):=λc hc=>X2 (m _ _ (hC c hc))
 have w2:W (C::D::OO.set k []) H':=by
  refine⟨λc hc=>?_,?_,λc hc=>?_⟩
  ·rw[List.flatten_cons,List.mem_append] at hc
   exact hc.elim (λhc=>(hC' c hc).1) λhc=>w'.tr c hc
  ·rw[XO]
   refine List.nodup_append.mpr ⟨?_,w'.nd,λa ha b hb e=>?_⟩
   ·have:=wk.nd
    rw[XO] at this
    exact(List.nodup_append.mp this).1
   ·obtain⟨c,hc,rfl⟩:=List.mem_map.mp ha
    subst e
    exact(hC' c hc).2 hb
  ·rw[List.flatten_cons,List.mem_append] at hc
   exact hc.elim (λhc=>wk.mu c (by simp[hc])) λhc=>w'.mu c hc
 have pe:(D::OO).flatten.Perm (C::D::OO.set k []).flatten:=by
  simp only[List.flatten_cons]
  refine List.Perm.trans (List.Perm.append_left D (by simpa using hp.symm:OO.flatten.Perm (C++(OO.set k []).flatten))) ?_
  rw[←List.append_assoc, ←List.append_assoc]
  exact List.perm_append_comm.append_right _
 have w3:=w2.of pe
 refine⟨w3,λb u q=>?_,λb u q i=>w3.i b u (X2 q).1 i⟩
 obtain⟨q1,q2⟩:=X2 q
 have q3:hid H (OO.set k []) b=some u:=YO q1 λz=>q2 ((JJ hp b).mp (by rw[XO];simp[z]))
 obtain⟨q4,q5⟩:=X2 (m _ _ q3)
 refine YO q4 λz=>?_
 have z2:=(JJ pe b).mp z
 rw[XO,List.mem_append] at z2
 rcases z2 with z2 |z2
 ·exact q2 ((JJ hp b).mp (by rw[XO];exact List.mem_append_left _ z2))
 ·exact q5 z2
theorem Re {r1:Enc γ}{o1:OE γ}[z:FrzC o1 r1][MonoE r1]{H:Hp}{v:V}{a:γ}{C:List Xx}{k:Nat}(w:W OO H)(hk:OO[k]?=some C)(s:S.p (hid H OO))(h:∀x,S.p x->o1 K x v a C):
  W (OO.set k []) H/\(S.add K r1 v a).p (hid H (OO.set k [])):=by
 have hp:=XH hk
 have wk:W (C::OO.set k []) H:=w.of hp
 have hs:Xu (hid H OO) (hid H (OO.set k [])):=by
  rw[←XI hp]
  exact Zx (Xu.refl _) λb hb=>by rw[XO];simp[hb]
 refine⟨wk.tail,S.mono _ _ hs s,z.frz (h _ s) hs λc hc=>YO (wk.cell c hc) ?_⟩
 have:=wk.nd
 rw[XO] at this
 exact λhb=>(List.nodup_append.mp this).2.2 c.1 (List.mem_map.mpr ⟨c,hc,rfl⟩) c.1 hb rfl
theorem E8 {te:TE}{o:OE α}[y:FlatO o]{r1:Enc γ}{o1:OE γ}[FrzC o1 r1][MonoE r1]{m:Rs α}{v:V}{a:γ}{C:List Xx}(k:Nat)(hk:OO[k]?=some C)(h:∀x,S.p x->o1 K x v a C)(he:Ev K Er (S.add K r1 v a) (OO.set k []) (OO.set k []) σ te o m):Ev K Er S OO OO σ te o m:=λH Q w s P=>by
 obtain⟨w1,s1⟩:=Re (r1:=r1) w hk s h
 refine he H Q w1 s1 (P.imp λb _ hb v' D H' s' w' m' ho=>?_)
 obtain⟨w3,m3,i3⟩:=RN w hk s' w' m'
 exact hb v' D H' s' w3 m3 (y.flat i3 ho)
theorem QJ (K:PySem.W.Frag)(T:String):PySem.W.kitOne K (.type T) (.type T)=some true:=by
 unfold PySem.W.kitOne
 rw[if_pos (beq_self_eq_true _)]
theorem GE (K:PySem.W.Frag):PySem.W.kitOne K (.type "int") (.type "bool")=some false:=by
 first
  |rfl
  |decide+kernel
  | (unfold PySem.W.kitOne PySem.W.kitCls;rfl)
end
section
variable {K:PySem.W.Frag}{Er:Exc->Hp->Prop}{S:SC}{OO OO' OO1 OO2:List (List Xx)}{σ:St}{α β γ ρ ι δ ε:Type}
variable {Fd:Ends->β->Hp->Prop}[fd:FdOk Fd]{u:TS}
noncomputable def Pw:Option α->Rs α
 |some a=>.ok a
 |none=>.bad
theorem Pf {te:TE}{r:Enc α}{m:Rs (Option α)}(he:EvB K Er S OO σ te (Bp r) m):EvB K Er S OO σ te r (m.bind Pw):=λH Q w s P=>by
 refine he H Q w s ?_
 cases m with
 |bad=>exact P
 |err x=>exact P
 |ok a=>
  cases a with
  |none=>exact P.elim
  |some a=>exact λv H' s' hr=>P v H' s' hr.2
theorem RV {r:Enc α}{q:Enc γ}{K:PySem.W.Frag}{h:Hp}{v:V}{a:α×γ}{C:List Xx}(q:oF (rP2 r q) K h v a C):v≠ .non:=by
 obtain⟨_,p,x,y,e,_⟩:=q
 rw[e];exact λz=>nomatch z
end
section
variable {K:PySem.W.Frag}{Er:Exc->Hp->Prop}{S:SC}{OO OO' OO1 OO2:List (List Xx)}{σ:St}{α β γ ρ ι δ ε:Type}
variable {α1 α2 α3 α4 α5:Type}
noncomputable def rP4 (r1:Enc α1)(r2:Enc α2)(r3:Enc α3)(r4:Enc α4):Enc (α1×α2×α3×α4):=λK H v p=>∃ a x1 x2 x3 x4,v= .ref a/\H a=some (.tup [x1,x2,x3,x4])/\r1 K H x1 p.1/\r2 K H x2 p.2.1/\r3 K H x3 p.2.2.1/\r4 K H x4 p.2.2.2
instance {r1:Enc α1}{r2:Enc α2}{r3:Enc α3}{r4:Enc α4}[m1:MonoE r1][m2:MonoE r2][m3:MonoE r3][m4:MonoE r4]:MonoE (rP4 r1 r2 r3 r4):=⟨λs r9=>by obtain⟨a,x1,x2,x3,x4,e,h,p1,p2,p3,p4⟩:=r9;exact⟨a,x1,x2,x3,x4,e,s _ _ h,m1.mono s p1,m2.mono s p2,m3.mono s p3,m4.mono s p4⟩⟩
instance {r1:Enc α1}{r2:Enc α2}{r3:Enc α3}{r4:Enc α4}[m1:FlatE r1][m2:FlatE r2][m3:FlatE r3][m4:FlatE r4]:FlatE (rP4 r1 r2 r3 r4):=⟨λs r9=>by obtain⟨a,x1,x2,x3,x4,e,h,p1,p2,p3,p4⟩:=r9;exact⟨a,x1,x2,x3,x4,e,s _ _ h rfl,m1.flat s p1,m2.flat s p2,m3.flat s p3,m4.flat s p4⟩⟩
instance {r1:Enc α1}{r2:Enc α2}{r3:Enc α3}{r4:Enc α4}:TyE (rP4 r1 r2 r3 r4) "tuple":=⟨λr9=>by obtain⟨p,x1,x2,x3,x4,e,q,_⟩:=r9;exact by subst e;exact .tup q⟩
theorem QV {ta:TE}{r1:Enc α1}{r2:Enc α2}{r3:Enc α3}{r4:Enc α4}{m:Rs (α1×α2×α3×α4)}(ha:EvB K Er S OO σ ta (rP4 r1 r2 r3 r4) m):EvB K Er S OO σ (tOp (Fj K) ta (tC (.int 2))) r3 (m.bind λp=>.ok p.2.2.1):=λH Q w s P=>
 ha.run w s FB.tr P λa x H1 s1 w1 q1 r9 P1=>by obtain⟨p,x1,x2,x3,x4,e,q,h1,h2,h3,h4⟩:=r9;exact⟨p,_,2,x3,e,rfl,SqT.of q,rfl,P1 _ H1 (Xu.refl _) h3⟩
theorem KE {ta:TE}{r1:Enc α1}{r2:Enc α2}{r3:Enc α3}{r4:Enc α4}{m:Rs (α1×α2×α3×α4)}(ha:EvB K Er S OO σ ta (rP4 r1 r2 r3 r4) m):EvB K Er S OO σ (tOp (Fj K) ta (tC (.int 3))) r4 (m.bind λp=>.ok p.2.2.2):=λH Q w s P=>
 ha.run w s FB.tr P λa x H1 s1 w1 q1 r9 P1=>by obtain⟨p,x1,x2,x3,x4,e,q,h1,h2,h3,h4⟩:=r9;exact⟨p,_,3,x4,e,rfl,SqT.of q,rfl,P1 _ H1 (Xu.refl _) h4⟩
theorem IQ {t1:TE}{t2:TE}{t3:TE}{t4:TE}{r1:Enc α1}{r2:Enc α2}{r3:Enc α3}{r4:Enc α4}[z1:MonoE r1][z2:MonoE r2][z3:MonoE r3][z4:MonoE r4]{m1:Rs α1}{m2:Rs α2}{m3:Rs α3}{m4:Rs α4}(h1:EvS K Er S OO σ t1 r1 m1)(h2:EvS K Er S OO σ t2 r2 m2)(h3:EvS K Er S OO σ t3 r3 m3)(h4:EvS K Er S OO σ t4 r4 m4):EvS K Er S OO σ (N9 (Xv t1 (Xv t2 (Xv t3 (Xv t4 Yq))))) (rP4 r1 r2 r3 r4) (m1.bind λa1=>m2.bind λa2=>m3.bind λa3=>m4.bind λa4=>.ok (a1,a2,a3,a4)):=λH Q w s P=>
 h1.run w s FS.tr P λa1 y1 H1 s1 w1 u1 q1 P1=>h2.run w1 u1 FS.tr P1 λa2 y2 H2 s2 w2 u2 q2 P2=>h3.run w2 u2 FS.tr P2 λa3 y3 H3 s3 w3 u3 q3 P3=>h4.run w3 u3 FS.tr P3 λa4 y4 H4 s4 w4 u4 q4 P4=>⟨by show 4<=sizeLine;decide,λp hp=>P4 _ _ (XQ hp _) ⟨p,y1,y2,y3,y4,rfl,VD w4 hp,z1.mono ((Xk s2).trans ((Xk s3).trans ((Xk s4).trans (Xk (XQ hp _))))) q1,z2.mono ((Xk s3).trans ((Xk s4).trans (Xk (XQ hp _)))) q2,z3.mono ((Xk s4).trans (Xk (XQ hp _))) q3,z4.mono (Xk (XQ hp _)) q4⟩⟩
@[reducible] noncomputable def tg4 {r1:Enc α1}{r2:Enc α2}{r3:Enc α3}{r4:Enc α4}[MonoE r1][MonoE r2][MonoE r3][MonoE r4](i1 i2 i3 i4:Nat):Tgt K OO (Li K 4 (ZS (Yz i1) (ZS (Yz i2) (ZS (Yz i3) (ZS (Yz i4) NL))))) (rP4 r1 r2 r3 r4) (V×V×V×V) where
 set:=λv σ=>((((σ.set i1 (some v.1)).set i2 (some v.2.1)).set i3 (some v.2.2.1)).set i4 (some v.2.2.2))
 sc:=λa v S=>((((S.add K r1 v.1 a.1).add K r2 v.2.1 a.2.1).add K r3 v.2.2.1 a.2.2.1).add K r4 v.2.2.2 a.2.2.2)
 ok:=fun {H v a σ S Q} r9 hs hq=>by obtain⟨p,x1,x2,x3,x4,e,h,h1,h2,h3,h4⟩:=r9;exact⟨p,_,e,SqT.of (XB _ _ h),rfl,x1,[x2,x3,x4],rfl,x2,[x3,x4],rfl,x3,[x4],rfl,x4,[],rfl,rfl,hq (x1,x2,x3,x4) ⟨⟨⟨⟨hs,h1⟩,h2⟩,h3⟩,h4⟩⟩
noncomputable def rP5 (r1:Enc α1)(r2:Enc α2)(r3:Enc α3)(r4:Enc α4)(r5:Enc α5):Enc (α1×α2×α3×α4×α5):=λK H v p=>∃ a x1 x2 x3 x4 x5,v= .ref a/\H a=some (.tup [x1,x2,x3,x4,x5])/\r1 K H x1 p.1/\r2 K H x2 p.2.1/\r3 K H x3 p.2.2.1/\r4 K H x4 p.2.2.2.1/\r5 K H x5 p.2.2.2.2
instance {r1:Enc α1}{r2:Enc α2}{r3:Enc α3}{r4:Enc α4}{r5:Enc α5}[m1:MonoE r1][m2:MonoE r2][m3:MonoE r3][m4:MonoE r4][m5:MonoE r5]:MonoE (rP5 r1 r2 r3 r4 r5):=⟨λs r9=>by obtain⟨a,x1,x2,x3,x4,x5,e,h,p1,p2,p3,p4,p5⟩:=r9;exact⟨a,x1,x2,x3,x4,x5,e,s _ _ h,m1.mono s p1,m2.mono s p2,m3.mono s p3,m4.mono s p4,m5.mono s p5⟩⟩
instance {r1:Enc α1}{r2:Enc α2}{r3:Enc α3}{r4:Enc α4}{r5:Enc α5}[m1:FlatE r1][m2:FlatE r2][m3:FlatE r3][m4:FlatE r4][m5:FlatE r5]:FlatE (rP5 r1 r2 r3 r4 r5):=⟨λs r9=>by obtain⟨a,x1,x2,x3,x4,x5,e,h,p1,p2,p3,p4,p5⟩:=r9;exact⟨a,x1,x2,x3,x4,x5,e,s _ _ h rfl,m1.flat s p1,m2.flat s p2,m3.flat s p3,m4.flat s p4,m5.flat s p5⟩⟩
instance {r1:Enc α1}{r2:Enc α2}{r3:Enc α3}{r4:Enc α4}{r5:Enc α5}:TyE (rP5 r1 r2 r3 r4 r5) "tuple":=⟨λr9=>by obtain⟨p,x1,x2,x3,x4,x5,e,q,_⟩:=r9;exact by subst e;exact .tup q⟩
@[reducible] noncomputable def tg5 {r1:Enc α1}{r2:Enc α2}{r3:Enc α3}{r4:Enc α4}{r5:Enc α5}[MonoE r1][MonoE r2][MonoE r3][MonoE r4][MonoE r5](i1 i2 i3 i4 i5:Nat):Tgt K OO (Li K 5 (ZS (Yz i1) (ZS (Yz i2) (ZS (Yz i3) (ZS (Yz i4) (ZS (Yz i5) NL)))))) (rP5 r1 r2 r3 r4 r5) (V×V×V×V×V) where
 set:=λv σ=>(((((σ.set i1 (some v.1)).set i2 (some v.2.1)).set i3 (some v.2.2.1)).set i4 (some v.2.2.2.1)).set i5 (some v.2.2.2.2))
 sc:=λa v S=>(((((S.add K r1 v.1 a.1).add K r2 v.2.1 a.2.1).add K r3 v.2.2.1 a.2.2.1).add K r4 v.2.2.2.1 a.2.2.2.1).add K r5 v.2.2.2.2 a.2.2.2.2)
 ok:=fun {H v a σ S Q} r9 hs hq=>by obtain⟨p,x1,x2,x3,x4,x5,e,h,h1,h2,h3,h4,h5⟩:=r9;exact⟨p,_,e,SqT.of (XB _ _ h),rfl,x1,[x2,x3,x4,x5],rfl,x2,[x3,x4,x5],rfl,x3,[x4,x5],rfl,x4,[x5],rfl,x5,[],rfl,rfl,hq (x1,x2,x3,x4,x5) ⟨⟨⟨⟨⟨hs,h1⟩,h2⟩,h3⟩,h4⟩,h5⟩⟩
noncomputable def R1 (as:List Int):Rs Int:=chk (0<as.length) (.ok (Iq as))
noncomputable def Sc (as:List Int):Rs Int:=chk (0<as.length) (.ok (HX as))
theorem KF {ta:TE}{ma:Rs (List Int)}(ha:EvB K Er S OO σ ta (rPL Xe) ma):EvB K Er S OO σ (tCB (IU K Iq) (Xv ta Yq)) Xe (ma.bind R1):=λH Q w s P=>
 ha.run w s FB.tr P λa x H1 s1 w1 q1 ⟨p,xs,e,q,pr⟩ P1=>by
  obtain⟨h1,P1⟩:=PZ.chk P1
  exact⟨p,a,by rw[e],by rw[←UI pr];exact SqT.of q,h1,P1 _ H1 (Xu.refl _) rfl⟩
theorem KD {ta:TE}{m:Rs (Int×Int)}(ha:EvB K Er S OO σ ta (rP2 Xe Xe) m):EvB K Er S OO σ ta (rPL Xe) (m.bind λp=>.ok [p.1,p.2]):=λH Q w s P=>
 ha.run w s FB.tr P λa x H1 s1 w1 q1 r9 P1=>by obtain⟨p,x1,x2,e,q,h1,h2⟩:=r9;exact P1 _ H1 (Xu.refl _) ⟨p,_,e,q, .cons h1 (.cons h2 .nil)⟩
theorem ZY {ta:TE}{m:Rs (Int×Int×Int×Int)}(ha:EvB K Er S OO σ ta (rP4 Xe Xe Xe Xe) m):EvB K Er S OO σ ta (rPL Xe) (m.bind λp=>.ok [p.1,p.2.1,p.2.2.1,p.2.2.2]):=λH Q w s P=>
 ha.run w s FB.tr P λa x H1 s1 w1 q1 r9 P1=>by obtain⟨p,x1,x2,x3,x4,e,q,h1,h2,h3,h4⟩:=r9;exact P1 _ H1 (Xu.refl _) ⟨p,_,e,q, .cons h1 (.cons h2 (.cons h3 (.cons h4 .nil)))⟩
theorem Ym {te:TE}{tl th:TO}{r:Enc α}[z:MonoE r]{m:Rs (List α)}{ml mh:Rs (Option Int)}(he:EvB K Er S OO σ te (rPL r) m)(hl:EvP Er S OO σ tl ml)(hh:EvP Er S OO σ th mh):
  EvB K Er S OO σ (tSl (P7 K) te tl th) (rPL r) (m.bind λas=>ml.bind λlo=>mh.bind λhi=>chk (¬(HT.sIx as.length 0 lo=0/\HT.sIx as.length as.length hi=as.length)) (.ok (Kb as lo hi))):=λH Q w s P=>
 he.run w s FB.tr P λas x H1 s1 w1 q1 ⟨p,xs,e,q,pr⟩ P1=>hl.run w1 q1 FB.tr P1 λlo H2 s2 w2 q2 P2=>hh.run w2 q2 FB.tr P2 λhi H3 s3 w3 q3 P3'=>by
  obtain⟨hn,P3'⟩:=PZ.chk P3'
  have pr2:=JI (Paired.imp2 (G:=r K H3) (λ_ _ h=>z.mono (s2.trans s3) h) pr) lo hi
  exact⟨p,xs,e,SqT.of (s3 _ _ (s2 _ _ q)),by rw[Paired.len pr];exact hn,λa ha=>P3' _ _ (XQ ha _) ⟨a,_,rfl,X9,Paired.imp2 (λ_ _ h=>z.mono (XQ ha _) h) pr2⟩⟩
noncomputable def rDP {α:Type}(r:Enc α)(K:PySem.W.Frag)(H:Hp)(kv:Key×V)(kx:Int×α):Prop:=kv.1= .inl kx.1/\r K H kv.2 kx.2
noncomputable def rD {α:Type}(r:Enc α):Enc (List (Int×α)):=λK H v d=>∃ p kvs,v= .ref p/\H p=some (.dK kvs)/\Paired (rDP r K H) kvs d
noncomputable def oD {α:Type}(r:Enc α):OE (List (Int×α)):=λK h v d C=>∃ p kvs,v= .ref p/\Paired (rDP r K h) kvs d/\C=[(p, .dK kvs)]
instance {r:Enc α}[m:MonoE r]:MonoE (rD r):=⟨λs r9=>by obtain⟨p,kvs,e,q,pr⟩:=r9;exact⟨p,kvs,e,s _ _ q,Paired.imp2 (λ_ _ z=>⟨z.1,m.mono s z.2⟩) pr⟩⟩
instance {r:Enc α}[m:MonoE r]:MonoO (oD r):=⟨λs r9=>by obtain⟨p,kvs,e,pr,c⟩:=r9;exact⟨p,kvs,e,Paired.imp2 (λ_ _ z=>⟨z.1,m.mono s z.2⟩) pr,c⟩⟩
instance {r:Enc α}[m:FlatE r]:FlatO (oD r):=⟨λs r9=>by obtain⟨p,kvs,e,pr,c⟩:=r9;exact⟨p,kvs,e,Paired.imp2 (λ_ _ z=>⟨z.1,m.flat s z.2⟩) pr,c⟩⟩
instance {r:Enc α}[m:MonoE r]:FrzC (oD r) (rD r):=⟨λr9 s hc=>by obtain⟨p,kvs,e,pr,c⟩:=r9;exact⟨p,kvs,e,hc (p, .dK kvs) (by rw[c];simp),Paired.imp2 (λ_ _ z=>⟨z.1,m.mono s z.2⟩) pr⟩⟩
noncomputable def QL (d:List (Int×α))(k:Int):Option α:=(d.find? λkv=>decide (kv.1=k)).map (·.2)
noncomputable def UW (d:List (Int×α))(k:Int)(v:α):List (Int×α):=if(d.any λkv=>decide (kv.1=k))=true then d.map (λkv=>if kv.1=k then(kv.1,v) else kv) else d++[(k,v)]
noncomputable def BA (d:List (Int×α))(k:Int):Rs α:=Pw (QL d k)
theorem ZI {r:Enc α}{H:Hp}{k:Int}:∀{kvs:List (Key×V)}{d:List (Int×α)},Paired (rDP r K H) kvs d->(∀a,QL d k=some a->∃v,GN kvs (.inl k)=some v/\r K H v a)/\(GN kvs (.inl k)).isSome=(QL d k).isSome
 |_,_, .nil=>⟨λa h=>(by cases h),rfl⟩
 |kv::kvs,kx::d, .cons h t=>by
  obtain⟨h1,h2⟩:=ZI (k:=k) t
  by_cases e:kx.1=k
  ·have e2:kv.1= .inl k:=by rw[h.1,e]
   rw[VI e2]
   have e3:QL (kx::d) k=some kx.2:=by simp[QL,List.find?_cons,e]
   rw[e3]
   exact⟨λa ha=>by cases ha;exact⟨_,rfl,h.2⟩,rfl⟩
  ·have e2:¬kv.1= .inl k:=by rw[h.1];exact λz=>e (Sum.inl.inj z)
   rw[VF e2]
   have e3:QL (kx::d) k=QL d k:=by simp[QL,List.find?_cons,e]
   rw[e3]
   exact⟨h1,h2⟩
theorem Kh {r:Enc α}{H:Hp}{k:Int}:∀{kvs:List (Key×V)}{d:List (Int×α)},Paired (rDP r K H) kvs d->(kvs.any λkv=>decide (kv.1= .inl k))=d.any λkx=>decide (kx.1=k)
 |_,_, .nil=>rfl
 |kv::kvs,kx::d, .cons h t=>by
  rw[List.any_cons,List.any_cons,Kh t,h.1]
  congr 1
  rw[Bool.eq_iff_iff];simp
theorem V2 {r:Enc α}{H:Hp}{k:Int}{v:V}{a:α}(hv:r K H v a){kvs:List (Key×V)}{d:List (Int×α)}(h:Paired (rDP r K H) kvs d):Paired (rDP r K H) (Ue kvs (.inl k) v) (UW d k a):=by
 unfold Ue UW
 rw[Kh h]
 by_cases e:(d.any λkx=>decide (kx.1=k))=true
 ·rw[if_pos e,if_pos e]
  clear e
  induction h with
  |nil=>exact .nil
  | @cons kv kx l m h t ih=>
   refine .cons ?_ ih
   show rDP r K H (if kv.1= .inl k then(kv.1,v) else kv) (if kx.1=k then(kx.1,a) else kx)
   by_cases e:kx.1=k
   ·rw[if_pos (show kv.1= .inl k by rw[h.1,e]),if_pos e];exact⟨h.1,hv⟩
   ·rw[if_neg (show ¬kv.1= .inl k by rw[h.1];exact λz=>e (Sum.inl.inj z)),if_neg e];exact h
 ·rw[if_neg e,if_neg e]
  exact Paired.app h (.cons ⟨rfl,hv⟩ .nil)
theorem NA {r:Enc α}:Ev K Er S OO OO σ LF (oD r) (.ok []):=λH Q w s P=>λp hp=>P (.ref p) [(p, .dK [])] _ (XQ hp _) (w.new hp rfl) (JX hp) ⟨p,[],rfl, .nil,rfl⟩
theorem VC {td ty:TE}{r:Enc α}[z:MonoE r]{md:Rs (List (Int×α))}{mk:Rs Int}(hd:EvB K Er S OO σ td (rD r) md)(hk:EvB K Er S OO σ ty Xe mk):EvB K Er S OO σ (Pi td ty) r (md.bind λd=>mk.bind λk=>BA d k):=λH Q w s P=>
 hd.run w s FB.tr P λd x H1 s1 w1 q1 ⟨p,kvs,e,q,pr⟩ P1=>hk.run w1 q1 FB.tr P1 λk y H2 s2 w2 q2 r2 P2=>by
  cases eg:QL d k with
  |none=>rw[BA,eg] at P2;exact P2.elim
  |some a=>
   rw[BA,eg] at P2
   obtain⟨v,hv,rv⟩:=(ZI (k:=k) pr).1 a eg
   exact⟨p,v,e, .inl ⟨kvs, .inl k, .inl (s2 _ _ q),r2,hv.symm⟩,P2 _ H2 (Xu.refl _) (z.mono s2 rv)⟩
theorem Fs {td ty:TE}{r:Enc α}{md:Rs (List (Int×α))}{mk:Rs Int}(hk:EvB K Er S OO σ ty Xe mk)(hd:EvB K Er S OO σ td (rD r) md):EvB K Er S OO σ (Sh ty td) Xy (mk.bind λk=>md.bind λd=>.ok (QL d k).isSome):=λH Q w s P=>
 hk.run w s FB.tr P λk y H1 s1 w1 q1 r1 P1=>hd.run w1 q1 FB.tr P1 λd x H2 s2 w2 q2 r9 P2=>by obtain⟨p,kvs,e,q,pr⟩:=r9;exact⟨p,GN kvs (.inl k),e, .inl ⟨kvs, .inl k, .inl q,r1,rfl⟩,P2 _ H2 (Xu.refl _) (by rw[(ZI (k:=k) pr).2];rfl)⟩
variable {Fd:Ends->β->Hp->Prop}[fd:FdOk Fd]{u:TS}
theorem NK {tv ty:TE}{r:Enc α}[z:MonoE r]{mv:Rs α}{mk:Rs Int}{f:List (Int×α)->Rs β}{v:V}{d:List (Int×α)}{C:List Xx}(i k:Nat)(hσ:σ[i]?=some (some v))(hk:OO[k]?=some C)(h:∀x,S.p x->oD r K x v d C)(hv:EvS K Er S OO σ tv r mv)(hy:EvB K Er S OO σ ty Xe mk)
  (hr:∀d' C',Sv Er (S.addO K (oD r) v d' C') (OO.set k C') σ u Fd (f d')):Sv Er S OO σ (YX (Nh (Qb i) ty tv) u) Fd (mv.bind λa=>mk.bind λn=>chk (d.length<sizeLine) (f (UW d n a))):=λH D w s P=>
 hv.st w s P λa va H1 s1 w1 q1 r1 P1=>⟨v,hσ,hy.st w1 q1 P1 λn vn H2 s2 w2 q2 r2 P2=>by
  obtain⟨hsz,P2⟩:=PZ.chk P2
  obtain⟨p,kvs,e,pr,c⟩:=h _ q2
  subst c e
  have hH:H2 p=some (.dK kvs):=w2.tr (p, .dK kvs) (List.mem_flatten.mpr ⟨_,List.mem_of_getElem? hk,by simp⟩)
  obtain⟨w3,m3⟩:=BW (D:=[]) (C':=[(p, .dK (Ue kvs (.inl n) va))]) (p:=p) (o:=.dK (Ue kvs (.inl n) va)) w2.nil hk (by simp) (by simp) (by simp) (λb hb=>by simpa using hb) (λc hc=>by
   have:c=(p, .dK (Ue kvs (.inl n) va)):=by simpa using hc
   rw[this];exact X9) (λc hc=>by
   have:c=(p, .dK (Ue kvs (.inl n) va)):=by simpa using hc
   rw[this];rfl)
  rw[Y5] at m3
  refine⟨p,_,rfl, .inl ⟨kvs, .inl n,hH,r2,by rw[Paired.len pr];exact hsz,rfl⟩,?_⟩
  exact hr _ _ _ D w3 ⟨S.mono _ _ m3 q2,⟨p,_,rfl,V2 (z.mono ((Xk s2).trans m3) r1) (Paired.imp2 (λ_ _ h=>⟨h.1,z.mono m3 h.2⟩) pr),rfl⟩⟩ (PZ.tr (fd.tr D) m3 P2)⟩
end
theorem Yp.ex {P:Program}{w:World}{H:Hp}{h:Heap}{a:Addr}{o:HO}(x:Yp P w H h a o):∃u,h.get? a=some u:=by
 cases o with
 |lst xs=>obtain⟨_,_,_,_,e⟩:=x;exact⟨_,e⟩
 |tup xs=>obtain⟨_,_,_,p⟩:=x;obtain⟨o,e,_⟩:=p;exact⟨_,e⟩
 |dK kvs=>obtain⟨_,_,_,_,o,_,_,e,_⟩:=x;exact⟨_,e⟩
 |dT kvs=>obtain⟨_,_,_,_,o,_,_,e,_⟩:=x;exact⟨_,e⟩
 |set S n=>obtain⟨o,_,_,_,e,_⟩:=x;exact⟨_,e⟩
 |ins C dx fs=>obtain⟨_,_,_,e,_⟩:=x;exact⟨_,e⟩
 |own y=>exact x
 |xd fs=>obtain⟨_,⟨_,_,_,e,_⟩,_⟩:=x;exact⟨_,e⟩
 |rng lo hi=>obtain⟨_,_,_,e⟩:=x;exact⟨_,e⟩
 |frz ob u=>exact⟨_,x.1⟩
 |tbl ps=>exact⟨_,x⟩
 |met f y=>exact⟨_,x⟩
 |ext φ=>exact x.2.1
theorem HOk.un0 {P:Program}{w:World}{H:Hp}{h:Heap}{a:Addr}(x:HOk P w H h)(e:h.get? a=none):H a=none:=by
 cases q:H a with
 |none=>rfl
 |some u=>obtain⟨v,hv⟩:=(x a u q).ex;rw[e] at hv;cases hv
structure Fl (h0 h:Heap)(H:Hp)(a T:Addr)(cls:Value):Prop where
 na:h0.get? a=none
 nT:h0.get? T=none
 fa:H a=none
 fT:H T=none
 ne:T≠a
 obj:∃oe vs oT ts a0,h.get? a=some oe/\oe.cls=cls/\vs[0]?=some a0/\oe.data= .fields vs/\vs[1]?=some (.ref T)/\h.get? T=some oT/\oT.data= .fields ts/\ts[3]?=some Value.none
noncomputable def RU (h:Heap)(fs:List Addr)(a T:Addr):Heap:=HL h (λb=>if b∈fs∨b=a∨b=T then some (.own 0) else none)
theorem DY {h:Heap}{fs:List Addr}{a T b:Addr}{o:Obj}(e:h.get? b=some o)(n1:b∉fs)(n2:b≠a)(n3:b≠T):(RU h fs a T).get? b=some o:=
 Du e (if_neg λz=>z.elim n1 λz=>z.elim n2 n3)
section
variable {P:Program}{w:World}{h0 h h' base:Heap}{H:Hp}{a T:Addr}{cls a0:Value}{l:List Env}
theorem Un.traced (hl:h.FunFrames base l)(keep:∀b o,b∉frs l->b≠a->b≠T->h.get? b=some o->h'.get? b=some o)(up:h.UpToSlots h'):Un (frs l) [a,T] H H h h' where
 keep:=λb o e _ hb hx=>keep b o hb (λz=>hx (by simp[z])) (λz=>hx (by simp[z])) e
 slot:=λb o e _ hb _=>by
  obtain⟨_,o2,ho2,hd2⟩:=hl.mem hb
  rw[e] at ho2;cases ho2
  exact up b o e hd2
 free:=λb o e n _=>n
 there:=λb o e hx=>by
  by_cases hb:b∈frs l
  ·obtain⟨_,o2,ho2,hd2⟩:=hl.mem hb
   obtain⟨sl,q⟩:=up b o2 ho2 hd2
   exact⟨_,q⟩
  ·exact⟨o,keep b o hb (λz=>hx (by simp[z])) (λz=>hx (by simp[z])) e⟩
 tups:=λ_ _ q=>q
 frzs:=λ_ _ _ q=>q
 tbls:=λ_ ps q=>⟨#[],by simpa using q⟩
theorem HOk.traced (hok:HOk P w H h)(hfn:∀b∈frs l,H b=none)(fa:H a=none)(fT:H T=none)(keep:∀b o,b∉frs l->b≠a->b≠T->h.get? b=some o->h'.get? b=some o):HOk P w H h':=λb o e=>by
 refine(hok b o e).stay (λc u hc q=>?_) (λ_ q=>q) λ_ _ q=>q
 have hn:H c≠none:=by
  rcases hc with z |z
  ·rw[z,e];exact λy=>nomatch y
  ·rw[z];exact λy=>nomatch y
 exact keep c u (λz=>hn (hfn c z)) (λz=>hn (z▸fa)) (λz=>hn (z▸fT)) q
theorem Fl.after (x:Fl h0 h H a T cls)(hl:h.FunFrames base l)(hfn:∀b∈frs l,H b=none)(hok:HOk P w H h)(th:∀b o,h0.get? b=some o->∃o',h.get? b=some o')
  (st:(RU h (frs l) a T).StaysIn h')(tr:h'.TracedW (RU h (frs l) a T) a cls a0)(up:h.UpToSlots h'):∃T',Fl h0 h' H a T' cls/\HOk P w H h'/\Un (frs l) [a,T] H H h h':=by
 obtain⟨oe,vs,T',oT,ts,ha,⟨hc,h0'⟩,hd,h1,hnT,hne,hT,hdT,h3⟩:=tr
 have key:T'=T∨h.get? T'=none:=by
  cases q:h.get? T' with
  |none=>exact .inr rfl
  |some o=>
   by_cases hf:T'∈frs l
   ·obtain⟨_,o2,ho2,hd2⟩:=hl.mem hf
    obtain⟨sl,e2⟩:=up T' o2 ho2 hd2
    rw[hT] at e2;cases e2
    exact absurd hdT (hd2 ts)
   ·by_cases hz:T'=T
    ·exact .inl hz
    ·rw[DY q hf hne hz] at hnT;cases hnT
 have keep:∀b o,b∉frs l->b≠a->b≠T->h.get? b=some o->h'.get? b=some o:=λb o n1 n2 n3 e=>st b o (DY e n1 n2 n3)
 refine⟨T',⟨x.na,?_,x.fa,?_,hne,oe,vs,oT,ts,a0,ha,hc,h0',hd,h1,hT,hdT,h3⟩,hok.traced hfn x.fa x.fT keep,Un.traced hl keep up⟩
 ·rcases key with e |e
  ·rw[e];exact x.nT
  ·cases q:h0.get? T' with
   |none=>rfl
   |some o=>obtain⟨o',e'⟩:=th _ _ q;rw[e] at e';cases e'
 ·rcases key with e |e
  ·rw[e];exact x.fT
  ·exact hok.un0 e
end
section
variable {fs fs2 ex ex2:List Addr}{H0 H H':Hp}{h0 h h':Heap}
end
section
variable {P:Program}{w:World}{K:PySem.W.Frag}{mg:Str->Option Value}{base:Heap}{N:List Str}{qual:Str}{scope:Scope}{f:Addr}{cd:Value}{A:Around}{outer:List Env}{s0:Shared}{H0:Hp}{E:XK}
end
section
variable {X:Cx}{k j:Nat}{x:Str}{ps:List Str}{sp:Sp}{e:Expr}{es:List Expr}{t:TA}{p pos:Pos}{E:XK}
end
section
variable {X:Cx}{E:XK}{C:Addr}{x:Str}{e:Expr}{es:List Expr}{t:TA}{np cpos pos:Pos}
end
noncomputable abbrev TJ:=St->Hp->(Hp->Prop)->Prop
section
variable {X:Cx}{e:Expr}{es:List Expr}{te:TE}{t:TJ}{n:Nat}{pos p:Pos}
end
noncomputable abbrev Cx.held (X:Cx)(a:Addr)(pn:List (Addr×Obj)):Cx:={X with A:=X.A.mark (some (.ref a)),calm:=false,pn:=pn,xe:=λ_ _=>False}
theorem Cx.Ok.held {X:Cx}(ok:X.Ok)(a:Addr)(pn:List (Addr×Obj)):(X.held a pn).Ok:=
 ⟨ok.mod,ok.kind,ok.glob,ok.blt,ok.above,ok.inj,ok.has,ok.cab,(λz=>nomatch z),ok.frames,ok.stk,ok.exf,ok.bs,ok.bsz,ok.noex,ok.exfs,ok.funs,ok.frf⟩
section
variable {X:Cx}{pins:List (Addr×Obj)}{σ:St}{H:Hp}{s:Shared}{h':Heap}
end
section
variable {X:Cx}{body suite:List Stmt}{b₀:Stmt}{cn n:Str}{Ch:Addr}{i:Nat}{tb:XK->TS}{ts:Addr->Addr->TS}{np hpos pos:Pos}
end
section
variable {K:PySem.W.Frag}{Er:Exc->Hp->Prop}{S:SC}{OO OO' OO2:List (List Xx)}{σ:St}{α β γ ρ ι:Type}{α1 α2 α3 α4 α5 α6:Type}{mg:Str->Option Value}{E:XK}
noncomputable def FJ (Q:Hp->Prop)(_:Unit)(H:Hp):Prop:=∀ H',Xu H H'->Q H'
theorem FJ.tr {Q:Hp->Prop}:∀(b:Unit) (H H':Hp),Xu H H'->FJ Q b H->FJ Q b H':=λ_ _ _ s h H2 s2=>h H2 (s.trans s2)
variable {Fd:Ends->β->Hp->Prop}[fd:FdOk Fd]{u:TS}
section
variable {te:XK->TE}{m:Rs α}{ts:Addr->Addr->TS}{N i:Nat}{Ch:Addr}{o:OE ρ}{g:Exc->Rs ρ}{ns:List Str}{d:Str}
end
end
end L2
namespace L2
open PySem PySem.Spec PyProof.Rows PySem.W PySem.Builtin PySem.Builtin.ObjectAttr PySem.Builtin.Getset_descriptor
section
variable {prog:Program}{w:World}{A:Around}{E:Value->Shared->Prop}{K:Frag}{x D:Addr}{s:Shared}
end
theorem Px {X:Cx}{x:Str}{v:V}{pos:Pos}(h:∃u,X.mg x=some u/\XW v u)(hg:Gl X x)(hd:(x==("__debug__":Str))=false:=by decide):PE X (.Name x pos) (tC v):=by
 obtain⟨u,hm,r⟩:=h
 exact NW hg hm r hd
theorem PS.nox {X:Cx}{st:Stmt}{t:TS}(h:PS X.nox st t):PS X st t:=λpins s σ H D I hw=>
 wpAny_mono (h pins s σ H D (I.wish _) hw) (λ_ _ q=>q.unwish) λ_ _ z=>False.elim z
section
variable {K:PySem.W.Frag}{C D:Addr}{b:Bool}
end
end L2
namespace L2
open PySem PySem.Spec PyProof.Rows
section
variable {α β:Type}{K:PySem.W.Frag}{Er:Exc->Hp->Prop}{S:SC}{OO:List (List Xx)}{σ:St}{Fd:Ends->β->Hp->Prop}[fd:FdOk Fd]{u:TS}
end
section
variable {α β γ δ ε:Type}
structure Crs (r:Enc α)(q:Enc β)(d:Nat):Prop where
 no:∀{X:Cx}{pins:List (Addr×Obj)}{σ:St}{H:Hp}{s:Shared}{x:V}{a:α}{b:β},Inv X pins σ H s->r X.K H x a->q X.K H x b->False
 lr:∀{X:Cx}{pins:List (Addr×Obj)}{σ:St}{H:Hp}{s:Shared}{x y:V}{v u:Value}{a:α}{b:β}{A:Around},Inv X pins σ H s->XW x v->XW y u->r X.K H x a->q X.K H y b->A.units+d<cLine->SeqAt.EqAt A s v u false/\SeqAt.RcAt A s v u false/\SeqAt.RcNeAt A s v u true
 rl:∀{X:Cx}{pins:List (Addr×Obj)}{σ:St}{H:Hp}{s:Shared}{x y:V}{v u:Value}{a:α}{b:β}{A:Around},Inv X pins σ H s->XW x v->XW y u->q X.K H x b->r X.K H y a->A.units+d<cLine->SeqAt.EqAt A s v u false/\SeqAt.RcAt A s v u false/\SeqAt.RcNeAt A s v u true
theorem Crs.up {r:Enc α}{q:Enc β}{d e:Nat}(c:Crs r q d)(h:d<=e):Crs r q e:=⟨c.no,λI rx ry h1 h2 hu=>c.lr I rx ry h1 h2 (by omega),λI rx ry h1 h2 hu=>c.rl I rx ry h1 h2 (by omega)⟩
end
section
variable {K:PySem.W.Frag}{Er:Exc->Hp->Prop}{S:SC}{OO OO' OO1 OO2:List (List Xx)}{σ:St}{α β γ ρ ι δ ε ζ:Type}
variable {Fd:Ends->β->Hp->Prop}[fd:FdOk Fd]{u:TS}
noncomputable def getL:α ⊕ γ->Rs α
 | .inl a=>.ok a
 | .inr _=>.bad
noncomputable def getR:α ⊕ γ->Rs γ
 | .inl _=>.bad
 | .inr b=>.ok b
noncomputable def RS:Enc V:=λ_ H v y=>∃ a x,v= .ref a/\H a=some (.tup [x,y])
instance:FlatE RS:=⟨λs r9=>by obtain⟨a,x,e,h⟩:=r9;exact⟨a,x,e,s _ _ h rfl⟩⟩
theorem OZ {v y:V}(i:Nat)(hσ:σ[i]?=some (some v))(h:∀x,S.p x->RS K x v y):∀(H:Hp) (Q:VK),W OO H->S.p (hid H OO)->Q y H->(tOp (Fj K) (Qb i) (tC (.int 1))) σ H Q:=λH Q w s q=>by
 obtain⟨a,x,e,hp⟩:=h _ s
 exact⟨v,hσ,a,_,1,y,e,rfl,SqT.of (XB _ _ hp),rfl,q⟩
theorem M2 {ta tl:TE}{o:OE α}[MonoO o]{m:Rs α}{f:List α->Rs β}{v:V}{as:List α}{C:List Xx}(k:Nat)(hte:∀(H:Hp) (Q:VK),W OO H->S.p (hid H OO)->Q v H->tl σ H Q)(hk:OO[k]?=some C)(hk':OO'[k]?=some C)(h:∀x,S.p x->oL o K x v as C)(he:Ev K Er S OO OO' σ ta o m)
  (hr:∀a C',Sv Er (S.addO K (oL o) v (as++[a]) C') (OO'.set k C') σ u Fd (f (as++[a]))):Sv Er S OO σ (YX (Jv (tBM K "list" Qd tl (Xv ta Yq))) u) Fd (m.bind λa=>chk (as.length<sizeLine) (f (as++[a]))):=λH D w s P=>by
 obtain⟨p,xs,Cs,e,q,c⟩:=h _ s
 subst c
 have hH:H p=some (.lst xs):=w.tr (p, .lst xs) (List.mem_flatten.mpr ⟨_,List.mem_of_getElem? hk,List.mem_cons_self⟩)
 refine hte _ _ w s ⟨by rw[e];exact .inl ⟨rfl,_,SqL.of hH⟩,he.st w s P λa y D' H' w' s' ho P'=>?_⟩
 obtain⟨p',xs',Cs',e2,q2,c2⟩:=h _ s'
 rw[e] at e2;cases e2
 have c3:(p,HO.lst xs)=(p,HO.lst xs')/\Cs.flatten=Cs'.flatten:=by
  injection c2 with h1 h2
  exact⟨h1,h2⟩
 obtain⟨c3,c4⟩:=c3
 cases c3
 have hH':H' p=some (.lst xs):=w'.tr (p, .lst xs) (by rw[List.flatten_cons];exact List.mem_append_right _ (List.mem_flatten.mpr ⟨_,List.mem_of_getElem? hk',List.mem_cons_self⟩))
 cases hlt:decide (as.length<sizeLine) with
 |false=>rw[chk,if_neg (by simpa using hlt)] at P';exact P'.elim
 |true=>
  have hlt':as.length<sizeLine:=by simpa using hlt
  rw[Xp hlt'] at P'
  have wnd:=w'.nd
  have hcell:∀c∈(p,HO.lst (xs++[y]))::(Cs'++[D']).flatten,upd H' p (.lst (xs++[y])) c.1=some c.2:=λc hc=>by
   rcases List.mem_cons.mp hc with rfl |hc
   ·exact X9
   ·have hp1:=XH hk'
    have w3:W [D'++(((p,HO.lst xs)::Cs.flatten)++(OO'.set k []).flatten)] H':=w'.of (by
     simp only[List.flatten_cons,List.flatten_nil,List.append_nil]
     exact(by simpa using hp1:(((p,HO.lst xs)::Cs.flatten)++(OO'.set k []).flatten).Perm OO'.flatten).append_left D')
    have hin:c∈D'++(((p,HO.lst xs)::Cs.flatten)++(OO'.set k []).flatten):=by
     rw[Yy,List.mem_append] at hc
     rcases hc with hc |hc
     ·rw[←c4] at hc;simp[hc]
     ·simp[hc]
    have hne:c.1≠p:=λee=>by
     have nd3:=w3.nd
     rw[Yy,List.mem_append, ←c4] at hc
     simp only[fl,List.flatten_cons,List.flatten_nil,List.append_nil,List.map_append,List.cons_append,List.map_cons] at nd3
     rw[List.nodup_append] at nd3
     obtain⟨_,n2,n3⟩:=nd3
     rcases hc with hc |hc
     ·exact(List.nodup_cons.mp n2).1 (List.mem_append_left _ (List.mem_map.mpr ⟨c,hc,ee⟩))
     ·exact n3 c.1 (List.mem_map.mpr ⟨c,hc,rfl⟩) p List.mem_cons_self ee
    rw[XT hne]
    exact w3.tr c (by simpa using hin)
  obtain⟨w4,h4⟩:=R9 (C':=(p, .lst (xs++[y]))::(Cs'++[D']).flatten) w' hk' List.mem_cons_self (by simp[Yy,c4]) hcell (λc hc=>by
   rcases List.mem_cons.mp hc with rfl |hc
   ·rfl
   ·rw[Yy,List.mem_append, ←c4] at hc
    rcases hc with hc |hc
    ·exact w'.mu c (by rw[List.flatten_cons];exact List.mem_append_right _ (List.mem_flatten.mpr ⟨_,List.mem_of_getElem? hk',List.mem_cons_of_mem _ hc⟩))
    ·exact w'.mu c (by rw[List.flatten_cons];exact List.mem_append_left _ hc))
  refine⟨p,xs,y,e,rfl,hH',by rw[(P3.len q).1];exact hlt',?_⟩
  refine hr a _ _ D w4 ?_ (by rw[h4];exact P')
  rw[h4]
  exact⟨s',⟨p,xs++[y],Cs'++[D'],e,q2.snoc ho,rfl⟩⟩
theorem ER {tl:TE}{f:List (List Int)->Rs β}{v:V}{as:List (List Int)}{C:List Xx}(j k:Nat)(n:Int)(hte:∀(H:Hp) (Q:VK),W OO H->S.p (hid H OO)->Q v H->tl σ H Q)(hjl:j<σ.length)(hk:OO[k]?=some C)(h:∀x,S.p x->oL (oL (oF Xe)) K x v as C)
  (hr:∀C' w,Sv Er (S.addO K (oL (oL (oF Xe))) v (as.map (· ++[n])) C') (OO.set k C') (σ.set j w) u Fd (f (as.map (· ++[n])))):
  Sv Er S OO σ (YX (By (Gz K tl) (Yz j) (YX (Jv (tBM K "list" Qd (Qb j) (Xv (tC (.int n)) Yq))) UP)) u) Fd (chk (∀row∈as,row.length<sizeLine) (f (as.map (· ++[n])))):=λH D w s P=>by
 obtain⟨hsz,P⟩:=PZ.chk P
 obtain⟨p,xs,Cs0,e,q,c⟩:=h _ s
 subst c e
 have hkl:k<OO.length:=by
  rcases Nat.lt_or_ge k OO.length with h |h
  ·exact h
  ·rw[List.getElem?_eq_none h] at hk;cases hk
 have hin:∀{Cs:List (List Xx)},(p,HO.lst xs)∈(OO.set k ((p, .lst xs)::Cs.flatten)).flatten:=fun {Cs}=>List.mem_flatten.mpr ⟨_,List.mem_set hkl _,List.mem_cons_self⟩
 have hOO:OO.set k ((p, .lst xs)::Cs0.flatten)=OO:=by
  apply List.ext_getElem?
  intro m
  by_cases hm:m=k
  ·subst hm;rw[List.getElem?_set_self hkl,hk]
  ·rw[List.getElem?_set_ne (λe=>hm e.symm)]
 have hH:H p=some (.lst xs):=w.tr (p, .lst xs) (by rw[←hOO];exact hin)
 refine hte _ _ w s ⟨p,rfl,⟨xs,SqL.of hH⟩,?_⟩
 refine Il (K:=K) (a:=p) (xs:=xs) (λt σ' H'=>∃ Cs wv,σ'=σ.set j wv/\W (OO.set k ((p, .lst xs)::Cs.flatten)) H'/\Xu (hid H OO) (hid H' (OO.set k ((p, .lst xs)::Cs.flatten)))/\P3 (oL (oF Xe) K (hid H' (OO.set k ((p, .lst xs)::Cs.flatten)))) xs ((as.take t).map (· ++[n])++as.drop t) Cs)
  ⟨Cs0,σ[j],by rw[List.set_getElem_self],by rw[hOO];exact w,by rw[hOO];exact Xu.refl _,by rw[hOO];simpa using q⟩
  (λt σ' H' ht r9=>by obtain⟨Cs,wv,_,w',_,_⟩:=r9;exact SqL.of (w'.tr (p, .lst xs) hin)) ?_ ?_
 ·rintro t x σ' H' hx ⟨Cs,wv,rfl,w',m',q'⟩
  have hlen:=q.len.1
  have htl:t<as.length:=by
   rw[←hlen]
   rcases Nat.lt_or_ge t xs.length with h |h
   ·exact h
   ·rw[List.getElem?_eq_none h] at hx;cases hx
  have hrow:((as.take t).map (· ++[n])++as.drop t)[t]?=some as[t]:=by
   rw[List.getElem?_append_right (by simp;omega)]
   simp[Nat.min_eq_left (Nat.le_of_lt htl)]
  obtain⟨q0,ys,g1,g2,g3⟩:=F5 q' hrow
  rw[hx] at g1
  cases g1
  have hk':(OO.set k ((p,HO.lst xs)::Cs.flatten))[k]?=some ((p,HO.lst xs)::Cs.flatten):=by simp[hkl]
  have hq0:H' q0=some (.lst ys):=w'.tr (q0, .lst ys) (List.mem_flatten.mpr ⟨_,List.mem_of_getElem? hk',List.mem_cons_of_mem _ (Jw g2 _ (by simp))⟩)
  have hsz':as[t].length<sizeLine:=hsz _ (List.getElem_mem htl)
  show YX _ _ _ ((σ.set j wv).set j (some (.ref q0))) H'
  refine⟨.ref q0,by rw[List.getElem?_set_self (by simpa using hjl)], .inl ⟨rfl,_,SqL.of hq0⟩,q0,ys, .int n,rfl,rfl,hq0,by rw[Paired.len g3];exact hsz',?_⟩
  obtain⟨C',w4,m4,o4⟩:=Dc (ys':=ys++[.int n]) (row':=as[t]++[n]) (v:=.ref p) w' hk' q' hrow hx hq0 g2 (Paired.app g3 (show Paired (Xe K (hid H' (OO.set k ((p, .lst xs)::Cs.flatten)))) [V.int n] [n] from .cons rfl .nil))
  obtain⟨p',xs',Cs',e1,o5,rfl⟩:=o4
  cases e1
  have hc1:(p,HO.lst xs)∈(OO.set k ((p, .lst xs')::Cs'.flatten)).flatten∨xs'=xs:=by
   right
   have h1:=w4.tr (p, .lst xs') (by rw[List.set_set];exact List.mem_flatten.mpr ⟨_,List.mem_set hkl _,List.mem_cons_self⟩)
   have hpq:p≠q0:=λee=>by
    have hp1:=XH hk'
    have:=(w'.of (OO':=((p,HO.lst xs)::Cs.flatten)::(OO.set k ((p,HO.lst xs)::Cs.flatten)).set k []) hp1).nd
    rw[XO,List.map_cons,List.cons_append,List.nodup_cons] at this
    exact this.1 (List.mem_append_left _ (List.mem_map.mpr ⟨(q0, .lst ys),Jw g2 _ (by simp),ee.symm⟩))
   rw[XT hpq] at h1
   have h2:=w'.tr (p, .lst xs) hin
   rw[h1] at h2
   have h3:HO.lst xs'=HO.lst xs:=Option.some.inj h2
   injection h3
  obtain rfl:xs'=xs:=by
   rcases hc1 with h9 |h9
   ·have h1:=w4.tr (p, .lst xs') (by rw[List.set_set];exact List.mem_flatten.mpr ⟨_,List.mem_set hkl _,List.mem_cons_self⟩)
    have h2:=w4.tr (p, .lst xs) (by rw[List.set_set];exact h9)
    rw[h1] at h2
    have h3:HO.lst xs'=HO.lst xs:=Option.some.inj h2
    injection h3
   ·exact h9
  rw[List.set_set] at w4 m4 o5
  refine⟨Cs',some (.ref q0),by simp,w4,m'.trans m4,?_⟩
  have e6:((as.take t).map (· ++[n])++as.drop t).set t (as[t]++[n])=(as.take (t+1)).map (· ++[n])++as.drop (t+1):=by
   rw[List.set_append_right _ _ (by simp;omega)]
   simp only[List.length_map,List.length_take,Nat.min_eq_left (Nat.le_of_lt htl),Nat.sub_self]
   rw[List.drop_eq_getElem_cons htl,List.set_cons_zero,List.take_succ_eq_append_getElem htl,List.map_append,List.append_assoc]
   rfl
  rw[e6] at o5
  exact o5
 ·rintro σ' H' ⟨Cs,wv,rfl,w',m',q'⟩
  have hlen:=q.len.1
  rw[hlen,List.take_length,List.drop_length,List.append_nil] at q'
  exact hr _ wv H' D w' ⟨S.mono _ _ m' s,⟨p,xs,Cs,rfl,q',rfl⟩⟩ (PZ.tr (fd.tr D) m' P)
end
end L2
namespace L2
theorem Os {α:Type}{us:List α}(h:us.length=1):∃a,us=[a]:=List.length_eq_one_iff.mp h
theorem OB {α:Type}{us:List α}(h:us.length=2):∃a0 a1,us=[a0,a1]:=by
 cases us with
 |nil=>cases h
 |cons a0 t=>
  obtain⟨a1,rfl⟩:=Os (Nat.succ.inj h)
  exact⟨a0,a1,rfl⟩
theorem PB {α:Type}{us:List α}(h:us.length=3):∃a0 a1 a2,us=[a0,a1,a2]:=by
 cases us with
 |nil=>cases h
 |cons a0 t=>
  obtain⟨a1,a2,rfl⟩:=OB (Nat.succ.inj h)
  exact⟨a0,a1,a2,rfl⟩
theorem OW {α:Type}{us:List α}(h:us.length=4):∃a0 a1 a2 a3,us=[a0,a1,a2,a3]:=by
 cases us with
 |nil=>cases h
 |cons a0 t=>
  obtain⟨a1,a2,a3,rfl⟩:=PB (Nat.succ.inj h)
  exact⟨a0,a1,a2,a3,rfl⟩
theorem Rq {α:Type}{us:List α}(h:us.length=5):∃a0 a1 a2 a3 a4,us=[a0,a1,a2,a3,a4]:=by
 cases us with
 |nil=>cases h
 |cons a0 t=>
  obtain⟨a1,a2,a3,a4,rfl⟩:=OW (Nat.succ.inj h)
  exact⟨a0,a1,a2,a3,a4,rfl⟩
end L2
namespace L2
open PySem PySem.Spec PyProof.Rows
section
variable {prog:Program}{w:World}{A:Around}{E:Value->Shared->Prop}
end
section
variable {X:Cx}{pos:Pos}
end
section
variable {K:PySem.W.Frag}{Er:Exc->Hp->Prop}{S:SC}{OO OO' OO1 OO2:List (List Xx)}{σ:St}{α β γ ρ ι δ ε ζ:Type}
variable {Fd:Ends->β->Hp->Prop}[fd:FdOk Fd]{u:TS}
theorem L1 {r:Enc α}:Ev K Er S OO OO σ (tC .non) (oF (Bp r)) (.ok none):=λH Q w s P=>P _ [] H (Xu.refl _) w.nil (by rw[Y5];exact Xu.refl _) ⟨rfl,rfl⟩
theorem Iz {te:TE}{r:Enc α}{m:Rs α}(hn:∀{K h v a C},oF r K h v a C->v≠ .non)(he:Ev K Er S OO OO' σ te (oF r) m):Ev K Er S OO OO' σ te (oF (Bp r)) (m.bind λa=>.ok (some a)):=λH Q w s P=>by
 refine he H Q w s ?_
 cases m with
 |bad=>exact P
 |err x=>exact P
 |ok a=>exact λv C H' s' w' m' ho=>P v C H' s' w' m' ⟨ho.1,hn ho,ho.2⟩
end
section
variable {X:Cx}
end
section
variable {K:PySem.W.Frag}{Er:Exc->Hp->Prop}{S:SC}{OO OO' OO1 OO2:List (List Xx)}{σ:St}{α β γ ρ ι δ ε ζ:Type}
variable {Fd:Ends->β->Hp->Prop}[fd:FdOk Fd]{u:TS}
end
set_option maxRecDepth 100000
section
variable {prog:Program}{w:World}{A:Around}{E:Value->Shared->Prop}{s:Shared}
theorem F3:typeLookup (.type "list") "keys" =pure none:=by rw[typeLookup_type,builtinLookup_eq_fast];kernel_rfl
theorem II {a:Addr}{o:Obj}{xs:Array Value}{k:Nat}{R:Option Value->Shared->Prop}(hx:s.heap.get? a=some o)(hc:o.cls= .type "list")(hdat:o.data= .seq xs k)(hd:o.dict=none)(hA:A.handled=none)
    (h:∀g tk,(∀b u,s.heap.get? b=some u->g.get? b=some u)->R none {s with heap:=g,toks:=tk}):wpAny (model prog w) A (getAttr? (.ref a) "keys") R E s:=by
  obtain⟨c,dct,dat,sl⟩:=o
  simp only at hc hdat hd
  subst hc hdat hd
  obtain⟨hp,g,d,tk,os⟩:=s
  have hT:∀tk',(⟨hp,g,d,tk',os⟩:Shared).TypeIs (.ref a) "list":=λ_=>⟨_,hx,rfl⟩
  have f1:=sub_AttributeError
  have f3:=F.slot_list_getattribute.lookup
  have f4:=F.slot_list_getattribute.bind (.ref a)
  have f5:=am_list_getattr_none
  unfold getAttr? getAttrBy? getAttrBy
  repeat (any_goals (first
    |assumption
    |exact hT _
    | ((with_reducible show wpAny _ _ (call (Value.builtin "list.__getattribute__") _ _) _ _ _)
       refine call_meets F.slot_list_getattribute (hT _) am_entry_list_getattribute (F.args_list_getattribute_2 _ _) (meets_getattribute_miss_list a xs k sl "keys" _ F3 (by decide+kernel)) ⟨hx,hA,λh' tk' e hx'=>?_⟩)
    |wp_step))
  obtain⟨t',u',he⟩:=hx'.there
  show wpAny _ _ (getattributeRaised _ _ _ _ _ _ _) _ _ _
  unfold getattributeRaised
  repeat (any_goals (first |wp_step |assumption))
  exact h _ _ hx'.keeps
theorem ZW:plainId "dict.update.loop" =true:=by decide+kernel
theorem Us:entryFor table "dict.update.loop" =some Builtin.«dict.update.loop»:=entryFor_of_fast (by kernel_rfl)
end
section
variable {prog:Program}{w:World}{A:Around}{R:Result->Shared->Prop}{K:Type}[DecidableEq K]{knd:KeyKind prog w K}
noncomputable def Mj (knd:KeyKind prog w K)(h:Heap)(its:Array Value)(kv:List (K×Value)):Prop:=its.size=kv.length/\∀(j:Nat) (x:Value) (p:K×Value),its[j]?=some x->kv[j]?=some p->∃t key,x= .ref t/\h.IsTuple t #[key,p.2]/\knd.is p.1 key=true
noncomputable def KW (acc kv:List (K×Value)):List (K×Value):=kv.foldl (λa p=>stored a p.1 p.2) acc
theorem CH (acc:List (K×Value))(k:K)(v:Value):(stored acc k v).length<=acc.length+1:=by
 unfold stored
 split
 ·simp
 ·simp
theorem Gy {h:Heap}{t I l:Addr}{i:Nat}{xs:Array Value}(ht:h.IsTuple t xs)(it:h.IsListIter I l i):t≠I:=λe=>by
 subst e
 obtain⟨o,ho,hc,_⟩:=ht
 obtain⟨o',ho',hc',_⟩:=it
 rw[ho] at ho'
 cases ho'
 rw[hc] at hc'
 exact absurd hc' (by decide)
theorem Es {h:Heap}{t d:Addr}{xs:Array Value}{acc:List (K×Value)}(ht:h.IsTuple t xs)(hd:h.DictOf knd d acc):t≠d:=λe=>by
 subst e
 obtain⟨o,ho,hc,_⟩:=ht
 obtain⟨o',_,_,ho',hc',_⟩:=hd
 rw[ho] at ho'
 cases ho'
 have:=hc'.1
 rw[hc] at this
 exact absurd this (by decide)
theorem RF (hh:A.in1.handled=none){d I l:Addr}(hdI:d≠I)(hlI:l≠I)(hld:l≠d){its:Array Value}{kv:List (K×Value)}:
  ∀(k i:Nat) (s:Shared) (acc:List (K×Value)),its.size-i=k->i<=its.size->s.heap.IsListIter I l i->s.heap.IsList l its->Mj knd s.heap its kv->s.heap.DictOf knd d acc->acc.length+its.size<=sizeLine+i->
  (∀g tk,g.DictOf knd d (KW acc (kv.drop i))->(∀b o,b≠I->b≠d->s.heap.get? b=some o->g.get? b=some o)->R (.ok (.ret .none)) {s with heap:=g,toks:=tk})->
  codeAny (model prog w) A (.builtin "dict.update.loop" ⟨[.ref d, .ref I,rawInt i, .none],[]⟩) R s:=by
 intro k
 induction k with
 |zero=>
  intro i s acc hk hi it hl hp hd hz r
  refine codeAny_builtin Us ?_
  rw[Around.under_plainId ZW _]
  show wpAny _ A.in1 (pyNext (.ref I) >>= _) _ _ s
  refine wpAny_bind (wpAny_pyNext_list_end hh it hl (by simp;omega) λg hx=>?_)
  show wpAny _ _ (Builtin.Dict.addKeywords d [] >>= λ_=>ret Value.none) _ _ _
  refine wpAny_bind (wpAny_pure (wpAny_pure (r g s.toks ?_ λb o hb _ e=>hx b o hb e)))
  have e:kv.drop i=[]:=List.drop_eq_nil_of_le (by have:=hp.1;omega)
  rw[e]
  exact hd.extBut hx hdI
 |succ k ih=>
  intro i s acc hk hi it hl hp hd hz r
  have lt:i<its.size:=by omega
  refine codeAny_builtin Us ?_
  rw[Around.under_plainId ZW _]
  show wpAny _ A.in1 (pyNext (.ref I) >>= _) _ _ s
  refine wpAny_bind (wpAny_pyNext_list_item it hl (x:=its[i]) (by simp[lt]) λg it' hx=>?_)
  have lt2:i<kv.length:=by have:=hp.1;omega
  obtain⟨t,key,et,ht,hkey⟩:=hp.2 i its[i] kv[i] (by simp[lt]) (by simp[lt2])
  have htI:t≠I:=Gy ht it
  have ht1:g.IsTuple t #[key,kv[i].2]:=ht.extBut hx.extBut htI
  obtain⟨o,ho,hc,n,hdt⟩:=id ht1
  rw[et]
  show wpAny _ _ (holding [Value.ref t] _ >>= λ_=>again (.builtin "dict.update.loop" ⟨[.ref d, .ref I,rawInt ((i:Int)+1), .none],[]⟩)) _ _ _
  refine wpAny_bind (wpAny_holding ?_)
  refine wpAny_bind (wpAny_tryCatch ?_)
  unfold Builtin.Dict.pairItems
  refine wpAny_bind (wpAny_typeOf (s:={s with heap:=g}) ⟨o,ho,hc⟩ ?_)
  rw[if_pos (by decide)]
  refine wpAny_bind (wpAny_seqItems (s:={s with heap:=g}) ho hdt (wpAny_pure ?_))
  show wpAny _ _ (holding [key,kv[i].2] (dictSet d key kv[i].2)) _ _ _
  refine wpAny_holding (wpAny_dictSet_pairs (s:={s with heap:=g}) hkey (hd.extBut hx.extBut hdI) (λg2 hd2 hx2=>?_) (by omega))
  refine wpAny_pure ⟨plainId_quiet ZW _,?_⟩
  have hne:∀{b:Addr}{u:Obj},s.heap.get? b=some u->b≠I->b≠d->g2.get? b=some u:=fun {b u} e h1 h2=>(hx2.2 b h2).trans (hx.extBut b u h1 e)
  refine ih (i+1) {s with heap:=g2,toks:=s.toks+1} (stored acc kv[i].1 kv[i].2) (by omega) (by omega) ?_ ?_ ?_ hd2 ?_ ?_
  ·exact it'.extBut hx2.extBut (λe=>hdI e.symm)
  ·exact(hl.extBut hx.extBut hlI).extBut hx2.extBut hld
  ·refine⟨hp.1,λj x p h1 h2=>?_⟩
   obtain⟨t2,key2,e2,ht2,hk2⟩:=hp.2 j x p h1 h2
   exact⟨t2,key2,e2,(ht2.extBut hx.extBut (Gy ht2 it)).extBut hx2.extBut (Es ht2 hd),hk2⟩
  ·have:=CH acc kv[i].1 kv[i].2
   omega
  ·intro g3 tk hd3 kp
   refine r g3 tk ?_ λb o h1 h2 e=>kp b o h1 h2 (hne e h1 h2)
   rw[List.drop_eq_getElem_cons lt2]
   exact hd3
theorem CQ (hh:A.handled=none){E:Value->Shared->Prop}{s:Shared}{l:Addr}{o:Obj}{n:Nat}{its:Array Value}{kv:List (K×Value)}{Q:Value->Shared->Prop}(hx:s.heap.get? l=some o)(hc:o.cls= .type "list")(hdat:o.data= .seq its n)(hd:o.dict=none)(hp:Mj knd s.heap its kv)(hz:its.size<=sizeLine)
  (r:∀g tk,g.DictOf knd s.heap.objs.size (KW [] kv)->(∀b u,s.heap.get? b=some u->g.get? b=some u)->Q (.ref s.heap.objs.size) {s with heap:=g,toks:=tk}):wpAny (model prog w) A (call (.type "dict") [.ref l]) Q E s:=by
 refine callType_codes (Q₁:=λobj s₁=>obj= .ref s.heap.objs.size/\s₁={s with heap:=s.heap.push {cls:=.type "dict",data:=.dict #[]}}) F.kt_called_dict (F.kt_typeCall_dict_1 _) F.entry_dict_init (kt_code_dict_new _ ⟨rfl,rfl⟩) ?_
 rintro obj s₁ ⟨rfl,rfl⟩
 have hnew:(s.heap.push {cls:=.type "dict",data:=.dict #[]}).DictOf knd s.heap.objs.size []:=Heap.DictOf.new s.heap
 have hx1:(s.heap.push {cls:=.type "dict",data:=.dict #[]}).get? l=some o:=Heap.get?_push_of_some _ hx
 refine⟨hnew.typeIs,F.args_dict_init_2 _ _,?_⟩
 unfold Builtin.«dict.__init__»
 refine wpAny_bind ?_
 unfold Builtin.Dict.selfAndRest
 refine wpAny_bind (wpAny_notOrdered_dict hnew.typeIs ?_)
 show wpAny _ _ (pure (s.heap.objs.size,[Value.ref l])) _ _ _
 refine wpAny_pure ?_
 show wpAny _ _ (Builtin.Dict.updateFrom "dict.__init__" s.heap.objs.size (.ref l) [] .none) _ _ _
 unfold Builtin.Dict.updateFrom
 refine wpAny_bind (wpAny_typeOf ⟨o,hx1,hc⟩ ?_)
 rw[if_pos (by decide)]
 refine wpAny_bind (II hx1 hc hdat hd hh λg tk kp=>?_)
 rw[if_pos (show(none:Option Value).isNone=true from rfl)]
 refine wpAny_bind (wpAny_rule ?_)
 have hlg:g.IsList l its:=⟨o,kp _ _ hx1,hc,n,hdat⟩
 have hdg:g.DictOf knd s.heap.objs.size []:=by
  obtain⟨o',es,ep,ho,q⟩:=hnew
  exact⟨o',es,ep,kp _ _ ho,q⟩
 have hdlt:s.heap.objs.size<g.objs.size:=by
  obtain⟨o',es,ep,ho,q⟩:=hdg
  exact Heap.lt_size ho
 have hllt:l<s.heap.objs.size:=Heap.lt_size hx
 refine wpAny_bind (wpAny_pyIter_list (s:={s with heap:=g,toks:=tk}) hlg ?_)
 refine wpAny_pure ⟨plainId_quiet ZW _,?_⟩
 refine RF (A:=A.in1) (show A.in1.in1.handled=none from hh) (d:=s.heap.objs.size) (I:=g.objs.size) (l:=l) (its:=its) (kv:=kv) (Nat.ne_of_lt hdlt) (Nat.ne_of_lt (Nat.lt_trans hllt hdlt)) (Nat.ne_of_lt hllt) its.size 0 _ [] rfl (Nat.zero_le _) ⟨_,Heap.get?_push_size _ rfl,rfl,rfl⟩ (hlg.push _) ?_ (hdg.push _) (by simpa using hz) ?_
 ·refine⟨hp.1,λj x p h1 h2=>?_⟩
  obtain⟨t2,key2,e2,⟨ot,hot,q⟩,hk2⟩:=hp.2 j x p h1 h2
  exact⟨t2,key2,e2,⟨ot,Heap.get?_push_of_some _ (kp _ _ (Heap.get?_push_of_some _ hot)),q⟩,hk2⟩
 ·intro g2 tk2 hd2 kp2
  refine⟨rfl,r g2 tk2 hd2 λb u e=>?_⟩
  have hb:=Heap.lt_size e
  exact kp2 b u (Nat.ne_of_lt (Nat.lt_trans hb hdlt)) (Nat.ne_of_lt hb) (Heap.get?_push_of_some _ (kp _ _ (Heap.get?_push_of_some _ e)))
end
section
variable {X:Cx}
noncomputable def Jf (acc kvs:List (Key×V)):List (Key×V):=kvs.foldl (λa p=>Ue a p.1 p.2) acc
theorem IR (kvs:List (Key×V))(k:Key)(v:V):(Ue kvs k v).length<=kvs.length+1:=by
 unfold Ue
 split<;> simp
theorem U1:∀(kvs acc:List (Key×V)),(Jf acc kvs).length<=acc.length+kvs.length
 | [],acc=>by simp[Jf]
 |p::kvs,acc=>by
  have h1:=U1 kvs (Ue acc p.1 p.2)
  have h2:=IR acc p.1 p.2
  show(Jf (Ue acc p.1 p.2) kvs).length<=_
  rw[List.length_cons]
  omega
theorem KV.all {kvs:List (Key×V)}{vs:List (Key×Value)}(t:KV kvs vs):∀{acc:List (Key×V)}{acc':List (Key×Value)},KV acc acc'->KV (Jf acc kvs) (KW acc' vs):=by
 induction t with
 |nil=>intro acc acc' h;exact h
 | @cons p q kvs vs r _ ih=>
  intro acc acc' h
  have h2:=h.put p.1 r.2
  have e:stored acc' p.1 q.2=stored acc' q.1 q.2:=by rw[r.1]
  rw[e] at h2
  exact ih h2
noncomputable def LP (K:PySem.W.Frag):List V->Hp->VK->Prop:=λxs H Q=>∃ l ps kvs,xs=[.ref l]/\SqL K H l ps/\Paired (λp (kv:Key×V)=>∃ t,p= .ref t/\SqT K H t [kV kv.1,kv.2]) ps kvs/\∀d,H d=none->Q (.ref d) (upd H d (.dK (Jf [] kvs)))
theorem Pn {pins:List (Addr×Obj)}{σ:St}{H:Hp}{s:Shared}(I:Inv X pins σ H s):∀{ps:List V}{kvs:List (Key×V)}{its:List Value},Paired (λp (kv:Key×V)=>∃ t,p= .ref t/\SqT X.K H t [kV kv.1,kv.2]) ps kvs->XZ ps its->∃kv,KV kvs kv/\Mj (X7 X.prog X.w) s.heap its.toArray kv:=fun {ps kvs its} p=>by
 induction p generalizing its with
 |nil=>
  intro v
  cases v
  exact⟨[], .nil,rfl,λj x p h=>by simp at h⟩
 | @cons _ b _ _ r _ ih=>
  intro v
  cases v with
  |cons rv v=>
   obtain⟨kv,h1,h2,h3⟩:=ih v
   obtain⟨t,rfl,ht⟩:=r
   cases rv
   obtain⟨i2,v2,tp,_⟩:=I.tuple ht
   obtain⟨key,val,rfl,e1,e2⟩:=XZ.two v2
   refine⟨(b.1,val)::kv, .cons ⟨rfl,e2⟩ h1,by simpa using h2,λj x p hj hp=>?_⟩
   cases j with
   |zero=>
    simp at hj hp
    subst hj hp
    exact⟨t,key,rfl,tp,Bj e1⟩
   |succ j=>exact h3 j x p (by simpa using hj) (by simpa using hp)
theorem Zo (K:PySem.W.Frag)(hK:X.K=K)(hc:X.calm=true):Zc X (.type "dict") (LP K):=by
 subst hK
 intro pins s σ H xs us Q I r h
 obtain⟨l,ps,kvs,rfl,hq,hp,q⟩:=h
 obtain⟨u,rfl,ru⟩:=Jk r
 cases ru
 obtain⟨its,rv,⟨o,n,ho,hcl,hdn,hdat⟩,hz⟩:=I.list hq
 obtain⟨kv,h1,h2⟩:=Pn I hp rv
 have hlen:=rv.length
 have hl2:=Paired.len hp
 refine CQ (knd:=X7 X.prog X.w) (I.ok.hd hc) ho hcl hdat hdn h2 (by simpa[←hlen] using hz) λg tk hd kp=>?_
 refine⟨.ref s.heap.objs.size,_,I.laid (t':=tk) kp (Nat.le_refl _) (show Yp X.prog X.w _ g _ (.dK (Jf [] kvs)) from⟨Nat.le_trans (U1 kvs []) (by simp;omega),beq_eq_false_iff_ne.mpr (Ne.symm (Nat.ne_of_lt I.big)),_,KV.all h1 .nil,hd⟩),rfl,q _ (I.hok.fresh (Nat.le_refl _))⟩
noncomputable def ZU (ns:List Int):List Int:=ns.mergeSort λa b=>decide (a<=b)
theorem JO (ns:List Int):(ZU ns).Perm ns:=List.mergeSort_perm ns _
theorem CG (ns:List Int):(ZU ns).Pairwise (· <= ·):=by
 have h:=List.pairwise_mergeSort (le:=λa b:Int=>decide (a<=b)) (λa b c h1 h2=>by rw[decide_eq_true_eq] at h1 h2⊢;omega) (λa b=>by rw[Bool.or_eq_true,decide_eq_true_eq,decide_eq_true_eq];omega) ns
 exact h.imp λh=>by simpa using h
theorem Cn {a b:List Int}(h:a.Perm b)(r:a.Pairwise (· <= ·)):a=ZU b:=List.Perm.eq_of_pairwise (le:=(· <= ·)) (λ_ _ _ _ h1 h2=>Int.le_antisymm h1 h2) r (CG b) (h.trans (JO b).symm)
theorem KB:∀{ns:List Int}{vs:List Value},XZ (ns.map V.int) vs->IntsAre vs ns:=fun {ns}=>by
 induction ns with
 |nil=>intro vs h;cases h;exact .nil
 |cons n ns ih=>
  intro vs h
  cases h with
  |cons r t=>
   obtain⟨k,rfl⟩:=r
   exact .cons n k (ih t)
noncomputable def LL (K:PySem.W.Frag):List V->Hp->VK->Prop:=λxs H Q=>∃ l ns,xs=[.ref l]/\SqL K H l (ns.map V.int)/\ns.length<64/\∀p,H p=none->Q (.ref p) (upd H p (.lst ((ZU ns).map V.int)))
theorem Y1 (K:PySem.W.Frag)(hK:X.K=K):Zc X (.builtin "sorted") (LL K):=by
 subst hK
 intro pins s σ H xs us Q I r h
 obtain⟨l,ns,rfl,hq,h64,q⟩:=h
 obtain⟨u,rfl,ru⟩:=Jk r
 cases ru
 obtain⟨its,rv,pl,hz⟩:=I.list hq
 have hlen:=rv.length
 rw[List.length_map] at hlen
 refine sorted_ints pl.isList (KB rv) (by omega) λout ns' a1 a2 a3=>?_
 obtain⟨e,he⟩:=sortedAll_at s.heap its out
 have en:ns'=ZU ns:=Cn a2 a3
 have v:=Uw a1
 rw[en] at v
 have hfr:H (s.heap.objs.size+1)=none:=I.hok.fresh (Nat.le_succ _)
 refine⟨.ref (s.heap.objs.size+1),_,I.laid (t':=s.toks) (λb o e=>sortedAll_old e) (Nat.le_succ _) (show Yp X.prog X.w _ _ _ (.lst ((ZU ns).map V.int)) from⟨?_,out.toList,e,v,he⟩),rfl,q _ hfr⟩
 rw[List.length_map,(JO ns).length_eq]
 rw[List.length_map] at hz
 exact hz
end
section
variable {X:Cx}{pins:List (Addr×Obj)}{σ:St}{H:Hp}{s:Shared}{d:Addr}{o:Obj}{kvs:List (Key×V)}
theorem Et {k:Key}{u:Value}(h:UX k u=true):XW (kV k) u:=by
 cases k with
 |inl n=>
  cases u<;> simp[UX,Value.isInt] at h
  subst h
  exact⟨_,rfl⟩
 |inr x=>
  cases u<;> simp[UX,Value.isStrOf] at h
  subst h
  exact⟨_,rfl⟩
theorem KV.key {kvs:List (Key×V)}{vs:List (Key×Value)}(h:KV kvs vs):∀{i:Nat} (h1:i<kvs.length) (h2:i<vs.length),(kvs[i]).1=(vs[i]).1:=by
 induction h with
 |nil=>intro i h1;exact absurd h1 (Nat.not_lt_zero _)
 |cons r _ ih=>
  intro i h1 h2
  cases i with
  |zero=>exact r.1
  |succ i=>exact ih (Nat.lt_of_succ_lt_succ h1) (Nat.lt_of_succ_lt_succ h2)
end
section
variable {X:Cx}
theorem QP {h:Heap}{a b:Addr}{vs:List Value}{out:Array Value}{o:Obj}(hb:b≠a)(e:h.get? b=some o):(sortedHeap h a vs out).get? b=some o:=
 Heap.get?_update_of_ne _ hb.symm (Heap.get?_push_of_some _ (Heap.get?_push_of_some _ (Heap.get?_update_of_ne _ hb.symm e)))
end
section
variable {K:PySem.W.Frag}{Er:Exc->Hp->Prop}{S:SC}{OO OO' OO2:List (List Xx)}{σ:St}{α β γ ρ ι δ ε:Type}
variable {Fd:Ends->β->Hp->Prop}[fd:FdOk Fd]{u:TS}
theorem VM {H:Hp}{xs:List V}{ns:List Int}(h:Paired (Xe K H) xs ns):xs=ns.map V.int:=by
 induction h with
 |nil=>rfl
 |cons r _ ih=>rw[List.map_cons,ih,show _=V.int _ from r]
theorem DQ {H:Hp}(ns:List Int):Paired (Xe K H) (ns.map V.int) ns:=by
 induction ns with
 |nil=>exact .nil
 |cons n ns ih=>exact .cons rfl ih
theorem Vz {ta:TE}{ma:Rs (List Int)}(ha:EvL K Er S OO σ ta Xe ma):Ev K Er S OO OO σ (tCB (LL K) (Xv ta Yq)) (oL (oF Xe)) (ma.bind λas=>chk (as.length<64) (.ok (ZU as))):=λH Q w s P=>
 ha.run w s FO.tr P λas x H1 s1 w1 q1 ⟨p,xs,e,q,pr⟩ P1=>by
  obtain⟨hl,P2⟩:=PZ.chk P1
  exact⟨p,as,by rw[e],SqL.of (by rw[←VM pr];exact q),hl,Hy w1 (DQ _) P2⟩
theorem Ei {r:Enc α}{H:Hp}{kvs:List (Key×V)}{d:List (Int×α)}(pr:Paired (rDP r K H) kvs d):kvs.map (λkv=>kv.1)=(d.map λkx=>kx.1).map Sum.inl:=by
 induction pr with
 |nil=>rfl
 |cons r _ ih=>rw[List.map_cons,List.map_cons,List.map_cons,r.1,ih]
theorem BR {ta:TE}{r:Enc α}{q:Enc γ}{m:Rs (α×γ)}(ha:EvB K Er S OO σ ta (rP2 r q) m):EvB K Er S OO σ (tCB (Vf K) (Xv ta Yq)) Xe (m.bind λ_=>.ok (2:Int)):=λH Q w s P=>
 ha.run w s FB.tr P λa x H1 s1 w1 q1 r9 P1=>by obtain⟨p,x1,x2,e,q,h1,h2⟩:=r9;exact⟨p,[x1,x2],by rw[e], .inr (SqT.of q),P1 _ H1 (Xu.refl _) rfl⟩
noncomputable def Bc (d ps:List (Int×α)):List (Int×α):=ps.foldl (λd p=>UW d p.1 p.2) d
theorem Gu {r:Enc α}{H:Hp}{kvs:List (Key×V)}{ps:List (Int×α)}(h:Paired (rDP r K H) kvs ps):∀{acc:List (Key×V)}{d:List (Int×α)},Paired (rDP r K H) acc d->Paired (rDP r K H) (Jf acc kvs) (Bc d ps):=by
 induction h with
 |nil=>intro acc d h;exact h
 | @cons kv kx _ _ r _ ih=>
  intro acc d h
  have:=V2 (k:=kx.1) r.2 h
  rw[←r.1] at this
  exact ih this
theorem Em {r:Enc α}{h H:Hp}(hs:Xu h H){xs:List V}{ps:List (Int×α)}(p:Paired (rP2 Xe r K h) xs ps):∃kvs,Paired (λp (kv:Key×V)=>∃ t,p= .ref t/\SqT K H t [kV kv.1,kv.2]) xs kvs/\Paired (rDP r K h) kvs ps:=by
 induction p with
 |nil=>exact⟨[], .nil, .nil⟩
 | @cons x pr _ _ q _ ih=>
  obtain⟨kvs,h1,h2⟩:=ih
  obtain⟨t,a,b,e,ht,e1,e2⟩:=q
  have e1:a= .int pr.1:=e1
  subst e1
  exact⟨(.inl pr.1,b)::kvs, .cons ⟨t,e,SqT.of (hs _ _ ht)⟩ h1, .cons ⟨rfl,e2⟩ h2⟩
theorem VA {ta:TE}{r:Enc α}[z:MonoE r]{ma:Rs (List (Int×α))}(ha:EvL K Er S OO σ ta (rP2 Xe r) ma):Ev K Er S OO OO σ (tCB (LP K) (Xv ta Yq)) (oD r) (ma.bind λps=>.ok (Bc [] ps)):=λH Q w s P=>
 ha.run w s FO.tr P λps x H1 s1 w1 q1 ⟨p,xs,e,q,pr⟩ P1=>by
  obtain⟨kvs,h1,h2⟩:=Em (XB (H:=H1) (OO:=OO)) pr
  refine⟨p,xs,kvs,by rw[e],SqL.of q,h1,λd hd=>?_⟩
  have hn:=JX (OO:=OO) hd (o:=.dK (Jf [] kvs))
  exact P1 (.ref d) [(d, .dK (Jf [] kvs))] _ (XQ hd _) (w1.new hd rfl) hn ⟨d,_,rfl,Paired.imp2 (λ_ _ h=>⟨h.1,z.mono hn h.2⟩) (Gu h2 .nil),rfl⟩
end
section
variable {prog:Program}{w:World}{A:Around}
end
section
variable {X:Cx}
end
section
variable {K:PySem.W.Frag}{Er:Exc->Hp->Prop}{S:SC}{OO OO' OO1 OO2:List (List Xx)}{σ:St}{α β γ ρ ι δ ε:Type}
variable {Fd:Ends->β->Hp->Prop}[fd:FdOk Fd]{u:TS}
noncomputable def RX:Enc V:=λ_ H v y=>∃ a x,v= .ref a/\H a=some (.tup [y,x])
instance:FlatE RX:=⟨λs r9=>by obtain⟨a,x,e,h⟩:=r9;exact⟨a,x,e,s _ _ h rfl⟩⟩
theorem EO {v y:V}(i:Nat)(hσ:σ[i]?=some (some v))(h:∀x,S.p x->RX K x v y):∀(H:Hp) (Q:VK),W OO H->S.p (hid H OO)->Q y H->(tOp (Fj K) (Qb i) (tC (.int 0))) σ H Q:=λH Q w s q=>by
 obtain⟨a,x,e,hp⟩:=h _ s
 exact⟨v,hσ,a,_,0,y,e,rfl,SqT.of (XB _ _ hp),rfl,q⟩
theorem Cq {o1:OE α}{o2:OE γ}[z1:MonoO o1][z2:MonoO o2]{m:Rs β}{v:V}{a:α×γ}{C:List Xx}(k k1 k2:Nat)(hk:OO[k]?=some C)(hk1:k1<(OO.set k []).length)(hk2:k2<((OO.set k []).set k1 []).length)(h:∀x,S.p x->oT2 o1 o2 K x v a C)
  (hr:∀v1 v2 C1 C2,Sv Er ((((S.add K RX v v1).add K RS v v2).addO K o1 v1 a.1 C1).addO K o2 v2 a.2 C2) (((OO.set k []).set k1 C1).set k2 C2) σ u Fd m):Sv Er S OO σ u Fd m:=λH D w s P=>by
 obtain⟨p,x,y,C1,C2,e,hp,h1,h2,c⟩:=h _ s
 subst c e
 have pm:=XH hk
 have pm2:(C1::C2::OO.set k []).flatten.Perm OO.flatten:=by
  refine List.Perm.trans ?_ pm
  simp only[List.flatten_cons]
  rw[List.append_assoc]
 have w1:W (C1::C2::OO.set k []) H:=w.of pm2
 obtain⟨w2,m2⟩:=Oq (k:=k1+1) w1 (by rw[List.length_cons];exact Nat.succ_lt_succ hk1)
 have w2':W (C2::(OO.set k []).set k1 C1) H:=w2
 obtain⟨w3,m3⟩:=Oq (k:=k2) w2' (by rw[List.length_set] at hk2⊢;exact hk2)
 have m4:Xu (hid H OO) (hid H (((OO.set k []).set k1 C1).set k2 C2)):=by
  rw[←XI pm2]
  exact Xu.trans m2 m3
 exact hr x y C1 C2 H D w3 ⟨⟨⟨⟨S.mono _ _ m4 s,p,y,rfl,m4 _ _ hp⟩,p,x,rfl,m4 _ _ hp⟩,z1.mono m4 h1⟩,z2.mono m4 h2⟩ (PZ.tr (fd.tr D) m4 P)
end
theorem int_at {ns:List Int}{xs:Array Value}(hx:XZ (ns.map V.int) xs.toList)(i:Nat):(ns[i]?=none/\xs[i]?=none)∨∃a t,ns[i]?=some a/\xs[i]?=some (.int a t):=by
 have hl:ns.length=xs.size:=by have:=hx.length;simpa using this
 rcases Nat.lt_or_ge i ns.length with h |h
 ·obtain⟨u,hu,ru⟩:=hx.get (i:=i) (x:= .int ns[i]) (by simp[h])
  obtain⟨t,rfl⟩:=ru
  exact .inr ⟨ns[i],t,by simp[h],by simpa using hu⟩
 ·exact .inl ⟨List.getElem?_eq_none h,by simp;omega⟩
section
variable {X:Cx}
end
section
variable {K:PySem.W.Frag}{Er:Exc->Hp->Prop}{S:SC}{OO OO' OO1 OO2:List (List Xx)}{σ:St}{α β γ ρ ι δ ε:Type}
end
section
variable {K:PySem.W.Frag}{Er:Exc->Hp->Prop}{S:SC}{OO OO' OO1 OO2:List (List Xx)}{σ:St}{α β γ ρ ι δ ε:Type}
noncomputable def tk (k:List Int):List Key:=k.map Sum.inl
variable {Fd:Ends->β->Hp->Prop}[fd:FdOk Fd]{u:TS}
end
section
variable {X:Cx}{α:Type}[DecidableEq α]{r:Enc α}{d:Nat}
end
section
variable {K:PySem.W.Frag}{Er:Exc->Hp->Prop}{S:SC}{OO OO' OO1 OO2:List (List Xx)}{σ:St}{α β γ ρ ι δ ε:Type}
end
section
variable {X:Cx}{pins:List (Addr×Obj)}{σ:St}{H:Hp}{s:Shared}{h':Heap}
theorem Inv.turns {t':Nat}{ch:List Addr}(I:Inv X pins σ H s)(k:∀b o,b∉ch->s.heap.get? b=some o->h'.get? b=some o)(hf:∀b∈ch,DZ X pins H b):Inv X pins σ H {s with heap:=h',toks:=t'}:=by
 have nit:∀b o,H b=some o->b∉ch:=λb o e z=>by rw[(hf b z).1] at e;cases e
 refine I.step (g':=s.gens) (d':=s.drawn) (ch:=ch) (λb hb=>?_) (λb o _ _ hc e _=>k b o hc e) (λb o _ _ hc e _=>⟨o.slots,k b o hc e⟩)
  (λb o _ e n=>n) (λb o hc e=>⟨o,k b o hc e⟩) (λb xs e=>e) (λb o xs e=>e) (λb ps e=>⟨#[],by rw[e];simp⟩) (λm hm=>?_) (λb v e=>?_) I.bare
 ·obtain⟨f0,f1,f2,f3,f4,f5⟩:=hf b hb
  exact⟨f3,f1,f4,f5⟩
 ·obtain⟨o,es,ep,ho,r⟩:=hm
  exact⟨o,es,ep,k _ o (λz=>(hf _ z).2.1 rfl) ho,r⟩
 ·refine(I.hok b v e).stay (λc o hc q=>k c o ?_ q) (λc q=>q) λc xs q=>q
  rcases hc with z |z
  ·rw[z];exact nit b v e
  ·exact nit c _ z
end
section
variable {X:Cx}{elts:List Expr}{k:Nat}{pos0:Pos}
end
section
variable {K:PySem.W.Frag}{Er:Exc->Hp->Prop}{S:SC}{OO OO' OO1 OO2:List (List Xx)}{σ:St}{α β γ ρ ι δ ε:Type}
end
section
variable {X:Cx}
end
section
variable {K:PySem.W.Frag}{Er:Exc->Hp->Prop}{S:SC}{OO OO' OO1 OO2:List (List Xx)}{σ:St}{α β γ ρ ι δ ε:Type}
variable {Fd:Ends->β->Hp->Prop}[fd:FdOk Fd]{u:TS}
end
section
variable {K:PySem.W.Frag}{Er:Exc->Hp->Prop}{S:SC}{OO OO' OO1 OO2:List (List Xx)}{σ:St}{α β γ ρ ι δ ε:Type}{u:TS}
end
section
variable {X:Cx}
end
section
variable {K:PySem.W.Frag}{Er:Exc->Hp->Prop}{S:SC}{OO:List (List Xx)}{σ:St}
end
section
variable {X:Cx}{pins:List (Addr×Obj)}{σ:St}{H:Hp}{s:Shared}{d:Addr}{o:Obj}{kvs:List (Key×V)}
end
section
variable {X:Cx}
end
section
variable {K:PySem.W.Frag}{Er:Exc->Hp->Prop}{S:SC}{OO OO' OO1 OO2 OO3:List (List Xx)}{σ:St}{α β γ ρ ι δ ε ζ:Type}
variable {Fd:Ends->β->Hp->Prop}[fd:FdOk Fd]{u:TS}
noncomputable def oT3 (o:OE α)(q:OE β)(t:OE γ):OE (α×β×γ):=λK h v a C=>∃ p x y z C1 C2 C3,v= .ref p/\h p=some (.tup [x,y,z])/\o K h x a.1 C1/\q K h y a.2.1 C2/\t K h z a.2.2 C3/\C=C1++(C2++C3)
instance {o:OE α}{q:OE β}{t:OE γ}[m:MonoO o][n:MonoO q][k:MonoO t]:MonoO (oT3 o q t):=⟨λs r9=>by obtain⟨p,x,y,z,C1,C2,C3,e,h,h1,h2,h3,c⟩:=r9;exact⟨p,x,y,z,C1,C2,C3,e,s _ _ h,m.mono s h1,n.mono s h2,k.mono s h3,c⟩⟩
instance {o:OE α}{q:OE β}{t:OE γ}[m:FlatO o][n:FlatO q][k:FlatO t]:FlatO (oT3 o q t):=⟨λs r9=>by obtain⟨p,x,y,z,C1,C2,C3,e,h,h1,h2,h3,c⟩:=r9;exact⟨p,x,y,z,C1,C2,C3,e,s _ _ h rfl,m.flat s h1,n.flat s h2,k.flat s h3,c⟩⟩
instance {o:OE α}{q:OE β}{t:OE γ}{ro:Enc α}{rq:Enc β}{rt:Enc γ}[m:FrzC o ro][n:FrzC q rq][k:FrzC t rt]:FrzC (oT3 o q t) (rP3 ro rq rt):=⟨λ⟨p,x,y,z,C1,C2,C3,e,h,h1,h2,h3,c⟩ s hc=>by
 subst c
 exact⟨p,x,y,z,e,s _ _ h,m.frz h1 s λc hm=>hc c (by simp[hm]),n.frz h2 s λc hm=>hc c (by simp[hm]),k.frz h3 s λc hm=>hc c (by simp[hm])⟩⟩
end
section
variable {K:PySem.W.Frag}{Er:Exc->Hp->Prop}{S:SC}{OO OO' OO1 OO2:List (List Xx)}{σ:St}{α β γ ρ ι δ ε ζ:Type}
variable {Fd:Ends->β->Hp->Prop}[fd:FdOk Fd]{u:TS}
theorem VJ {ta:TE}{ma:Rs Bool}(ha:EvB K Er S OO σ ta Xy ma):EvB K Er S OO σ (tCB (λxs H Q=>(∃i,xs=[.int i]/\Q (.int i) H)∨∃k,xs=[.bl k]/\Q (.int (if k then 1 else 0)) H) (Xv ta Yq)) Xe (ma.bind λb=>.ok (if b=true then(1:Int) else 0)):=λH Q w s P=>
 ha.run w s FB.tr P λb x H1 s1 w1 q1 r1 P1=>.inr ⟨b,by rw[show x= .bl b from r1],P1 _ H1 (Xu.refl _) rfl⟩
end
section
variable {K:PySem.W.Frag}{Er:Exc->Hp->Prop}{S:SC}{OO OO' OO1 OO2:List (List Xx)}{σ:St}{α β γ ρ ι δ ε ζ:Type}
variable {Fd:Ends->β->Hp->Prop}[fd:FdOk Fd]{u:TS}
end
section
variable {K:PySem.W.Frag}{Er:Exc->Hp->Prop}{S:SC}{OO OO' OO1 OO2:List (List Xx)}{σ:St}{α β γ ρ ι δ ε ζ α1 α3 α4:Type}
variable {Fd:Ends->β->Hp->Prop}[fd:FdOk Fd]{u:TS}
end
end L2
namespace L2
open PySem
noncomputable def Inc (xs:Array Nat):Prop:=xs.toList.Pairwise (· < ·)
theorem Inc.lt {xs:Array Nat}(h:Inc xs){i j v u:Nat}(hij:i<j)(hi:xs[i]?=some v)(hj:xs[j]?=some u):v<u:=by
 rw[←Array.getElem?_toList] at hi hj
 obtain⟨a,rfl⟩:=List.getElem?_eq_some_iff.mp hi
 obtain⟨b,rfl⟩:=List.getElem?_eq_some_iff.mp hj
 exact List.pairwise_iff_getElem.mp h i j a b hij
theorem Inc.le {xs:Array Nat}(h:Inc xs){i j v u:Nat}(hij:i<=j)(hi:xs[i]?=some v)(hj:xs[j]?=some u):v<=u:=by
 rcases Nat.lt_or_eq_of_le hij with z |z
 ·exact Nat.le_of_lt (h.lt z hi hj)
 ·subst z;rw[hi] at hj;cases hj;exact Nat.le_refl _
theorem K5 {xs:Array Nat}(hx:Inc xs)(j:Nat):∀(fuel lo hi:Nat),hi-lo<=fuel->lo<=hi->hi<=xs.size->(∀i v,i<lo->xs[i]?=some v->v<j)->(∀i v,hi<=i->xs[i]?=some v->j<=v)->
  SetTable.below.go xs j fuel lo hi<=hi/\(∀i v,i<SetTable.below.go xs j fuel lo hi->xs[i]?=some v->v<j)/\(∀i v,SetTable.below.go xs j fuel lo hi<=i->xs[i]?=some v->j<=v)
 |0,lo,hi,h,h1,h2,a,b=>by
  have e:lo=hi:=by omega
  subst e
  exact⟨Nat.le_refl _,a,b⟩
 |fuel+1,lo,hi,h,h1,h2,a,b=>by
  unfold SetTable.below.go
  by_cases hlt:lo<hi
  ·have hm:(lo+hi)/2<xs.size:=by omega
   have hg:xs[(lo+hi)/2]?=some (xs.getD ((lo+hi)/2) j):=by simp[hm]
   simp only[if_pos hlt]
   by_cases hc:xs.getD ((lo+hi)/2) j<j
   ·rw[if_pos hc]
    exact K5 hx j fuel _ hi (by omega) (by omega) h2 (λi v hi' e=>Nat.lt_of_le_of_lt (hx.le (by omega) e hg) hc) b
   ·rw[if_neg hc]
    obtain⟨p,q,r⟩:=K5 hx j fuel lo ((lo+hi)/2) (by omega) (by omega) (by omega) a (λi v hi' e=>Nat.le_trans (Nat.le_of_not_lt hc) (hx.le hi' hg e))
    exact⟨by omega,q,r⟩
  ·simp only[if_neg hlt]
   have e:lo=hi:=by omega
   subst e
   exact⟨Nat.le_refl _,a,b⟩
theorem Bf {xs:Array Nat}(hx:Inc xs)(j:Nat):SetTable.below xs j<=xs.size/\(∀i v,i<SetTable.below xs j->xs[i]?=some v->v<j)/\(∀i v,SetTable.below xs j<=i->xs[i]?=some v->j<=v):=
 K5 hx j xs.size 0 xs.size (by omega) (Nat.zero_le _) (Nat.le_refl _) (λi v h=>absurd h (Nat.not_lt_zero _)) λi v h e=>by
  rw[Array.getElem?_eq_none h] at e;cases e
theorem C7 {xs:Array Nat}(hx:Inc xs){j:Nat}(hn:xs[SetTable.below xs j]?≠some j):Inc (SetTable.insertAt xs (SetTable.below xs j) j):=by
 obtain⟨a,b,c⟩:=Bf hx j
 generalize SetTable.below xs j=p at*
 unfold Inc
 rw[SetTable.toList_insertAt,List.pairwise_append,List.pairwise_cons]
 have hd:∀u∈xs.toList.drop p,j<u:=λu hu=>by
  obtain⟨k,e⟩:=List.getElem?_of_mem hu
  rw[List.getElem?_drop,Array.getElem?_toList] at e
  have h1:=c (p+k) u (Nat.le_add_right _ _) e
  rcases Nat.lt_or_eq_of_le h1 with z |z
  ·exact z
  ·subst z
   rcases Nat.eq_zero_or_pos k with z |z
   ·subst z;exact absurd e hn
   ·have hs:p<xs.size:=by
     have:=(Array.getElem?_eq_some_iff.mp e).1
     omega
    have g:xs[p]?=some xs[p]:=by simp[hs]
    have h2:=c p _ (Nat.le_refl _) g
    have h3:=hx.lt (show p<p+k by omega) g e
    omega
 have ht:∀u∈xs.toList.take p,u<j:=λu hu=>by
  obtain⟨k,e⟩:=List.getElem?_of_mem hu
  rw[List.getElem?_take] at e
  split at e
  ·rename_i hk
   rw[Array.getElem?_toList] at e
   exact b k u hk e
  ·cases e
 refine⟨List.Pairwise.sublist (List.take_sublist _ _) hx,⟨hd,List.Pairwise.sublist (List.drop_sublist _ _) hx⟩,λu hu y hy=>?_⟩
 rcases List.mem_cons.mp hy with z |z
 ·rw[z];exact ht u hu
 ·exact Nat.lt_trans (ht u hu) (hd y z)
structure TOk (t:SetTable)(led:Bool):Prop where
 inc:Inc t.place
 dum:t.dummies= #[]
 led:t.led=led
theorem TOk.fresh (f m:Nat)(led:Bool):TOk (.fresh f m led) led:=⟨List.Pairwise.nil,rfl,rfl⟩
theorem TOk.standIn {t:SetTable}{led:Bool}(h:TOk t led)(n:Nat):TOk (t.standIn n) led:=⟨by unfold Inc SetTable.standIn;simpa using List.pairwise_lt_range,rfl,h.led⟩
theorem Gx {t:SetTable}(hd:t.dummies= #[])(j:Nat):(t.slot j= .empty->t.place[SetTable.below t.place j]?≠some j)/\t.slot j≠ .dummy:=by
 unfold SetTable.slot
 have hh:SetTable.has t.dummies j=false:=by rw[hd];simp[SetTable.has]
 simp only[hh]
 by_cases h:t.place[SetTable.below t.place j]?=some j
 ·simp[h]
 ·simp[h]
theorem UK {t:SetTable}(hd:t.dummies= #[]){f:Nat->Int}{h:Int}{j:Nat}{d:Option Nat}:∀(fuel:Nat) (p:SetTable.Probe),p.dummy=none->SetTable.probe.go t f h fuel p=some (.empty j d)->d=none/\t.slot j= .empty
 |0,p,_,e=>by cases e
 |fuel+1,p,hp,e=>by
  unfold SetTable.probe.go at e
  have adv:(t.advance p).dummy=none:=by unfold SetTable.advance;split<;> exact hp
  cases hs:t.slot p.j with
  |empty=>rw[hs] at e;cases e;exact⟨hp,hs⟩
  |dummy=>exact absurd hs (Gx hd _).2
  |live i=>
   rw[hs] at e
   dsimp only at e
   split at e
   ·cases e
   ·exact UK hd fuel _ adv e
theorem He {t:SetTable}{led:Bool}(h:TOk t led)(es:Array (Int×Value))(k:Int)(x:Value):TOk (layNew t es k x).2.1 led:=by
 unfold layNew
 cases hf:t.freeSlot k with
 |none=>exact h.standIn _
 |some q=>
  obtain⟨sl,wd⟩:=q
  dsimp only
  have hk:TOk (t.put sl).1 led:=by
   unfold SetTable.freeSlot at hf
   cases hp:t.probe (λ_=>k+1) k (t.probeStart k) with
   |none=>rw[hp] at hf;cases hf
   |some m=>
    rw[hp] at hf
    cases m with
    |candidate=>cases hf
    |empty j d=>
     obtain⟨rfl,hs⟩:=UK h.dum _ _ rfl hp
     cases hf
     have hh:SetTable.has t.dummies j=false:=by rw[h.dum];simp[SetTable.has]
     refine⟨C7 h.inc ((Gx h.dum j).1 hs),?_,h.led⟩
     show(if SetTable.has t.dummies j then _ else t.dummies)= #[]
     rw[hh];exact h.dum
  unfold SetTable.orStandIn
  split
  ·exact hk
  ·exact hk.standIn _
theorem Fx {t:SetTable}{led:Bool}(h:TOk t led)(es:Array (Int×Value))(k:Nat):TOk (relayAll t es k).2.1 led:=by
 unfold relayAll
 cases hr:t.relaid (es.map (·.1)) k with
 |none=>exact h.standIn _
 |some q=>
  obtain⟨t',ord⟩:=q
  dsimp only
  split
  ·unfold SetTable.relaid SetTable.laid at hr
   cases ho:SetTable.layClean (SetTable.sizeAbove k-1) (es.map (·.1)) with
   |none=>rw[ho] at hr;cases hr
   |some ow=>
    rw[ho] at hr
    cases hr
    refine⟨?_,rfl,h.led⟩
    unfold Inc
    show List.Pairwise (· < ·) (List.map (·.1) ((List.range _).filterMap λj=>(ow.getD j none).map (j, ·)))
    rw[List.map_filterMap]
    have e:(λj=>Option.map (λx:Nat×Nat=>x.1) ((ow.getD j none).map (j, ·)))=λj=>if(ow.getD j none).isSome then some j else none:=by
     funext j
     cases ow.getD j none<;> rfl
    rw[e]
    refine List.Pairwise.filterMap _ (λa a' hlt b hb b' hb'=>?_) List.pairwise_lt_range
    split at hb
    ·split at hb'
     ·cases hb;cases hb';exact hlt
     ·cases hb'
    ·cases hb
  ·exact h.standIn _
end L2
namespace L2
open PySem PySem.Spec PyProof.Rows
theorem Ip {vs:List Value}{ms:List Int}(h:IntsAre vs ms)(k:Int):(∃v∈vs,Value.isInt k v=true)↔k∈ms:=by
 induction h with
 |nil=>simp
 |cons n t _ ih=>
  rw[List.mem_cons, ←ih]
  constructor
  ·rintro⟨v,hv,e⟩
   rcases List.mem_cons.mp hv with z |z
   ·subst z;obtain⟨t',e'⟩:=Value.isInt_shape e;cases e';exact .inl rfl
   ·exact .inr ⟨v,z,e⟩
  ·rintro(z | ⟨v,hv,e⟩)
   ·subst z;exact⟨_, .head _,beq_self_eq_true _⟩
   ·exact⟨v, .tail _ hv,e⟩
theorem Gj {vs vs':List Value}(p:vs'.Perm vs):∀{ms:List Int},IntsAre vs ms->∃ms',IntsAre vs' ms'/\ms'.Perm ms:=by
 induction p with
 |nil=>intro ms h;exact⟨ms,h, .refl _⟩
 |cons x _ ih=>
  intro ms h
  cases h with
  |cons n t h=>obtain⟨m,a,b⟩:=ih h;exact⟨n::m, .cons n t a,b.cons _⟩
 |swap x y l=>
  intro ms h
  cases h with
  |cons n t h=>cases h with
   |cons m u h=>exact⟨_, .cons m u (.cons n t h), .swap ..⟩
 |trans _ _ ih1 ih2=>
  intro ms h
  obtain⟨m,a,b⟩:=ih2 h
  obtain⟨m',a',b'⟩:=ih1 a
  exact⟨m',a',b'.trans b⟩
theorem B0 {vs:List Value}{ms:List Int}(h:IntsAre vs ms)(k:Int)(t:Tok):IntsAre (vs++[.int k t]) (ms++[k]):=by
 induction h with
 |nil=>exact .cons k t .nil
 |cons n u _ ih=>exact .cons n u ih
noncomputable def dd (l:List Int):List Int:=l.foldl step_dedup []
structure SCore (prog:Program)(w:World)(es:Array (Int×Value))(t:SetTable)(ns:List Int):Prop where
 el:ElemsOf (intKind prog w) es.toList
 pm:∃ms,IntsAre (es.toList.map (·.2)) ms/\ms.Perm ns
 sz:es.size<scanBound
 fit:t.fits es.size=true
 tok:TOk t (!w.params.followText "set-order")
noncomputable def Kw (prog:Program)(w:World)(h:Heap)(a:Addr)(ns:List Int):Prop:=
 ∃o es ep t,h.get? a=some o/\o.ExactSet/\o.data= .set es ep t/\SCore prog w es t ns
section
variable {prog:Program}{w:World}{A:Around}{E:Value->Shared->Prop}{s:Shared}{a:Addr}{ns:List Int}
theorem SCore.len {es:Array (Int×Value)}{t:SetTable}(c:SCore prog w es t ns):es.size=ns.length:=by
 obtain⟨ms,a,b⟩:=c.pm
 rw[←b.length_eq, ←IntsAre.length a,List.length_map,Array.length_toList]
theorem SCore.mem {es:Array (Int×Value)}{t:SetTable}(c:SCore prog w es t ns)(k:Int):(∃e∈es.toList,Value.isInt k e.2=true)↔k∈ns:=by
 obtain⟨ms,a,b⟩:=c.pm
 rw[←b.mem_iff, ←Ip a k]
 constructor
 ·rintro⟨e,h,z⟩;exact⟨e.2,List.mem_map_of_mem h,z⟩
 ·rintro⟨v,h,z⟩
  obtain⟨e,h1,rfl⟩:=List.mem_map.mp h
  exact⟨e,h1,z⟩
theorem SCore.perm {es es':Array (Int×Value)}{t t':SetTable}(c:SCore prog w es t ns)(p:es'.toList.Perm es.toList)(f:t'.fits es'.size=true)(k:TOk t' (!w.params.followText "set-order")):SCore prog w es' t' ns:=by
 obtain⟨ms,a,b⟩:=c.pm
 obtain⟨m,a',b'⟩:=Gj (p.map (·.2)) a
 have e:es'.size=es.size:=by rw[←Array.length_toList,p.length_eq,Array.length_toList]
 exact⟨c.el.perm p,⟨m,a',b'.trans b⟩,by rw[e];exact c.sz,f,k⟩
theorem Kw.put {h:Heap}{o:Obj}{es es':Array (Int×Value)}{ep:Nat}{t t':SetTable}(ho:h.get? a=some o)(hx:o.ExactSet)(hd:o.data= .set es ep t):
  (h.update a (Obj.putSet es' t')).get? a=some {o with data:=.set es' (ep+1) t'}/\(SCore prog w es' t' ns->Kw prog w (h.update a (Obj.putSet es' t')) a ns):=by
 have g:=Heap.get?_update_self (Obj.putSet es' t') ho (by rw[putSet_of es' t' hd];rfl)
 rw[putSet_of es' t' hd] at g
 exact⟨g,λc=>⟨_,_,_,_,g,hx,rfl,c⟩⟩
theorem Nv {k:Int}{tk:Tok}{Q:Bool->Shared->Prop}(hS:Kw prog w s.heap a ns)(hr:ns.length+1<scanBound)
    (h:∀b h',Heap.SameBut a s.heap h'->Kw prog w h' a (step_dedup ns k)->Q b {s with heap:=h'}):wpAny (model prog w) A (setAddHashed a (.int k tk) ((intKind prog w).hash k)) Q E s:=by
  obtain⟨o,es,ep,t,ho,hx,hd,c⟩:=id hS
  have hk:(intKind prog w).is k (.int k tk)=true:=intKind_is _ _ _ _
  unfold setAddHashed setAddHashedIn
  refine wpAny_holding (wpAny_bind (wpAny_setState_of ho hd c.fit ?_))
  dsimp only
  rw[byScan_of (knd:=intKind prog w) rfl c.sz c.el]
  simp only[↓reduceIte]
  unfold setAddByScan
  refine wpAny_bind (wpAny_bind (wpAny_rule (wpAny_bind (wpAny_setScan_of hk ho hd c.fit c.el ?_))))
  cases hf:List.findIdx? (λe=>(intKind prog w).is k e.2) es.toList with
  |some j=>
    obtain⟨hj,hp,_⟩:=List.findIdx?_eq_some_iff_getElem.mp hf
    have hm:k∈ns:=(c.mem k).mp ⟨_,List.getElem_mem hj,hp⟩
    have e:step_dedup ns k=ns:=if_pos (List.any_eq_true.mpr ⟨k,hm,by simp⟩)
    exact wpAny_pure (wpAny_pure (h _ s.heap (Heap.SameBut.refl a s.heap) (by rw[e];exact hS)))
  |none=>
    have hm:k∉ns:=λhm=>by
      obtain⟨e,he,hp⟩:=(c.mem k).mpr hm
      have:=List.findIdx?_eq_none_iff.mp hf e he
      rw[show(intKind prog w).is k e.2=true from hp] at this
      cases this
    have e:step_dedup ns k=ns++[k]:=if_neg (λz=>by
      obtain⟨x,hx,ex⟩:=List.any_eq_true.mp z
      rw[beq_iff_eq] at ex;subst ex;exact hm hx)
    rw[e] at h
    dsimp only
    have hg:∀(b:Bool) {s₁:Shared}{Q':Unit->Shared->Prop},Q' () s₁->wpAny (model prog w) A (match b with |true=>rule "set.scan.the-table-gave-way" |false=>pure ()) Q' E s₁:=
      λb s₁ Q' q=>by cases b<;> first |exact wpAny_pure q |exact wpAny_rule q
    have hp:=layNew_perm t es ((intKind prog w).hash k) (.int k tk)
    have hfit:=layNew_fits t es ((intKind prog w).hash k) (.int k tk)
    have ht:=He c.tok es ((intKind prog w).hash k) (.int k tk)
    generalize layNew t es ((intKind prog w).hash k) (.int k tk)=L at hp hfit ht⊢
    obtain⟨es1,t1,wd,gv⟩:=L
    dsimp only at hp hfit ht⊢
    have hsz:es1.size=es.size+1:=by rw[←Array.length_toList,hp.length_eq];simp
    have c1:SCore prog w es1 t1 (ns++[k]):=by
      obtain⟨ms,i1,i2⟩:=c.pm
      rw[Array.toList_push] at hp
      have hp2:=hp.map (·.2)
      rw[List.map_append] at hp2
      obtain⟨m,j1,j2⟩:=Gj hp2 (B0 i1 k tk)
      exact⟨(c.el.push hk rfl).perm hp,⟨m,j1,j2.trans (i2.append_right _)⟩,by rw[hsz,c.len];exact hr,hfit,ht⟩
    refine wpAny_bind (hg gv ?_)
    have tail:∀{Q1:Option Bool->Shared->Prop},(∀h',Heap.SameBut a s.heap h'->Kw prog w h' a (ns++[k])->Q1 (some true) {s with heap:=h'})->wpAny (model prog w) A (do
        storeSet a es1 t1
        if(!wd&&t1.tooFull)=true then do
            (match(relayAll t1 es1 (SetTable.grown es1.size)).2.2 with |true=>rule "set.scan.the-table-gave-way" |false=>pure ())
            storeSet a (relayAll t1 es1 (SetTable.grown es1.size)).1 (relayAll t1 es1 (SetTable.grown es1.size)).2.1
            pure (some true)
          else pure (some true)) Q1 E s:=fun {Q1} q=>by
      obtain⟨g1,s1⟩:=Kw.put (prog:=prog) (w:=w) (ns:=ns++[k]) (es':=es1) (t':=t1) ho hx hd
      refine wpAny_bind (wpAny_storeSet_of ho hd ?_ (fits_of_scanBound c1.sz))
      split
      . refine wpAny_bind (hg _ ?_)
        have p2:=relayAll_perm t1 es1 (SetTable.grown es1.size)
        have f2:=relayAll_fits t1 es1 (SetTable.grown es1.size)
        have k2:=Fx ht es1 (SetTable.grown es1.size)
        generalize relayAll t1 es1 (SetTable.grown es1.size)=Z at p2 f2 k2⊢
        obtain⟨es2,t2,gv2⟩:=Z
        have c2:=c1.perm p2 f2 k2
        refine wpAny_bind (wpAny_storeSet_of g1 rfl ?_ (fits_of_scanBound c2.sz))
        exact wpAny_pure (q _ ((Heap.SameBut.update s.heap a _).trans (Heap.SameBut.update _ a _)) ((Kw.put g1 hx rfl).2 c2))
      . exact wpAny_pure (q _ (Heap.SameBut.update s.heap a _) (s1 c1))
    have fin:∀h',Heap.SameBut a s.heap h'->Kw prog w h' a (ns++[k])->Q true {s with heap:=h'}:=λh' sb z=>h true h' sb z
    split
    . refine wpAny_bind ?_
      rw[hashByValue_scannable 8 (x:=.int k tk) rfl]
      refine wpAny_pure ?_
      exact tail λh' sb z=>wpAny_pure (fin h' sb z)
    . refine wpAny_bind (wpAny_pure ?_)
      exact tail λh' sb z=>wpAny_pure (fin h' sb z)
end
section
variable {prog:Program}{w:World}{A:Around}{E:Value->Shared->Prop}{s:Shared}
theorem Kw.at {h h':Heap}{a:Addr}{ns:List Int}(x:Kw prog w h a ns)(k:∀o,h.get? a=some o->h'.get? a=some o):Kw prog w h' a ns:=
 let ⟨o,es,ep,t,ho,r⟩:=x;⟨o,es,ep,t,k o ho,r⟩
theorem L3 (l:List Int)(k:Int):dd (l++[k])=step_dedup (dd l) k:=by unfold dd;rw[List.foldl_append];rfl
theorem Gr (l:List Int):(dd l).length<=l.length:=by
 suffices h:∀(l a:List Int),(l.foldl step_dedup a).length<=a.length+l.length by unfold dd;simpa using h l []
 intro l
 induction l with
 |nil=>intro a;exact Nat.le_refl _
 |cons x l ih=>
  intro a
  refine Nat.le_trans (ih _) ?_
  rw[step_length,List.length_cons]
  split<;> omega
theorem NF {R:Result->Shared->Prop}{I l S:Addr}{items:List Value}{ns:List Int}(hh:A.in1.handled=none)(hi:IntsAre items ns)(hb:ns.length+1<scanBound)(h1:S≠I)(h2:S≠l)(h3:l≠I):
  ∀(k i:Nat) (s:Shared),items.length-i=k->i<=items.length->s.heap.IsListIter I l i->s.heap.IsList l items.toArray->Kw prog w s.heap S (dd (ns.take i))->
   (∀h' tk,Kw prog w h' S (dd ns)->(∀b o,b≠S->b≠I->s.heap.get? b=some o->h'.get? b=some o)->R (.ok (.ret .none)) {s with heap:=h',toks:=tk})->
   codeAny (model prog w) A (.builtin "set.update.loop" ⟨[.ref S, .ref I],[]⟩) R s:=by
 have hln:=IntsAre.length hi
 intro k
 induction k with
 |zero=>
  intro i s hk hle hit hl hS hR
  have e:i=items.length:=by omega
  subst e
  refine codeAny_builtin PyProof.Rows.F.entry_set_update_loop ?_
  rw[Around.under_plainId PyProof.Rows.F.plain_set_update_loop _]
  show wpAny _ A.in1 (pyNext (.ref I) >>= _) _ _ s
  refine wpAny_bind (wpAny_pyNext_list_end hh hit hl (by simp) λh' ext=>?_)
  show wpAny _ A.in1 (ret Value.none) _ _ _
  rw[List.take_of_length_le (by omega)] at hS
  exact wpAny_pure (hR h' _ (hS.at λo ho=>ext S o h1 ho) λb o _ hbI e=>ext b o hbI e)
 |succ k ih=>
  intro i s hk hle hit hl hS hR
  have hlt:i<items.length:=by omega
  obtain⟨tk,ev⟩:=IntsAre.int_at hi i items[i] (List.getElem?_eq_getElem hlt)
  have hi2:i<ns.length:=by omega
  have eg:ns.getD i 0=ns[i]:=by simp[hi2]
  rw[eg] at ev
  refine codeAny_builtin PyProof.Rows.F.entry_set_update_loop ?_
  rw[Around.under_plainId PyProof.Rows.F.plain_set_update_loop _]
  show wpAny _ A.in1 (pyNext (.ref I) >>= _) _ _ s
  refine wpAny_bind (wpAny_pyNext_list_item hit hl (x:=items[i]) (by simp[hlt]) λh' hit' sb=>?_)
  rw[ev]
  show wpAny _ A.in1 (holding [Value.int ns[i] tk] (setAdd S (.int ns[i] tk)) >>= _) _ _ _
  refine wpAny_bind (wpAny_holding ?_)
  unfold setAdd
  refine wpAny_holding (wpAny_bind ((intKind prog w).pyHash (k:=ns[i]) (intKind_is _ _ _ _) ?_))
  have hS':Kw prog w h' S (dd (ns.take i)):=hS.at λo ho=>(sb.2 S h1).trans ho
  refine Nv (s:={s with heap:=h',toks:=s.toks+1}) hS' (by have:=Gr (ns.take i);rw[List.length_take] at this;omega) λb h2' sb2 hS2=>?_
  rw[←L3, ←List.take_succ_eq_append_getElem hi2] at hS2
  refine wpAny_pure ⟨plainId_quiet PyProof.Rows.F.plain_set_update_loop _,ih (i+1) _ (by omega) hlt (hit'.at λo ho=>(sb2.2 I (Ne.symm h1)).trans ho) (hl.at λo ho=>(sb2.2 l (Ne.symm h2)).trans ((sb.2 l h3).trans ho)) hS2 λh3' tk' hS3 keep=>?_⟩
  exact hR h3' tk' hS3 λb o hbS hbI e=>keep b o hbS hbI ((sb2.2 b hbS).trans ((sb.2 b hbI).trans e))
theorem IV (v:Value){Q:Value->Shared->Prop}
  (h:Q (.ref s.heap.objs.size) {s with heap:=s.heap.push {cls:=.type "set",dict:=none,data:=.set #[] 0 (.fresh 0 0 (!w.params.followText "set-order"))}}):
  codeAny (model prog w) A (.call (.builtin "set.__new__") ⟨[.type "set",v],[]⟩) (wants Q E) s:=by
 refine codeAny_of_tree ?_
 show wpAny _ A.in1 (do checkBuiltinCall "set.__new__" ⟨[.type "set",v],[]⟩;again (.builtin "set.__new__" ⟨[.type "set",v],[]⟩)) _ _ s
 refine wpAny_bind (wpAny_of_eq (F.newCall_set_1 v) (wpAny_pure ⟨plainId_quiet F.plain_set_new _,codeAny_builtin F.entry_set_new ?_⟩))
 rw[Around.under_plainId F.plain_set_new _]
 unfold Builtin.«set.__new__» Builtin.Frozenset.newClass
 have hsub:=sub_set_self
 obtain⟨hp,g,d,tk,os⟩:=s
 dsimp only
 wp_walk
 refine wpAny_askSetting (wpAny_pure ?_)
 dsimp only
 simp only[newObj]
 refine wpAny_bind (wpAny_alloc (wpAny_pure ?_))
 exact wpAny_pure h
set_option maxHeartbeats 3200000 in
theorem EL {l:Addr}{items:List Value}{ns:List Int}{Q:Value->Shared->Prop}(hh:A.handled=none)(hl:s.heap.IsList l items.toArray)(hi:IntsAre items ns)(hb:ns.length+1<scanBound)
  (h:∀h' tk,Kw prog w h' s.heap.objs.size (dd ns)->(∀b o,s.heap.get? b=some o->h'.get? b=some o)->Q (.ref s.heap.objs.size) {s with heap:=h',toks:=tk}):
  wpAny (model prog w) A (call (.type "set") [.ref l]) Q E s:=by
 obtain⟨c,tl,hmro⟩:=F.called_set.mro
 have hmade:=F.called_set.made
 have hsub:=F.called_set.sub
 refine wpAny_call (codeAny_of_tree ?_)
 show wpAny _ _ (callAny (.type "set") _) _ _ _
 refine wpAny_pure ⟨Code.quiet_builtin _ (by decide+kernel),codeAny_builtin F.entry_type_call ?_⟩
 rw[Around.under_plain (weight_type_call_type "set" [.ref l] []) rfl]
 have h1:=F.called_set.notType
 have h2:=F.called_set.canCreate
 have hct:=F.typeCall_set_1 (.ref l)
 repeat (any_goals (first |assumption |wp_step))
 generalize hob:({cls:=.type "set",dict:=none,data:=.set #[] 0 (.fresh 0 0 (!w.params.followText "set-order"))}:Obj)=ob
 refine codeAny_mono (IV (.ref l) (E:=E) (Q:=λobj s₁=>obj= .ref s.heap.objs.size/\s₁={s with heap:=s.heap.push ob}) ⟨rfl,by rw[hob]⟩) λr s₁ hr=>?_
 cases r with
 |error e=>exact hr
 |ok fl=>
  cases fl with
  |ret obj=>
   obtain⟨rfl,rfl⟩:=hr
   have hS:(s.heap.push ob).get? s.heap.objs.size=some ob:=Heap.get?_push_size _ (by rw[←hob];rfl)
   have hT:Shared.TypeIs {s with heap:=s.heap.push ob} (.ref s.heap.objs.size) "set":=⟨_,hS,by rw[←hob]⟩
   have hli:=F.called_set.init.lookup
   have hbi:=F.called_set.init.bind (.ref s.heap.objs.size)
   repeat (any_goals (first |assumption |wp_step))
   refine codeAny_mono (codeAny_call_builtin (R:=wants (λr s₂=>r= .none/\∃h' tk,s₂={s with heap:=h',toks:=tk}/\Kw prog w h' s.heap.objs.size (dd ns)/\(∀b o,s.heap.get? b=some o->h'.get? b=some o)) E) F.called_set.init.plain F.entry_set_init (check_set_init_1 hT ?_)) λr₂ s₂ hr₂=>?_
   ·have hS0:Kw prog w (s.heap.push ob) s.heap.objs.size []:=⟨_, #[],0,_,hS,by rw[←hob];exact⟨rfl,rfl,rfl⟩,by rw[←hob],⟨λe he=>by simp at he,⟨[], .nil, .refl _⟩,by decide,by rfl, .fresh ..⟩⟩
    obtain⟨ol,hol,hcl,nl,hdl⟩:=hl
    obtain⟨ocls,odict,odata,oslots⟩:=ol
    simp only at hcl hdl
    subst hcl;subst hdl
    have hol':(s.heap.push ob).get? l=some {cls:=.type "list",dict:=odict,data:=.seq items.toArray nl,slots:=oslots}:=Heap.get?_push_of_some _ hol
    have hsls:=F.sub_list_set
    have hslf:=F.sub_list_frozenset
    have hne:(Value.type "list" ==Value.type "dict")=false:=by decide
    have hl1:(s.heap.push ob).IsList l items.toArray:=⟨_,hol',rfl,nl,rfl⟩
    subst hob
    unfold Builtin.«set.__init__» noKeywords Builtin.Frozenset.updateFrom
    generalize hPI:pyIter=PI
    wp_walk
    subst hPI
    refine wpAny_pyIter_list hl1 ?_
    refine wpAny_bind (wpAny_runValue ?_)
    have hlS:l<s.heap.objs.size:=Heap.lt_size hol
    generalize hob:({cls:=.type "set",dict:=none,data:=.set #[] 0 (.fresh 0 0 (!w.params.followText "set-order"))}:Obj)=ob at*
    have hI:(s.heap.push ob).objs.size=s.heap.objs.size+1:=Heap.size_push ..
    refine NF (ns:=ns) (l:=l) (by simp[hh]) hi hb (by rw[hI];exact Nat.ne_of_lt (Nat.lt_succ_self _)) (Nat.ne_of_gt hlS) (by rw[hI];exact Nat.ne_of_lt (Nat.lt_succ_of_lt hlS)) (items.length-0) 0 _ rfl (Nat.zero_le _)
     ⟨_,Heap.get?_push_size _ rfl,rfl,rfl⟩ (hl1.push _) (hS0.at λo ho=>Heap.get?_push_of_some _ ho) λh' tk hS' keep=>?_
    show wpAny _ _ _ _ _ _
    refine wpAny_pure ?_
    show wpAny _ _ (ret Value.none) _ _ _
    exact wpAny_pure ⟨rfl,h',tk,rfl,hS',λb o e=>keep b o (Nat.ne_of_lt (Heap.lt_size e)) (by rw[hI];exact Nat.ne_of_lt (Nat.lt_succ_of_lt (Heap.lt_size e))) (Heap.get?_push_of_some _ (Heap.get?_push_of_some _ e))⟩
   ·cases r₂ with
    |error e=>exact hr₂
    |ok fl₂=>
     cases fl₂ with
     |ret r=>
      obtain⟨rfl,h',tk,rfl,hS',hk'⟩:=hr₂
      repeat (any_goals (first |assumption |wp_step))
      exact h _ _ hS' hk'
     |_=>exact hr₂.elim
  |_=>exact hr.elim
end
section
variable {M:Model}{A:Around}{E:Value->Shared->Prop}{s:Shared}
end
section
variable {prog:Program}{w:World}{A:Around}{E:Value->Shared->Prop}{s:Shared}{a:Addr}{o:Obj}{es:Array (Int×Value)}{ep:Nat}{t:SetTable}
end
section
variable {prog:Program}{w:World}{A:Around}{E:Value->Shared->Prop}{s:Shared}{a I tp:Addr}{o:Obj}{es:Array (Int×Value)}{ep:Nat}{t:SetTable}{L:List (Int×Value)}
inductive SMode (w:World)(a:Addr)(es:Array (Int×Value))(ep:Nat)(t:SetTable)(tp:Addr)(L:List (Int×Value))(h:Heap)(i:Nat):Value->Prop
 |text (sl:Nat) (hT:w.params.followText "set-order" =true) (hL:L=(pickOrder (w.params.setOrder a ep) es).toList):SMode w a es ep t tp L h i (.int sl 0)
 |plain (sl:Nat) (hT:w.params.followText "set-order" =false) (hp:(!t.plain&&decide (es.size > 1))=false) (hL:L=es.toList) (hb:SetTable.below t.place sl=i):SMode w a es ep t tp L h i (.int sl 0)
 |drawn (ps:List Nat) (hg:h.get? tp=some {cls:=.type "tuple",data:=.seq (ps.map λi=>Value.int (i:Nat) 0).toArray}) (hn:ps.length=L.length) (hL:∀(i:Nat) pl,ps[i]?=some pl->L[i]?=es[pl]?):SMode w a es ep t tp L h i (.ref tp)
structure SIt (w:World)(I a:Addr)(es:Array (Int×Value))(ep:Nat)(t:SetTable)(tp:Addr)(L:List (Int×Value))(o:Obj)(i:Nat)(h:Heap):Prop where
 it:∃ob first,h.get? I=some ob/\ob.cls= .type "set_iterator" /\ob.data= .fields #[first, .int i 0, .ref a, .int es.size 0, .int ep 0]/\SMode w a es ep t tp L h i first
 st:h.get? a=some o
theorem SMode.at {h h':Heap}{i:Nat}{v:Value}(m:SMode w a es ep t tp L h i v)(k:∀o,h.get? tp=some o->h'.get? tp=some o):SMode w a es ep t tp L h' i v:=by
 cases m with
 |text sl hT hL=>exact .text sl hT hL
 |plain sl hT hp hL hb=>exact .plain sl hT hp hL hb
 |drawn ps hg hn hL=>exact .drawn ps (k _ hg) hn hL
end
section
variable {prog:Program}{w:World}{A:Around}{E:Value->Shared->Prop}{s:Shared}{a I tp:Addr}{o:Obj}{es:Array (Int×Value)}{ep:Nat}{t:SetTable}{L:List (Int×Value)}{ns:List Int}
theorem SIt.frame {i:Nat}{h h':Heap}(x:SIt w I a es ep t tp L o i h)(k:∀b∈[I,a,tp],∀o,h.get? b=some o->h'.get? b=some o):SIt w I a es ep t tp L o i h':=by
 obtain⟨⟨ob,f,h1,h2,h3,m⟩,h4⟩:=x
 exact⟨⟨ob,f,k I (by simp) _ h1,h2,h3,m.at λo e=>k tp (by simp) o e⟩,k a (by simp) _ h4⟩
end
section
variable {X:Cx}
noncomputable def PR (P:Program)(w:World)(p:Addr)(ns:List Int):HO:=.ext λh=>Kw P w h p ns
noncomputable def Ld (K:PySem.W.Frag)(P:Program)(w:World):List V->Hp->VK->Prop:=λxs H Q=>∃ l ns,xs=[.ref l]/\SqL K H l (ns.map V.int)/\ns.length<64/\∀p,H p=none->Q (.ref p) (upd H p (PR P w p (dd ns)))
theorem Dm (K:PySem.W.Frag)(hK:X.K=K)(hc:X.calm=true):Zc X (.type "set") (Ld K X.prog X.w):=by
 subst hK
 intro pins s σ H xs us Q I r h
 obtain⟨l,ns,rfl,hq,h64,q⟩:=h
 obtain⟨u,rfl,ru⟩:=Jk r
 cases ru
 obtain⟨its,rv,pl,hz⟩:=I.list hq
 refine EL (I.ok.hd hc) pl.isList (KB rv) (by have:scanBound=4096:=rfl;omega) λh' tk hS old=>?_
 have hfr:H s.heap.objs.size=none:=I.hok.fresh (Nat.le_refl _)
 refine⟨.ref s.heap.objs.size,_,I.laid (t':=tk) old (Nat.le_refl _) (show Yp X.prog X.w _ _ _ (PR X.prog X.w s.heap.objs.size (dd ns)) from⟨hS,?_,λh1 h2 x k=>x.at k⟩),rfl,q _ hfr⟩
 obtain⟨o,_,_,_,ho,_⟩:=hS
 exact⟨o,ho⟩
end
section
variable {K:PySem.W.Frag}{Er:Exc->Hp->Prop}{S:SC}{OO:List (List Xx)}{σ:St}
variable {u:TS}{α γ ρ ι:Type}
variable {β:Type}{Fd:Ends->β->Hp->Prop}[fd:FdOk Fd]
end
section
variable {α β γ:Type}
end
section
variable {K:PySem.W.Frag}{Er:Exc->Hp->Prop}{S:SC}{OO:List (List Xx)}{σ:St}{α1 α2 α3 α4 ρ:Type}{mg:Str->Option Value}{E:XK}
end
section
variable {X:Cx}{tg:Expr}
noncomputable def L0 (K:PySem.W.Frag):R2:=λx y H Q=>∃ a b xs ys,x= .ref a/\y= .ref b/\SqT K H a xs/\SqT K H b ys/\ys≠ []/\xs.length+ys.length<=sizeLine/\
 (xs=[]->Q (.ref b) H)/\(xs≠ []->∀p,H p=none->Q (.ref p) (upd H p (.tup (xs++ys))))
theorem KJ (K:PySem.W.Frag)(hK:X.K=K):OpR X (binaryOp .Add) (L0 K):=by
 subst hK
 intro pins s σ H x y v u Q I rx ry h
 obtain⟨a,b,xs,ys,e1,e2,ha,hb,hy,hz,q1,q2⟩:=h
 by_cases hx:xs=[]
 ·subst e1 e2
  cases rx
  cases ry
  obtain⟨its,r1,p1,_⟩:=I.tuple ha
  obtain⟨its2,r2,p2,_⟩:=I.tuple hb
  obtain⟨⟨cls,dd,data,sl⟩,ho,hc,n,hd⟩:=id p1
  obtain⟨⟨cls2,dd2,data2,sl2⟩,ho2,hc2,n2,hd2⟩:=id p2
  simp only at hc hd hc2 hd2
  subst hc hd hc2 hd2
  have e0:its=[]:=r1.nil_iff.mpr hx
  exact concat_meets ⟨_,ho,rfl⟩ ⟨_,ho2,rfl⟩ noFill_tuple_add seq_tuple_add PySem.F.slot_tuple_add PySem.F.entry_tuple_add (PySem.F.args_tuple_add_2 _ _)
   (tuple_addW0 a b its.toArray its2.toArray n n2 dd dd2 sl sl2 (by simp[e0])) ⟨ho,ho2,⟨.ref b,H,I,rfl,q1 hx⟩⟩
 ·exact NP pins s σ H x y v u Q I rx ry ⟨a,b,xs,ys,e1,e2,ha,hb,hx,hz,λz=>absurd z hy,λ_=>q2 hx⟩
end
section
variable {K:PySem.W.Frag}{Er:Exc->Hp->Prop}{S:SC}{OO OO':List (List Xx)}{σ:St}{α β γ:Type}
theorem K4 {ta tb:TE}{r:Enc α}[z:MonoE r]{ma mb:Rs (List α)}(ha:EvB K Er S OO σ ta (rPL r) ma)(hb:EvB K Er S OO σ tb (rPL r) mb):EvB K Er S OO σ (tOp (L0 K) ta tb) (rPL r) (ma.bind λas=>mb.bind λbs=>chk (0<bs.length/\as.length+bs.length<=sizeLine) (.ok (as++bs))):=λH Q w s P=>
 ha.run w s FB.tr P λas x H1 s1 w1 q1 ⟨p,xs,e,q,pr⟩ P1=>hb.run w1 q1 FB.tr P1 λbs y H2 s2 w2 q2 ⟨p',ys,e',q',pr'⟩ P2=>by
  obtain⟨⟨h1,h2⟩,P3⟩:=PZ.chk P2
  have hl:=Paired.len pr
  have hl':=Paired.len pr'
  have pr2:Paired (r K H2) xs as:=Paired.imp2 (λ_ _ h=>z.mono s2 h) pr
  refine⟨p,p',xs,ys,e,e',SqT.of (s2 _ _ q),SqT.of q',λz=>by rw[z] at hl';simp at hl';omega,by rw[hl,hl'];exact h2,λhz=>?_,λ_ a ha=>P3 _ _ (XQ ha _) ⟨a,_,rfl,X9,Paired.imp2 (λ_ _ h=>z.mono (XQ ha _) h) (Paired.app pr2 pr')⟩⟩
  subst hz
  have ha:as=[]:=List.length_eq_zero_iff.mp (by rw[←hl];rfl)
  subst ha
  exact P3 _ H2 (Xu.refl _) ⟨p',ys,rfl,q',pr'⟩
theorem P3.reverse {δ:Type}{F:α->γ->δ->Prop}:∀{l m n},P3 F l m n->P3 F l.reverse m.reverse n.reverse:=λp=>by
 induction p with
 |nil=>exact .nil
 |cons r _ ih=>rw[List.reverse_cons,List.reverse_cons,List.reverse_cons];exact ih.snoc r
variable {u:TS}{Fd:Ends->β->Hp->Prop}[fd:FdOk Fd]
end
section
variable {K:PySem.W.Frag}{Er:Exc->Hp->Prop}{S:SC}{OO:List (List Xx)}{σ:St}{α β γ ι:Type}{u:TS}{Fd:Ends->β->Hp->Prop}[fd:FdOk Fd]
end
section
variable {K:PySem.W.Frag}{Er:Exc->Hp->Prop}{S:SC}{OO:List (List Xx)}{σ:St}{α β:Type}
end
noncomputable def Sn (A:Around)(s:Shared)(v u:Value)(b:Bool):Prop:=
 ∀(prog:Program) (w:World) (E:Value->Shared->Prop) (Q:Value->Shared->Prop),Q (.bool b) s->wpAny (model prog w) A (richCompare .Lt v u) Q E s
structure LtOk {α:Type}(r:Enc α)(lt:α->α->Bool)(d:Nat):Prop where
 at':∀{X:Cx}{pins:List (Addr×Obj)}{σ:St}{H:Hp}{s:Shared}{x y:V}{v u:Value}{a b:α}{A:Around},Inv X pins σ H s->XW x v->XW y u->r X.K H x a->r X.K H y b->A.units+d<cLine->Sn A s v u (lt a b)
noncomputable def ltI (a b:Int):Bool:=decide (a<b)
theorem lt_int:LtOk Xe ltI 0:=⟨fun {X pins σ H s x y v u a b A} I rx ry h1 h2 _ prog w E Q q=>by
 have e1:x=V.int a:=h1
 have e2:y=V.int b:=h2
 subst e1 e2
 obtain⟨t,rfl⟩:=rx
 obtain⟨t',rfl⟩:=ry
 exact CmpOf.ints_lt (P:=λj v=>∃ t,v= .int (if j=0 then a else b) t) (λj=>if j=0 then a else b) (λ_ _ h=>h) 0 1 _ _ _ _ _ ⟨t,rfl⟩ ⟨t',rfl⟩ q⟩
section
variable {α:Type}[DecidableEq α]{r:Enc α}{lt:α->α->Bool}{d:Nat}
theorem LtOk.imp {q:Enc α}(L:LtOk r lt d)(h:∀{K:PySem.W.Frag}{H:Hp}{v:V}{a:α},q K H v a->r K H v a):LtOk q lt d:=⟨λI rx ry h1 h2 hu=>L.at' I rx ry (h h1) (h h2) hu⟩
end
section
variable {α:Type}
noncomputable def kp (kf:Value->α)(d:α)(xs:Array Keyed)(i:Nat):α:=(xs[i]?.map λp=>kf p.1).getD d
theorem IA {kf:Value->α}{d:α}{xs ys:Array Keyed}{i j:Nat}(h:xs[i]?=ys[j]?):kp kf d xs i=kp kf d ys j:=by unfold kp;rw[h]
structure Ord (lt:α->α->Bool):Prop where
 irr:∀a,lt a a=false
 tr:∀{a b c},lt a b=true->lt b c=true->lt a c=true
structure SB (κ:SortKind)(a0:Array Keyed)(st:SortSt):Prop where
 perm:(arrOf st).Perm a0
 kind:kindOf st=κ
 failed:failedOf st=none
 pend:pendingOf st= #[]
theorem SB.size {κ:SortKind}{a0:Array Keyed}{st:SortSt}(h:SB κ a0 st):(arrOf st).size=a0.size:=h.perm.size_eq
theorem SB.setArr {κ:SortKind}{a0:Array Keyed}{st:SortSt}(h:SB κ a0 st){xs:Array Keyed}(hp:xs.Perm (arrOf st)):SB κ a0 (setArr st xs):=⟨hp.trans h.perm,h.kind,h.failed,h.pend⟩
structure Asks (prog:Program)(w:World)(A:Around)(E:Value->Shared->Prop)(s:Shared)(κ:SortKind)(lt:α->α->Bool)(kf:Value->α)(d:α)(a0:Array Keyed):Prop extends Ord lt where
 ask:∀{st:SortSt}{i j:Nat}{Q:Option Bool->SortSt->Prop},SB κ a0 st->i<a0.size->j<a0.size->Q (some (lt (kp kf d (arrOf st) i) (kp kf d (arrOf st) j))) st->wpS (model prog w) A E s (ltAt' i j) Q st
 two:∀{st:SortSt}{i j:Nat},SB κ a0 st->i<a0.size->j<a0.size->i≠j->lt (kp kf d (arrOf st) i) (kp kf d (arrOf st) j)=true∨lt (kp kf d (arrOf st) j) (kp kf d (arrOf st) i)=true
variable {prog:Program}{w:World}{A:Around}{E:Value->Shared->Prop}{s:Shared}{κ:SortKind}{lt:α->α->Bool}{kf:Value->α}{d:α}{a0:Array Keyed}
noncomputable def Ris (lt:α->α->Bool)(k:Nat->α)(n:Nat):Prop:=∀ i j,i<j->j<n->lt (k i) (k j)=true
noncomputable def Fal (lt:α->α->Bool)(k:Nat->α)(n:Nat):Prop:=∀ i j,i<j->j<n->lt (k j) (k i)=true
theorem Ris.more (O:Ord lt){k:Nat->α}{n:Nat}(h:Ris lt k n)(q:0<n->lt (k (n-1)) (k n)=true):Ris lt k (n+1):=λi j hij hj=>by
 rcases Nat.lt_or_ge j n with z |z
 ·exact h i j hij z
 ·have e:j=n:=by omega
  subst e
  rcases Nat.lt_or_ge i (j-1) with y |y
  ·exact O.tr (h i (j-1) y (by omega)) (q (by omega))
  ·rw[show i=j-1 by omega];exact q (by omega)
theorem Fal.more (O:Ord lt){k:Nat->α}{n:Nat}(h:Fal lt k n)(q:0<n->lt (k n) (k (n-1))=true):Fal lt k (n+1):=λi j hij hj=>by
 rcases Nat.lt_or_ge j n with z |z
 ·exact h i j hij z
 ·have e:j=n:=by omega
  subst e
  rcases Nat.lt_or_ge i (j-1) with y |y
  ·exact O.tr (q (by omega)) (h i (j-1) y (by omega))
  ·rw[show i=j-1 by omega];exact q (by omega)
theorem Asks.other (L:Asks prog w A E s κ lt kf d a0){st:SortSt}{i j:Nat}(B:SB κ a0 st)(hi:i<a0.size)(hj:j<a0.size)(n:i≠j)(h:lt (kp kf d (arrOf st) i) (kp kf d (arrOf st) j)=false):lt (kp kf d (arrOf st) j) (kp kf d (arrOf st) i)=true:=(L.two B hi hj n).resolve_left (by rw[h];decide)
theorem Hz {xs:Array Keyed}{n i:Nat}(hn:n<=xs.size)(hi:i<n):kp kf d (mirror xs 0 n ((n-0)/2)) i=kp kf d xs (n-1-i):=by
 have e:=getElem?_mirror_all (i:=0) hn i
 rw[if_pos ⟨Nat.zero_le _,hi⟩,Nat.zero_add] at e
 exact IA e
theorem O3 (O:Ord lt){xs:Array Keyed}{k l:Nat}(hk:k<xs.size)(hl:l<=k)(R:Ris lt (kp kf d xs) k)(lo:∀i,i<l->lt (kp kf d xs i) (kp kf d xs k)=true)(hi:∀i,l<=i->i<k->lt (kp kf d xs k) (kp kf d xs i)=true):Ris lt (kp kf d (bubble xs k (k-l))) (k+1):=by
 have g:∀p,kp kf d (bubble xs k (k-l)) p=if p=l then kp kf d xs k else if l<p/\p<=k then kp kf d xs (p-1) else kp kf d xs p:=λp=>by
  have e:=getElem?_bubble hk (k-l) (by omega) p
  rw[show k-(k-l)=l by omega] at e
  by_cases h1:p=l
  ·rw[if_pos h1] at e⊢;exact IA e
  ·rw[if_neg h1] at e⊢
   by_cases h2:l<p/\p<=k
   ·rw[if_pos h2] at e⊢;exact IA e
   ·rw[if_neg h2] at e⊢;exact IA e
 intro i j hij hj
 rw[g,g]
 rcases Nat.lt_trichotomy i l with hi' |hi' |hi'
 ·rw[if_neg (by omega),if_neg (by omega)]
  rcases Nat.lt_trichotomy j l with hj' |hj' |hj'
  ·rw[if_neg (by omega),if_neg (by omega)];exact R i j hij (by omega)
  ·rw[if_pos hj'];exact lo i hi'
  ·rw[if_neg (by omega),if_pos (by omega)];exact R i (j-1) (by omega) (by omega)
 ·rw[if_pos hi',if_neg (by omega),if_pos (by omega)];exact hi (j-1) (by omega) (by omega)
 ·rw[if_neg (by omega),if_pos (by omega),if_neg (by omega),if_pos (by omega)];exact R (i-1) (j-1) (by omega) (by omega)
end
section
variable {α β γ:Type}
theorem GQ {f:α->β}{l' k:List β}(h:l'.Perm k):∀{l:List α},k=l.map f->∃m:List α,m.Perm l/\m.map f=l':=by
 induction h with
 |nil=>intro l e;cases l with
  |nil=>exact⟨[], .nil,rfl⟩
  |cons a l=>cases e
 |cons x _ ih=>intro l e;cases l with
  |nil=>cases e
  |cons a l=>
   injection e with e1 e2
   obtain⟨m,hm,em⟩:=ih e2
   exact⟨a::m,hm.cons a,by rw[List.map_cons,em,e1]⟩
 |swap x y t=>intro l e;cases l with
  |nil=>cases e
  |cons a l=>cases l with
   |nil=>cases e
   |cons b l=>
    injection e with e1 e2
    injection e2 with e2 e3
    exact⟨b::a::l, .swap ..,by rw[List.map_cons,List.map_cons,e1,e2,e3]⟩
 |trans _ _ ih1 ih2=>
  intro l e
  obtain⟨m2,h2,e2⟩:=ih2 e
  obtain⟨m1,h1,e1⟩:=ih1 e2.symm
  exact⟨m1,h1.trans h2,e1⟩
structure OrdT (lt:α->α->Bool):Prop extends Ord lt where
 tot:∀{a b},a≠b->lt a b=true∨lt b a=true
section
variable [DecidableEq α]{lt:α->α->Bool}
end
noncomputable def Oa (lt:α->α->Bool)(a:α):List α->List α
 | []=>[a]
 |b::l=>if lt a b=true then a::b::l else b::Oa lt a l
noncomputable def Zk (lt:α->α->Bool)(l:List α):List α:=l.foldr (Oa lt) []
theorem UM (lt:α->α->Bool)(a:α):∀l,(Oa lt a l).Perm (a::l)
 | []=>.refl _
 |b::l=>by
  rw[Oa]
  split
  ·exact .refl _
  ·exact((UM lt a l).cons b).trans (.swap ..)
theorem YF (lt:α->α->Bool):∀l:List α,(Zk lt l).Perm l
 | []=>.refl _
 |a::l=>(UM lt a _).trans ((YF lt l).cons a)
theorem Fa {lt:α->α->Bool}(O:OrdT lt){a:α}:∀{l:List α},(∀b∈l,a≠b)->l.Pairwise (λx y=>lt x y=true)->(Oa lt a l).Pairwise λx y=>lt x y=true
 | [],_,_=>List.pairwise_singleton ..
 |b::l,hn,h=>by
  rw[List.pairwise_cons] at h
  rw[Oa]
  split
  ·rename_i hab
   refine List.pairwise_cons.mpr ⟨λc hc=>?_,List.pairwise_cons.mpr h⟩
   rcases List.mem_cons.mp hc with z |z
   ·rw[z];exact hab
   ·exact O.tr hab (h.1 c z)
  ·rename_i hab
   refine List.pairwise_cons.mpr ⟨λc hc=>?_,Fa O (λc hc=>hn c (List.mem_cons_of_mem _ hc)) h.2⟩
   rcases List.mem_cons.mp ((UM lt a l).mem_iff.mp hc) with z |z
   ·rw[z];exact(O.tot (hn b List.mem_cons_self)).resolve_left hab
   ·exact h.1 c z
theorem JZ {lt:α->α->Bool}(O:OrdT lt):∀{l:List α},l.Nodup->(Zk lt l).Pairwise λx y=>lt x y=true
 | [],_=>.nil
 |a::l,h=>by
  rw[List.nodup_cons] at h
  exact Fa O (λb hb e=>h.1 ((YF lt l).mem_iff.mp (e▸hb))) (JZ O h.2)
theorem Cl {lt:α->α->Bool}(O:OrdT lt){a b:List α}(hn:b.Nodup)(h:a.Perm b)(r:a.Pairwise λx y=>lt x y=true):a=Zk lt b:=
 List.Perm.eq_of_pairwise (le:=λx y=>lt x y=true) (λx y _ _ h1 h2=>by have:=O.tr h1 h2;rw[O.irr] at this;cases this) r (JZ O hn) (h.trans (YF lt b).symm)
end
section
variable {prog:Program}{w:World}{A:Around}{E:Value->Shared->Prop}{s:Shared}{α:Type}
noncomputable def mid (h:Heap)(a:Addr)(vs:List Value):Heap:=((h.update a (Obj.mapSeq λ_=>#[])).push (seqObj "tuple" vs.toArray 0)).push (seqObj "list" #[] 0)
theorem M3 {h:Heap}{a b:Addr}{vs:List Value}{o:Obj}(hne:b≠a)(hb:h.get? b=some o):(mid h a vs).get? b=some o:=by
 have hlt:=Heap.lt_size hb
 unfold mid
 rw[Heap.get?_push_ne _ _ _ (by rw[size_push',Heap.size_update];exact Nat.ne_of_lt (Nat.lt_succ_of_lt hlt)),Heap.get?_push_ne _ _ _ (by rw[Heap.size_update];exact Nat.ne_of_lt hlt),Heap.get?_update_ne _ _ _ _ hne]
 exact hb
end
section
variable {X:Cx}{β:Type}[DecidableEq β]{r:Enc β}{lt:β->β->Bool}{d:Nat}
end
section
variable {X:Cx}{α:Type}
end
section
variable {K:PySem.W.Frag}{Er:Exc->Hp->Prop}{S:SC}{OO OO':List (List Xx)}{σ:St}{α β γ δ:Type}
theorem P3.tri {F:α->β->γ->Prop}:∀{l m n},P3 F l m n->∃T:List (α×β×γ),T.map (·.1)=l/\T.map (·.2.1)=m/\T.map (·.2.2)=n/\∀t∈T,F t.1 t.2.1 t.2.2:=λp=>by
 induction p with
 |nil=>exact⟨[],rfl,rfl,rfl,λt h=>nomatch h⟩
 |cons r _ ih=>
  obtain⟨T,e1,e2,e3,h⟩:=ih
  exact⟨(_,_,_)::T,by rw[List.map_cons,e1],by rw[List.map_cons,e2],by rw[List.map_cons,e3],λt ht=>(List.mem_cons.mp ht).elim (λz=>z▸r) (h t)⟩
theorem P3.oft {F:α->β->γ->Prop}:∀{T:List (α×β×γ)},(∀t∈T,F t.1 t.2.1 t.2.2)->P3 F (T.map (·.1)) (T.map (·.2.1)) (T.map (·.2.2)):=fun {T}=>by
 induction T with
 |nil=>intro _;exact .nil
 |cons t T ih=>intro h;exact .cons (h t List.mem_cons_self) (ih λu hu=>h u (List.mem_cons_of_mem _ hu))
theorem Mw {a a':List α}{b b':List β}(h:a.zip b=a'.zip b')(h1:a.length=b.length)(h2:a'.length=b'.length):a=a'/\b=b':=by
 have e1:=congrArg (List.map Prod.fst) h
 have e2:=congrArg (List.map Prod.snd) h
 rw[List.map_fst_zip (by omega),List.map_fst_zip (by omega)] at e1
 rw[List.map_snd_zip (by omega),List.map_snd_zip (by omega)] at e2
 exact⟨e1,e2⟩
theorem P3.perm {F:α->β->γ->Prop}{l zs:List α}{m bs:List β}{n:List γ}(p:P3 F l m n)(h:(zs.zip bs).Perm (l.zip m))(hl:zs.length=bs.length):∃n',P3 F zs bs n'/\n'.Perm n:=by
 obtain⟨T,e1,e2,e3,hT⟩:=p.tri
 have ez:T.map (λt=>(t.1,t.2.1))=l.zip m:=by rw[←e1, ←e2,List.zip_map']
 obtain⟨T',hp,e⟩:=GQ h ez.symm
 have:(T'.map (·.1)).zip (T'.map (·.2.1))=zs.zip bs:=by rw[List.zip_map'];exact e
 obtain⟨f1,f2⟩:=Mw this (by simp) hl
 refine⟨T'.map (·.2.2),?_,by rw[←e3];exact hp.map _⟩
 rw[←f1, ←f2]
 exact P3.oft λt ht=>hT t (hp.mem_iff.mp ht)
end
section
variable {K:PySem.W.Frag}{Er:Exc->Hp->Prop}{S:SC}{OO OO':List (List Xx)}{σ:St}{α β:Type}{u:TS}{Fd:Ends->β->Hp->Prop}[fd:FdOk Fd]
end
section
variable {K:PySem.W.Frag}{Er:Exc->Hp->Prop}{S:SC}{OO OO':List (List Xx)}{σ:St}{α1 α2 β ρ:Type}{u:TS}
noncomputable def PY (K:PySem.W.Frag)(o:OE ρ)(Cf:List Xx)(Q:VK)(b:ρ)(h:Hp):Prop:=∀ v C H',W [C++Cf] H'->Xu h (hid H' [C++Cf])->o K (hid H' [C++Cf]) v b C->Q v H'
noncomputable def C0 (K:PySem.W.Frag)(o:OE ρ)(k:Nat)(Cf:List Xx)(D:Ends)(b:ρ)(h:Hp):Prop:=∀ v C OO' H',OO'[k]?=some Cf->W (C::OO') H'->Xu h (hid H' (C::OO'))->o K (hid H' (C::OO')) v b C->D.rt v H'
instance {o:OE ρ}{k:Nat}{Cf:List Xx}:FdOk (C0 K o k Cf):=⟨λD b h h' s q v C O H' e w m x=>q v C O H' e w (s.trans m) x⟩
noncomputable def R0 (r1:Enc α1)(r2:Enc α2)(o:OE ρ)(f:α1->α2->Rs ρ)(K:PySem.W.Frag):Sp:=λvs H Q _=>∃ v1 v2 a1 a2 b,vs=[v1,v2]/\∃Cf,W [Cf] H/\r1 K (hid H [Cf]) v1 a1/\r2 K (hid H [Cf]) v2 a2/\f a1 a2= .ok b/\PY K o Cf Q b (hid H [Cf])
theorem Z1 {te:TE}{o:OE ρ}{m:Rs ρ}{Cf:List Xx}(k:Nat)(hk:OO'[k]?=some Cf)(he:Ev K Er S OO OO' σ te o m):Sv Er S OO σ (YX (PJ te) u) (C0 K o k Cf) m:=λH D w s P=>
 he H _ w s (by
  cases m with
  |bad=>exact P
  |err x=>exact λH' s'=>P H' (XB.trans s')
  |ok a=>exact λv C H' s' w' m' ho=>P v C OO' H' hk w' m' ho)
theorem LI {o:OE ρ}[zo:MonoO o]{t:TS}{m:Rs ρ}{Q:VK}{b:ρ}{H:Hp}{D:Ends}{Cf:List Xx}(n:Nat)(h:Sv (λ_ _=>False) S (List.replicate n []++[Cf]) σ t (C0 K o n Cf) m)(w:W [Cf] H)(hs:S.p (hid H [Cf]))(hm:m= .ok b)(qf:PY K o Cf Q b (hid H [Cf]))(hD:D.rt=Q):t D σ H:=by
 have pe:(List.replicate n ([]:List Xx)++[Cf]).flatten.Perm [Cf].flatten:=by
  rw[List.flatten_append,Yd,List.nil_append]
 refine h H D (w.of pe) (by rw[XI pe];exact hs) ?_
 subst hm
 rw[XI pe]
 intro v C OO' H' hk w' m' ho
 rw[hD]
 have hp:=XH hk
 have wk:W (C::Cf::OO'.set n []) H':=w'.of (by rw[List.flatten_cons,List.flatten_cons (l:=C)];exact hp.append_left C)
 have eh:hid H' (C::OO')=hid H' (C::Cf::OO'.set n []):=(XI (by rw[List.flatten_cons,List.flatten_cons (l:=C)];exact hp.append_left C)).symm
 have hsub:Xu (hid H' (C::OO')) (hid H' [C++Cf]):=by
  rw[eh]
  exact Zx (Xu.refl _) λb hb=>by
   rw[XO,XO, ←List.append_assoc]
   refine List.mem_append_left _ ?_
   simpa[fl] using hb
 exact qf v C H' (wk.sub (by simp)) (m'.trans hsub) (zo.mono hsub ho)
theorem OS {o:OE ρ}{Q:VK}{b:ρ}{H:Hp}(w:W OO H)(P:FO K OO OO o Q b H):PY K o OO.flatten Q b (hid H OO):=λv C H' w' m' ho=>by
 have e1:([C++OO.flatten]:List (List Xx)).flatten=(C::OO).flatten:=by simp
 have e2:hid H' [C++OO.flatten]=hid H' (C::OO):=by unfold hid fl;rw[e1]
 rw[e2] at m' ho
 have w2:W (C::OO) H':=w'.of (by rw[e1])
 refine P v C H' (λx ob hx=>?_) w2 m' ho
 by_cases hb:x∈fl OO
 ·obtain⟨oo,hoo⟩:=Bn hb
  have h1:=w.tr _ hoo
  rw[hx] at h1
  cases h1
  exact w2.tail.tr _ hoo
 ·exact(X2 (m' _ _ (YO hx hb))).1
theorem GB {H:Hp}:hid H [OO.flatten]=hid H OO:=by unfold hid fl;rw[show([OO.flatten]:List (List Xx)).flatten=OO.flatten by simp]
theorem W.one {H:Hp}(w:W OO H):W [OO.flatten] H:=w.of (by simp)
theorem BI {ta tb:TE}{r1:Enc α1}{r2:Enc α2}[z1:MonoE r1][MonoE r2]{o:OE ρ}{f:α1->α2->Rs ρ}{ma:Rs α1}{mb:Rs α2}(ha:EvS K Er S OO σ ta r1 ma)(hb:EvS K Er S OO σ tb r2 mb):
  Ev K Er S OO OO σ (Q0 (R0 r1 r2 o f K) [] E0 (Xv ta (Xv tb Yq))) o (ma.bind λa=>mb.bind λb=>noE (f a b)):=λH Q w s P=>
 ha.run w s FO.tr P λa x H1 s1 w1 q1 r1 P1=>hb.run w1 q1 FO.tr P1 λb y H2 s2 w2 q2 r2 P2=>by
  obtain⟨c,hc,P3⟩:=P2.okOf λx=>Ki
  exact⟨x,y,a,b,c,rfl,OO.flatten,w2.one,by rw[GB];exact z1.mono (Xk s2) r1,by rw[GB];exact r2,U8 hc,by rw[GB];exact OS w2 P3⟩
end
section
variable {K:PySem.W.Frag}{Er:Exc->Hp->Prop}{S:SC}{OO OO':List (List Xx)}{σ:St}{α α2 β γ ρ:Type}
variable {Fd:Ends->β->Hp->Prop}[fd:FdOk Fd]{u:TS}
end
section
variable {prog:Program}{w:World}{A:Around}{E:Value->Shared->Prop}{s:Shared}
end
section
variable {X:Cx}
noncomputable def OJ (P:Program)(w:World):List V->Hp->VK->Prop:=λxs H Q=>∃ l ns,xs=[.ref l]/\H l=some (PR P w l ns)/\ns.length<64/\Q (.int ns.length) H
theorem Gd:Zc X (.builtin "len") (OJ X.prog X.w):=by
 intro pins s σ H xs us Q I r h
 obtain⟨l,ns,rfl,he,h64,q⟩:=h
 obtain⟨u,rfl,ru⟩:=Jk r
 cases ru
 have hS:Kw X.prog X.w s.heap l ns:=(show Yp X.prog X.w H s.heap l (PR X.prog X.w l ns) from I.hok l _ he).1
 obtain⟨o,es,ep,t,ho,hex,hd,c⟩:=hS
 have hl:=c.len
 exact call_len_set ho hex hd c.fit (by omega) ⟨.int ns.length,H,I.tok _,⟨_,by rw[hl]⟩,q⟩
end
section
variable {K:PySem.W.Frag}{Er:Exc->Hp->Prop}{S:SC}{OO OO':List (List Xx)}{σ:St}{α β γ:Type}
end
section
variable {X:Cx}{α:Type}{r:Enc α}{lt:α->α->Bool}{d:Nat}
end
section
variable {K:PySem.W.Frag}{Er:Exc->Hp->Prop}{S:SC}{OO OO':List (List Xx)}{σ:St}{α:Type}
end
section
variable {X:Cx}{pins:List (Addr×Obj)}{σ:St}{H:Hp}{s0:Shared}
noncomputable def NY (X:Cx)(g:Heap)(d:Addr)(xs:List (List Key×Addr×Value)):Prop:=∃ o es ep,g.get? d=some o/\o.ExactDict/\o.data= .dict es ep/\es.toList=xs.map (entryOfKey (tupleKind (X7 X.prog X.w)))/\(xs.map (·.1)).Nodup
theorem NY.h {g:Heap}{tk:Nat}{d:Addr}{acc:List (List Key×V)}{xs:List (List Key×Addr×Value)}(D:NY X g d xs)(I:Inv X pins σ H {s0 with heap:=g,toks:=tk})(r:KT H acc xs):g.DictOfH (tupleKind (X7 X.prog X.w)) d xs:=by
 obtain⟨o,es,ep,h1,h2,h3,h4,h5⟩:=D
 refine⟨o,es,ep,h1,h2,h3,h4,λx hx=>?_,h5⟩
 have all:∀{l:List (List Key×V)}{m:List (List Key×Addr×Value)},KT H l m->∀x∈m,(tupleKind (X7 X.prog X.w)).is g x.1 x.2.1:=by
  intro l m q
  induction q with
  |nil=>intro x hx;exact nomatch hx
  | @cons p q ps qs hq t ih=>
   intro x hx
   rcases List.mem_cons.mp hx with e |hx
   ·subst e
    exact GZ I.hok (by rw[←hq.1];exact hq.2.1)
   ·exact ih x hx
 exact all r x hx
theorem NY.of {g:Heap}{d:Addr}{xs:List (List Key×Addr×Value)}(D:g.DictOfH (tupleKind (X7 X.prog X.w)) d xs):NY X g d xs:=by
 obtain⟨o,es,ep,h1,h2,h3,h4,_,h5⟩:=D
 exact⟨o,es,ep,h1,h2,h3,h4,h5⟩
theorem NY.at {g g':Heap}{d:Addr}{xs:List (List Key×Addr×Value)}(D:NY X g d xs)(k:∀o,g.get? d=some o->g'.get? d=some o):NY X g' d xs:=by
 obtain⟨o,es,ep,h1,r⟩:=D
 exact⟨o,es,ep,k o h1,r⟩
end
section
variable {K:PySem.W.Frag}{Er:Exc->Hp->Prop}{S:SC}{OO OO':List (List Xx)}{σ:St}{α β γ:Type}
end
section
variable {K:PySem.W.Frag}{Er:Exc->Hp->Prop}{S:SC}{OO:List (List Xx)}{σ:St}{α1 α2 α3 α4 α5 ρ:Type}{mg:Str->Option Value}{E:XK}
end
section
variable {X:Cx}{o e:Expr}{es:List Expr}{to:TE}{t:TA}{name:Str}{apos cpos:Pos}{id:String}{r:V->List V->Hp->VK->Prop}
end
section
variable {K:PySem.W.Frag}{Er:Exc->Hp->Prop}{S:SC}{OO:List (List Xx)}{σ:St}
end
section
variable {α β γ δ:Type}{K:PySem.W.Frag}{Er:Exc->Hp->Prop}{S:SC}{OO:List (List Xx)}{σ:St}{Fd:Ends->β->Hp->Prop}[fd:FdOk Fd]{u:TS}
theorem Md {ta tb tc:TE}{r:Enc α}{q:Enc γ}{t:Enc δ}[z:MonoE r][y:MonoE q][MonoE t]{ma:Rs α}{mb:Rs γ}{mc:Rs δ}{f:α->γ->δ->Rs β}(i j k:Nat)(ha:EvS K Er S OO σ ta r ma)(hb:EvS K Er S OO σ tb q mb)(hc:EvS K Er S OO σ tc t mc)
  (hr:∀a b c v w x,Sv Er (((S.add K r v a).add K q w b).add K t x c) OO (((σ.set i (some v)).set j (some w)).set k (some x)) u Fd (f a b c)):Sv Er S OO σ (YX (NR i j k (Xv ta (Xv tb (Xv tc Yq)))) u) Fd (ma.bind λa=>mb.bind λb=>mc.bind λc=>f a b c):=λH D w s P=>
 ha.st w s P λa v1 H1 s1 w1 q1 r1 P1=>hb.st w1 q1 P1 λb v2 H2 s2 w2 q2 r2 P2=>hc.st w2 q2 P2 λc v3 H3 s3 w3 q3 r3 P3=>
  ⟨v1,v2,v3,rfl,hr a b c v1 v2 v3 H3 D w3 ⟨⟨⟨q3,z.mono (Xk s3) (z.mono (Xk s2) r1)⟩,y.mono (Xk s3) r2⟩,r3⟩ P3⟩
end
end L2
namespace HT
open PySem PySem.Spec PyProof PyProof.Rows
section
variable {prog:Program}{w:World}{A:Around}{E:Value->Shared->Prop}{s:Shared}
end
end HT
namespace L2
open PySem PySem.Spec PyProof.Rows
section
variable {X:Cx}{e:Expr}{te:TE}
end
section
variable {α β:Type}{K:PySem.W.Frag}{Er:Exc->Hp->Prop}{S:SC}{OO:List (List Xx)}{σ:St}
end
section
variable {α β:Type}{K:PySem.W.Frag}{Er:Exc->Hp->Prop}{S:SC}{OO:List (List Xx)}{σ:St}{Fd:Ends->β->Hp->Prop}[fd:FdOk Fd]{u:TS}
theorem Fv {r:Enc α}[MonoE r]{f:α->Rs β}{v:V}{a:Option α}(h:∀x,S.p x->Bp r K x v a)(hr:∀b,Sv Er (S.add K r v b) OO σ u Fd (f b)):Sv Er S OO σ u Fd ((Pw a).bind f):=λH D w s P=>by
 cases a with
 |none=>exact P.elim
 |some b=>exact hr b H D w ⟨s,(h _ s).2⟩ P
end
section
variable {K:PySem.W.Frag}{Er:Exc->Hp->Prop}{S:SC}{OO OO' OO2:List (List Xx)}{σ:St}{α β γ ρ ι:Type}{mg:Str->Option Value}{E:XK}{u:TS}
end
section
variable {α:Type}
structure SBk (κ:SortKind)(a₀:Array Keyed)(st:SortSt):Prop where
 perm:(arrOf st).Perm a₀
 kind:kindOf st=κ
 failed:failedOf st=none
 pend:pendingOf st= #[]
theorem SBk.size {κ:SortKind}{a₀:Array Keyed}{st:SortSt}(h:SBk κ a₀ st):(arrOf st).size=a₀.size:=h.perm.size_eq
theorem SBk.setArr {κ:SortKind}{a₀:Array Keyed}{st:SortSt}(h:SBk κ a₀ st){xs:Array Keyed}(hp:xs.Perm (arrOf st)):SBk κ a₀ (setArr st xs):=
 ⟨hp.trans h.perm,h.kind,h.failed,h.pend⟩
structure AskK (prog:Program)(w:World)(A:Around)(E:Value->Shared->Prop)(s:Shared)(lt:α->α->Bool)(kf:Value->α)(d:α)(a0:Array Keyed)(κ:SortKind):Prop extends Ord lt where
 ask:∀{st:SortSt}{i j:Nat}{Q:Option Bool->SortSt->Prop},SBk κ a0 st->i<a0.size->j<a0.size->Q (some (lt (kp kf d (arrOf st) i) (kp kf d (arrOf st) j))) st->wpS (model prog w) A E s (ltAt' i j) Q st
 two:∀{st:SortSt}{i j:Nat},SBk κ a0 st->i<a0.size->j<a0.size->i≠j->lt (kp kf d (arrOf st) i) (kp kf d (arrOf st) j)=true∨lt (kp kf d (arrOf st) j) (kp kf d (arrOf st) i)=true
variable {prog:Program}{w:World}{A:Around}{E:Value->Shared->Prop}{s:Shared}{lt:α->α->Bool}{kf:Value->α}{d:α}{a0:Array Keyed}{κ:SortKind}
theorem AskK.other (L:AskK prog w A E s lt kf d a0 κ){st:SortSt}{i j:Nat}(B:SBk κ a0 st)(hi:i<a0.size)(hj:j<a0.size)(n:i≠j)(h:lt (kp kf d (arrOf st) i) (kp kf d (arrOf st) j)=false):lt (kp kf d (arrOf st) j) (kp kf d (arrOf st) i)=true:=(L.two B hi hj n).resolve_left (by rw[h];decide)
theorem HA (L:AskK prog w A E s lt kf d a0 κ){st:SortSt}{a m:Nat}{Q:AscSt->SortSt->Prop}(B:SBk κ a0 st)(hm:m<=a0.size)(h1:1<=a)(ham:a<=m)(R:Ris lt (kp kf d (arrOf st)) a)
  (q:∀n,a<=n->n<=m->Ris lt (kp kf d (arrOf st)) n->(n≠m->lt (kp kf d (arrOf st) n) (kp kf d (arrOf st) (n-1))=true)->Q (none,n) st):wpS (model prog w) A E s (ascLoop a m) Q st:=by
 unfold ascLoop
 refine wpS_forRange (I:=λx c t=>t=st/\c=(none,x)/\Ris lt (kp kf d (arrOf st)) x) ?_ ?_ ⟨rfl,rfl,R⟩
 ·intro x c t hx hxm hI
  obtain⟨rfl,rfl,R'⟩:=hI
  refine wpS_bind (L.ask B (by omega) (by omega) ?_)
  cases e:lt (kp kf d (arrOf t) x) (kp kf d (arrOf t) (x-1)) with
  |true=>exact wpS_pure (q x hx (by omega) R' λ_=>e)
  |false=>exact wpS_pure ⟨rfl,rfl,R'.more L.toOrd λ_=>L.other B (by omega) (by omega) (by omega) e⟩
 ·intro c t hI
  obtain⟨rfl,rfl,R'⟩:=hI
  have e:max a m=m:=by omega
  rw[e] at R'⊢
  exact q m ham (Nat.le_refl _) R' λz=>absurd rfl z
theorem EF (L:AskK prog w A E s lt kf d a0 κ){st:SortSt}{a m:Nat}{Q:DescSt->SortSt->Prop}(B:SBk κ a0 st)(hm:m<=a0.size)(h1:1<=a)(ham:a<=m)(R:Fal lt (kp kf d (arrOf st)) a)
  (q:∀n,a<=n->n<=m->Fal lt (kp kf d (arrOf st)) n->Q (none,n,0) st):wpS (model prog w) A E s (descLoop a m) Q st:=by
 unfold descLoop
 refine wpS_forRange (I:=λx c t=>t=st/\c=(none,x,0)/\Fal lt (kp kf d (arrOf st)) x) ?_ ?_ ⟨rfl,rfl,R⟩
 ·intro x c t hx hxm hI
  obtain⟨rfl,rfl,R'⟩:=hI
  show wpS _ _ _ _ (ltAt' x (x-1) >>= _) _ _
  refine wpS_bind (L.ask B (by omega) (by omega) ?_)
  cases e:lt (kp kf d (arrOf t) x) (kp kf d (arrOf t) (x-1)) with
  |true=>exact wpS_pure ⟨rfl,rfl,R'.more L.toOrd λ_=>e⟩
  |false=>
   show wpS _ _ _ _ (ltAt' (x-1) x >>= _) _ _
   refine wpS_bind (L.ask B (by omega) (by omega) ?_)
   rw[L.other B (by omega) (by omega) (by omega) e]
   exact wpS_pure (q x hx (by omega) R')
 ·intro c t hI
  obtain⟨rfl,rfl,R'⟩:=hI
  have e:max a m=m:=by omega
  rw[e] at R'⊢
  exact q m ham (Nat.le_refl _) R'
theorem MY (L:AskK prog w A E s lt kf d a0 κ){st:SortSt}{m:Nat}{Q:Option Nat->SortSt->Prop}(B:SBk κ a0 st)(hm:m<=a0.size)(h1:1<=m)
  (q:∀n t,SBk κ a0 t->n<=m->Ris lt (kp kf d (arrOf t)) n->Q (some n) t):wpS (model prog w) A E s (countRun' 0 m) Q st:=by
 rw[countRun0_eq]
 refine wpS_bind (HA L B hm (Nat.le_refl 1) h1 (λi j hij hj=>by omega) λn hn hnm R z=>?_)
 show wpS _ _ _ _ (if(n==m)=true then _ else _) _ _
 by_cases e:n=m
 ·subst e
  rw[if_pos (beq_self_eq_true n)]
  exact wpS_pure (q n st B (Nat.le_refl _) R)
 ·rw[if_neg (by rw[beq_eq_false_iff_ne.mpr e];decide)]
  have z:=z e
  by_cases g:n > 1
  ·show wpS _ _ _ _ (if n > 1 then _ else _) _ _
   rw[if_pos g]
   show wpS _ _ _ _ (ltAt' 0 (n-1) >>= _) _ _
   refine wpS_bind (L.ask B (by omega) (by omega) ?_)
   rw[show lt (kp kf d (arrOf st) 0) (kp kf d (arrOf st) (n-1))=true from R 0 (n-1) (by omega) (by omega)]
   exact wpS_pure (q n st B hnm R)
  ·have e1:n=1:=by omega
   subst e1
   show wpS _ _ _ _ (descPart 1 m) _ _
   unfold descPart
   refine wpS_bind (wpS_lift (wpAny_rule ⟨rfl,?_⟩))
   have F2:Fal lt (kp kf d (arrOf st)) 2:=Fal.more L.toOrd (n:=1) (λi j hij hj=>by omega) λ_=>z
   refine wpS_bind (EF L B hm (by omega) (by omega) F2 λn hn2 hnm2 F=>?_)
   show wpS _ _ _ _ (tail3 n m) _ _
   unfold tail3
   refine wpS_bind (wpS_reverse ?_)
   have B2:SBk κ a0 (setArr st (mirror (arrOf st) 0 n ((n-0)/2))):=B.setArr (mirror_perm _ _ _ _)
   have hsz:n<=(arrOf st).size:=by rw[B.size];omega
   refine wpS_bind (HA L B2 hm (by omega) hnm2 (λi j hij hj=>?_) λk _ hk R2 _=>wpS_pure (q k _ B2 hk R2))
   show lt (kp kf d (mirror (arrOf st) 0 n ((n-0)/2)) i) (kp kf d (mirror (arrOf st) 0 n ((n-0)/2)) j)=true
   rw[Hz hsz (by omega),Hz hsz hj]
   exact F (n-1-j) (n-1-i) (by omega) (by omega)
theorem ME (L:AskK prog w A E s lt kf d a0 κ){st:SortSt}{n ok:Nat}{Q:Bool->SortSt->Prop}(B:SBk κ a0 st)(hn:n<=a0.size)(hok:ok<=n)(R:Ris lt (kp kf d (arrOf st)) ok)
  (q:∀t,SBk κ a0 t->Ris lt (kp kf d (arrOf t)) n->Q true t):wpS (model prog w) A E s (binarySort' 0 n ok) Q st:=by
 rw[binarySort'_eq]
 simp only[Nat.zero_add]
 refine wpS_bind (wpS_mono (wpS_forRange (I:=λk c t=>c=(none,())/\SBk κ a0 t/\Ris lt (kp kf d (arrOf t)) (if k<=n then k else n)) (Q:=λc t=>c=(none,())/\SBk κ a0 t/\Ris lt (kp kf d (arrOf t)) n) ?_ ?_ ?_) ?_)
 ·intro k c t hk hkn hI
  obtain⟨rfl,Bt,Rt⟩:=hI
  rw[if_pos (Nat.le_of_lt hkn)] at Rt
  refine wpS_bind (wpS_mono (wpS_forRange (I:=λx c u=>u=t/\∃l r,c=(none,l,r)/\l<=r/\r<=k/\r+x<=k+l/\(∀i,i<l->lt (kp kf d (arrOf t) i) (kp kf d (arrOf t) k)=true)/\(∀i,r<=i->i<k->lt (kp kf d (arrOf t) k) (kp kf d (arrOf t) i)=true))
   (Q:=λc u=>u=t/\∃l,c=(none,l,l)/\l<=k/\(∀i,i<l->lt (kp kf d (arrOf t) i) (kp kf d (arrOf t) k)=true)/\(∀i,l<=i->i<k->lt (kp kf d (arrOf t) k) (kp kf d (arrOf t) i)=true)) ?_ ?_ ?_) ?_)
  ·intro x c u _ hx hI
   obtain⟨rfl,l,r,rfl,hlr,hrk,hm,lo,hi⟩:=hI
   by_cases hge:l≥r
   ·have e:r=l:=by omega
    subst e
    show wpS _ _ _ _ (if r≥r then _ else _) _ _
    rw[if_pos (Nat.le_refl _)]
    exact wpS_pure ⟨rfl,r,rfl,hrk,lo,hi⟩
   ·show wpS _ _ _ _ (if l≥r then _ else _) _ _
    rw[if_neg hge]
    show wpS _ _ _ _ (ltAt' k ((l+r)/2) >>= _) _ _
    refine wpS_bind (L.ask Bt (by omega) (by omega) ?_)
    cases e:lt (kp kf d (arrOf u) k) (kp kf d (arrOf u) ((l+r)/2)) with
    |true=>
     refine wpS_pure ⟨rfl,l,(l+r)/2,rfl,by omega,by omega,by omega,lo,λi h1 h2=>?_⟩
     rcases Nat.eq_or_lt_of_le h1 with y |y
     ·rw[←y];exact e
     ·exact L.tr e (Rt _ _ y h2)
    |false=>
     have e':=L.other Bt (by omega) (by omega) (by omega) e
     refine wpS_pure ⟨rfl,(l+r)/2+1,r,rfl,by omega,by omega,by omega,λi h1=>?_,hi⟩
     rcases Nat.eq_or_lt_of_le (Nat.le_of_lt_succ h1) with y |y
     ·rw[y];exact e'
     ·exact L.tr (Rt _ _ y (by omega)) e'
  ·intro c u hI
   obtain⟨rfl,l,r,rfl,hlr,hrk,hm,lo,hi⟩:=hI
   have e:r=l:=by omega
   subst e
   exact⟨rfl,r,rfl,hrk,lo,hi⟩
  ·exact⟨rfl,0,k,rfl,by omega,by omega,by omega,λi hi=>by omega,λi h1 h2=>by omega⟩
  ·intro c u hI
   obtain⟨rfl,l,rfl,hlk,lo,hi⟩:=hI
   show wpS _ _ _ _ (moveDown' k l >>= _) _ _
   rw[moveDown'_eq]
   refine wpS_bind (wpS_modify (wpS_pure ⟨rfl,Bt.setArr (bubble_perm _ _ _),?_⟩))
   rw[if_pos (show k+1<=n from hkn)]
   exact O3 L.toOrd (by rw[Bt.size];omega) hlk Rt lo hi
 ·intro c t hI
  obtain⟨hc,Bt,Rt⟩:=hI
  refine⟨hc,Bt,?_⟩
  have e:(if max (max ok 1) n<=n then max (max ok 1) n else n)=n:=by split<;> omega
  rwa [e] at Rt
 ·refine⟨rfl,B,λi j hij hj=>?_⟩
  refine R i j hij ?_
  split at hj<;> omega
 ·intro c t hI
  obtain⟨rfl,Bt,Rt⟩:=hI
  exact wpS_pure (q t Bt Rt)
theorem Io (L:AskK prog w A E s lt kf d a0 κ){st:SortSt}{Q:Unit->SortSt->Prop}(B:SBk κ a0 st)(h2:2<=a0.size)(h64:a0.size<64)
  (q:∀t,(arrOf t).Perm a0->failedOf t=none->Ris lt (kp kf d (arrOf t)) a0.size->Q () t):wpS (model prog w) A E s sortRuns' Q st:=by
 rw[sortRuns'_eq]
 refine wpS_bind (wpS_get ?_)
 have hmr:minRun' a0.size a0.size 0=a0.size:=by
  cases e:a0.size with
  |zero=>omega
  |succ f=>rw[minRun'_succ,if_pos (by omega)]
 have hs:=B.size
 show wpS _ _ _ _ (forIn [0:(arrOf st).size] _ _ >>= _) _ _
 rw[hs,hmr]
 let Dn:SortSt->Prop:=λt=>(arrOf t).Perm a0/\failedOf t=none/\pendingOf t= #[(0,a0.size,0)]/\Ris lt (kp kf d (arrOf t)) a0.size
 have fin:∀t,SBk κ a0 t->Ris lt (kp kf d (arrOf t)) a0.size->Dn (setPending t ((pendingOf t).push (0,a0.size,0))):=λt Bt Rt=>⟨Bt.perm,Bt.failed,by show(pendingOf t).push _=_;rw[Bt.pend];rfl,Rt⟩
 refine wpS_bind (wpS_mono (wpS_forRange (I:=λx c t=>if x=0 then c=(none,0)/\SBk κ a0 t else c=(none,a0.size)/\Dn t) (Q:=λc t=>c=(none,a0.size)/\Dn t) ?_ ?_ ?_) ?_)
 ·intro x c t _ hx hI
  by_cases hx0:x=0
  ·rw[if_pos hx0] at hI
   obtain⟨rfl,Bt⟩:=hI
   show wpS _ _ _ _ (if 0≥a0.size then _ else _) _ _
   rw[if_neg (by omega)]
   refine wpS_bind (MY L Bt (by omega) (by omega) λm u Bu hm Ru=>?_)
   have hb:∀v,SBk κ a0 v->(pendingOf v).back?=none:=λv Bv=>by rw[Bv.pend];rfl
   by_cases hlt:m<a0.size
   ·show wpS _ _ _ _ (if m<a0.size then _ else _) _ _
    rw[if_pos hlt]
    refine wpS_bind (wpS_lift (wpAny_rule ⟨rfl,?_⟩))
    rw[Nat.sub_zero,Nat.min_self]
    refine wpS_bind (ME L Bu (Nat.le_refl _) hm Ru λv Bv Rv=>?_)
    show wpS _ _ _ _ (get >>= _) _ _
    refine wpS_bind (wpS_get ?_)
    rw[hb v Bv]
    refine wpS_bind (wpS_modify (wpS_pure ?_))
    show if x+1=0 then _ else _
    rw[if_neg (by omega)]
    exact⟨by rw[Nat.zero_add],fin v Bv Rv⟩
   ·have e:m=a0.size:=by omega
    subst e
    show wpS _ _ _ _ (if a0.size<a0.size then _ else _) _ _
    rw[if_neg hlt]
    refine wpS_bind (wpS_get ?_)
    rw[hb u Bu]
    refine wpS_bind (wpS_modify (wpS_pure ?_))
    show if x+1=0 then _ else _
    rw[if_neg (by omega)]
    exact⟨by rw[Nat.zero_add],fin u Bu Ru⟩
  ·rw[if_neg hx0] at hI
   obtain⟨rfl,D⟩:=hI
   show wpS _ _ _ _ (if a0.size≥a0.size then _ else _) _ _
   rw[if_pos (Nat.le_refl _)]
   exact wpS_pure ⟨rfl,D⟩
 ·intro c t hI
  rw[if_neg (by omega)] at hI
  exact hI
 ·rw[if_pos rfl];exact⟨rfl,B⟩
 ·intro c t hI
  obtain⟨rfl,D1,D2,D3,D4⟩:=hI
  refine wpS_bind (wpS_mono (wpS_forRange (I:=λ_ c u=>u=t/\c=(none,())) (Q:=λc u=>u=t/\c=(none,())) ?_ (λ_ _ h=>h) ⟨rfl,rfl⟩) ?_)
  ·intro x c u _ _ hI
   obtain⟨rfl,rfl⟩:=hI
   refine wpS_bind (wpS_get ?_)
   rw[if_pos (by rw[D3];exact Nat.le_refl 1)]
   exact wpS_pure ⟨rfl,rfl⟩
  ·intro c u hI
   obtain⟨rfl,rfl⟩:=hI
   exact wpS_pure (q _ D1 D2 D4)
end
section
variable {prog:Program}{w:World}{A:Around}{E:Value->Shared->Prop}{s:Shared}{α:Type}
theorem Ir {κ:SortKind}{lt:α->α->Bool}{kf:Value->α}{d:α}{a:Addr}{vs:List Value}{n:Nat}{Q:Fin->Shared->Prop}(ho:s.heap.get? a=some (seqObj "list" vs.toArray n))(h64:vs.length<64)
  (hT:2<=vs.length->∀Q:SortKind->Shared->Prop,Q κ {s with heap:=mid s.heap a vs}->wpAny (model prog w) A (keyKind' vs.toArray) Q E {s with heap:=mid s.heap a vs})(L:AskK prog w A E {s with heap:=mid s.heap a vs} lt kf d (pairsOf vs) κ)
  (q:∀out:Array Keyed,out.Perm (pairsOf vs)->Ris lt (kp kf d out) vs.length->Q (.done (.ret .none)) {s with heap:=sortedHeap s.heap a vs (out.map (·.2))}):
  wpAny (model prog w) A (Builtin.«list.sort» ⟨[.ref a],[]⟩) Q E s:=by
 rw[list_sort_plain]
 have hlt:=Heap.lt_size ho
 obtain⟨e1,ho1⟩:∃e,(s.heap.update a (Obj.mapSeq λ_=>#[])).get? a=some (seqObj "list" #[] e):=⟨_,get?_update_seq ho λ_=>#[]⟩
 have ho2:(mid s.heap a vs).get? a=some (seqObj "list" #[] e1):=by
  unfold mid
  rw[Heap.get?_push_ne _ _ _ (by rw[size_push',Heap.size_update];exact Nat.ne_of_lt (Nat.lt_succ_of_lt hlt)),Heap.get?_push_ne _ _ _ (by rw[Heap.size_update];exact Nat.ne_of_lt hlt)]
  exact ho1
 refine wpAny_bind (listItems_at ho rfl (wpAny_bind (listUpdate_at ho rfl (wpAny_bind (seqEpoch_at ho1 rfl (wpAny_bind (wpAny_newTuple (wpAny_bind (wpAny_newList (wpAny_holding ?_))))))))))
 show wpAny (model prog w) A _ Q E {s with heap:=mid s.heap a vs}
 have tail:∀(st:SortSt),(arrOf st).Perm (pairsOf vs)->failedOf st=none->Ris lt (kp kf d (arrOf st)) vs.length->wpAny (model prog w) A (do
   let touched:=(←seqEpoch a) !=e1
   Builtin.List.listUpdate (.ref a) λ_=>(arrOf st).map (·.2)
   if let some e:=failedOf st then rule "list.sort.comparison-raised";throw e
   if touched then rule "list.sort.modified";raiseError "ValueError" "list modified during sort"
   ret .none) Q E {s with heap:=mid s.heap a vs}:=λst hp hf hr=>by
  refine wpAny_bind (seqEpoch_at ho2 rfl (wpAny_bind (listUpdate_at ho2 rfl ?_ (hsz2:=?_))))
  ·rw[hf]
   simp only[bne_self_eq_false,Bool.false_eq_true,if_false]
   exact wpAny_pure (q (arrOf st) hp hr)
  ·have:=hp.size_eq
   rw[pairsOf_size] at this
   rw[Array.size_map,this,sizeLine_eq];omega
 have hsz:vs.toArray.size=vs.length:=List.size_toArray
 by_cases h2:vs.toArray.size<2
 ·rw[if_pos h2,if_pos h2]
  refine wpAny_bind (wpAny_pure ?_)
  show wpAny _ _ ((pure ():StateT SortSt Sem Unit).run (SortSt.mk' general' (vs.toArray.zip vs.toArray) #[] 7 none) >>= _) _ _ _
  rw[StateT.run_pure]
  exact wpAny_bind (wpAny_pure (tail (SortSt.mk' general' (vs.toArray.zip vs.toArray) #[] 7 none) (Array.Perm.refl _) rfl λi j hij hj=>by omega))
 ·rw[if_neg h2,if_neg h2]
  refine wpAny_bind (hT (by rw[←hsz];omega) _ ?_)
  refine wpAny_bind (wpAny_mono (Io L (st:=SortSt.mk' κ (vs.toArray.zip vs.toArray) #[] 7 none) (Q:=λ_ st=>(arrOf st).Perm (pairsOf vs)/\failedOf st=none/\Ris lt (kp kf d (arrOf st)) vs.length) ⟨Array.Perm.refl _,rfl,rfl,rfl⟩ (by rw[pairsOf_size];omega) (by rw[pairsOf_size];exact h64) λt a1 a2 a3=>⟨a1,a2,by rw[pairsOf_size] at a3;exact a3⟩) ?_ λ_ _ e=>e)
  intro p s' hh
  obtain⟨⟨⟩,st⟩:=p
  obtain⟨rfl,hp,hf,hr⟩:=hh
  exact tail st hp hf hr
end
section
noncomputable def ltP (a b:Int×Int):Bool:=if a.1=b.1 then decide (a.2<b.2) else decide (a.1<b.1)
theorem B8:OrdT ltP:=⟨⟨λa=>by simp[ltP],fun {a b c} h1 h2=>by
 unfold ltP at*
 split at h1<;> split at h2<;> split<;> simp only[decide_eq_true_eq] at* <;> omega⟩,fun {a b} h=>by
 unfold ltP
 by_cases e:a.1=b.1
 ·rw[if_pos e,if_pos e.symm,decide_eq_true_eq,decide_eq_true_eq]
  have:a.2≠b.2:=λz=>h (Prod.ext e z)
  omega
 ·rw[if_neg e,if_neg (Ne.symm e),decide_eq_true_eq,decide_eq_true_eq];omega⟩
theorem HH {x y:V}{us:List Value}(h:XZ [x,y] us):∃a b,us=[a,b]/\XW x a/\XW y b:=by
 cases h with
 |cons a b=>cases b with
  |cons c d=>cases d with
   |nil=>exact⟨_,_,rfl,a,c⟩
variable {X:Cx}
noncomputable def LJ (K:PySem.W.Frag):List V->Hp->VK->Prop:=λxs H Q=>∃ l ys,∃as:List (Int×Int),xs=[.ref l]/\SqL K H l ys/\Paired (rP2 Xe Xe K H) ys as/\as.Nodup/\as.length<64/\
 ∀p zs,H p=none->(zs.zip (Zk ltP as)).Perm (ys.zip as)->zs.length=as.length->Q (.ref p) (upd H p (.lst zs))
open Classical in
noncomputable def kfP (T:List (Value×V×Int×Int))(v:Value):Int×Int:=if h:∃t,t∈T/\t.1=v then(Classical.choose h).2.2 else(0,0)
theorem HF {T:List (Value×V×Int×Int)}(hu:∀t u,t∈T->u∈T->t.1=u.1->t.2.2=u.2.2){t:Value×V×Int×Int}(ht:t∈T):kfP T t.1=t.2.2:=by
 have h:∃u,u∈T/\u.1=t.1:=⟨t,ht,rfl⟩
 unfold kfP
 rw[dif_pos h]
 exact hu _ _ (Classical.choose_spec h).1 ht (Classical.choose_spec h).2
theorem Le {γ:Type}{F:Value->V->γ->Prop}:∀{its:List Value}{ys:List V}{as:List γ}{G:V->γ->Prop},Paired XW ys its->Paired G ys as->(∀v y a,XW y v->G y a->F v y a)->∃T:List (Value×V×γ),T.map (·.1)=its/\T.map (λt=>(t.2.1,t.2.2))=ys.zip as/\T.map (·.2.2)=as/\∀t∈T,F t.1 t.2.1 t.2.2
 |_,_,_,_, .nil, .nil,_=>⟨[],rfl,rfl,rfl,λt h=>nomatch h⟩
 |_,_,_,_, .cons r1 p1, .cons r2 p2,h=>by
  obtain⟨T,e1,e2,e3,hT⟩:=Le p1 p2 h
  exact⟨(_,_,_)::T,by rw[List.map_cons,e1],by rw[List.map_cons,e2];rfl,by rw[List.map_cons,e3],λt ht=>(List.mem_cons.mp ht).elim (λz=>z▸h _ _ _ r1 r2) (hT t)⟩
theorem R8 {X:Cx}{pins:List (Addr×Obj)}{σ:St}{H:Hp}{s:Shared}(I:Inv X pins σ H s):∀(T:List (Value×V×Int×Int)),(∀t∈T,XW t.2.1 t.1/\rP2 Xe Xe X.K H t.2.1 t.2.2)->∃fs,PySem.W.KatTups s.heap (T.map (·.1)) fs/\fs.length=T.length/\∀v∈fs,∃i t,v= .int i t
 | [],_=>⟨[], .nil,rfl,λv h=>nomatch h⟩
 |t::T,h=>by
  obtain⟨fs,k1,k2,k3⟩:=R8 I T λu hu=>h u (List.mem_cons_of_mem _ hu)
  obtain⟨r1,a,x,y,w1,m1,h1,h2⟩:=h t List.mem_cons_self
  rw[w1] at r1
  have r1':t.1= .ref a:=r1
  obtain⟨its,rv,⟨o,g1,c1,n,d1⟩,_⟩:=I.tuple (SqT.of m1)
  have e1:x= .int t.2.2.1:=h1
  subst e1
  obtain⟨u1,us,rfl,⟨tk,e2⟩,rr⟩:∃u1 us,its=u1::us/\XW (.int t.2.2.1) u1/\XZ [y] us:=by
   cases rv with
   |cons a b=>exact⟨_,_,rfl,a,b⟩
  refine⟨u1::fs,?_,by simp[k2],λv hv=>?_⟩
  ·rw[List.map_cons,r1']
   exact .cons g1 c1 d1 (by simp) k1
  ·rcases List.mem_cons.mp hv with z |z
   ·exact⟨_,_,z.trans e2⟩
   ·exact k3 v z
theorem GT {A:Around}{Er:Value->Shared->Prop}{pins:List (Addr×Obj)}{s:Shared}{σ:St}{H:Hp}{its:List Value}{ys:List V}{as:List (Int×Int)}{R:Addr->Shared->Prop}(I:Inv X pins σ H s)(rv:XZ ys its)(hp:Paired (rP2 Xe Xe X.K H) ys as)(hnd:as.Nodup)(h64:as.length<64)(hu:A.units+3<cLine)
  (q:∀zs s',Inv X pins σ (upd H s.heap.objs.size (.lst zs)) s'->H s.heap.objs.size=none->(zs.zip (Zk ltP as)).Perm (ys.zip as)->zs.length=as.length->R s.heap.objs.size s'):
  wpAny (model X.prog X.w) A (newList its >>= λl=>holding [l] (call (.builtin "list.sort") [l] []) >>= λ_=>ret l) (λfin s'=>∃ p,fin= .done (.ret (.ref p))/\R p s') Er s:=by
 obtain⟨T,e1,e2,e3,hT⟩:=Le (F:=λv y a=>XW y v/\rP2 Xe Xe X.K H y a) rv hp λv y a h1 h2=>⟨h1,h2⟩
 have hlen:its.length=as.length:=by rw[←e1, ←e3,List.length_map,List.length_map]
 have huq:∀t u,t∈T->u∈T->t.1=u.1->t.2.2=u.2.2:=λt u ht hu' e=>by
  obtain⟨r1,l1⟩:=hT t ht
  obtain⟨r2,l2⟩:=hT u hu'
  obtain⟨b1,x1,y1,w1,m1⟩:=id l1
  obtain⟨b2,x2,y2,w2,m2⟩:=id l2
  rw[w1] at r1 l1
  rw[w2] at r2 l2
  have r1':t.1= .ref b1:=r1
  have r2':u.1= .ref b2:=r2
  rw[r1',r2'] at e
  cases e
  exact(KN eq_int eq_int).uniq I l1 l2
 refine wpAny_bind (wpAny_newList ?_ (by rw[hlen,sizeLine_eq];omega))
 let g0:=s.heap.push (seqObj "list" its.toArray 0)
 have hoL:g0.get? s.heap.objs.size=some (seqObj "list" its.toArray 0):=Heap.get?_push_size _ rfl
 have hold:∀b o,s.heap.get? b=some o->g0.get? b=some o:=λb o hb=>Heap.get?_push_of_some _ hb
 show wpAny _ _ _ _ _ {s with heap:=g0}
 have hne:∀{b o},s.heap.get? b=some o->b≠s.heap.objs.size:=λhb=>Nat.ne_of_lt (Heap.lt_size hb)
 have I2:Inv X pins σ H {s with heap:=mid g0 s.heap.objs.size its,toks:=s.toks}:=I.kept λb o hb=>M3 (hne hb) (hold b o hb)
 have hitm:∀v,v∈its->∃t,t∈T/\t.1=v:=λv hv=>by rw[←e1] at hv;exact List.mem_map.mp hv
 have htyp:∀(A:Around) (Er:Value->Shared->Prop),2<=its.length->∀Q:SortKind->Shared->Prop,Q (tuples' true) {s with heap:=mid g0 s.heap.objs.size its}->wpAny (model X.prog X.w) A (keyKind' its.toArray) Q Er {s with heap:=mid g0 s.heap.objs.size its}:=λA Er h2 Q q=>by
  obtain⟨fs,k1,k2,k3⟩:=R8 I2 T λt ht=>hT t ht
  rw[e1] at k1
  refine PySem.W.kat_kind (T:=.type "int") k1 (by rw[k2, ←List.length_map (f:=(·.1)),e1];omega) (λv hv=>?_) rfl q
  obtain⟨i,t,rfl⟩:=k3 v hv
  exact .now
 have key:∀{st:SortSt}{i:Nat},SBk (tuples' true) (pairsOf its) st->i<(pairsOf its).size->∃t p,t∈T/\(arrOf st)[i]?=some (t.1,p)/\kp (kfP T) (0,0) (arrOf st) i=t.2.2:=fun {st i} B hi=>by
  have hi':i<(arrOf st).size:=by rw[B.size];exact hi
  have hm:(arrOf st)[i]∈(pairsOf its).toList:=(Array.perm_iff_toList_perm.mp B.perm).mem_iff.mp (by simp)
  rw[pairsOf_toList] at hm
  obtain⟨t,ht,e⟩:=hitm _ (mem_zip_self hm).2
  have eg:(arrOf st)[i]?=some (arrOf st)[i]:=getElem?_pos _ i hi'
  refine⟨t,(arrOf st)[i].2,ht,by rw[eg,e],?_⟩
  unfold kp
  rw[eg,Option.map_some,Option.getD_some, ←e]
  exact HF huq ht
 have keys:∀{st:SortSt},SBk (tuples' true) (pairsOf its) st->((arrOf st).toList.map λp=>kfP T p.1).Perm as:=fun {st} B=>by
  have h1:(arrOf st).toList.Perm (its.zip its):=by rw[←pairsOf_toList];exact Array.perm_iff_toList_perm.mp B.perm
  have h2:=h1.map λp=>kfP T p.1
  have h3:(its.zip its).map (λp=>kfP T p.1)=as:=by
   have:(its.zip its).map (λp=>kfP T p.1)=((its.zip its).map Prod.fst).map (kfP T):=by rw[List.map_map];rfl
   rw[this,List.map_fst_zip (Nat.le_refl _), ←e1, ←e3,List.map_map]
   exact List.map_congr_left λt ht=>HF huq ht
  rwa [h3] at h2
 have kat:∀{st:SortSt}{i:Nat} (hi:i<(arrOf st).size),kp (kfP T) (0,0) (arrOf st) i=((arrOf st).toList.map λp=>kfP T p.1)[i]'(by simpa using hi):=fun {st i} hi=>by
  unfold kp
  rw[getElem?_pos (arrOf st) i hi]
  simp
 have OL:=B8
 have LK:∀(A:Around) (Er:Value->Shared->Prop),A.units+1<cLine->AskK X.prog X.w A Er {s with heap:=mid g0 s.heap.objs.size its} ltP (kfP T) (0,0) (pairsOf its) (tuples' true):=λA Er hA=>{
  irr:=OL.irr
  tr:=OL.tr
  ask:=fun {st i j Q} B hi hj qq=>by
   obtain⟨t,p,ht,et,kt⟩:=key B hi
   obtain⟨t',p',ht',et',kt'⟩:=key B hj
   rw[kt,kt'] at qq
   rw[ltAt'_eq]
   refine wpS_bind (wpS_get ?_)
   show wpS _ _ _ _ (elem' (arrOf st) i >>= λx=>elem' (arrOf st) j >>= λy=>lt' x y) Q st
   rw[elem'_eq,elem'_eq,et,et']
   refine wpS_bind (wpS_pure (wpS_bind (wpS_pure ?_)))
   rw[lt'_eq]
   refine wpS_bind (wpS_get ?_)
   rw[B.kind]
   refine wpS_bind (wpS_lift (wpAny_attempt ?_))
   obtain⟨r1,a1,x1,y1,v1,m1,hx1,hy1⟩:=hT t ht
   obtain⟨r2,a2,x2,y2,v2,m2,hx2,hy2⟩:=hT t' ht'
   rw[v1] at r1
   rw[v2] at r2
   have r1':t.1= .ref a1:=r1
   have r2':t'.1= .ref a2:=r2
   obtain⟨is1,rv1,⟨o1,g1,_,n1,d1⟩,_⟩:=I2.tuple (SqT.of m1)
   obtain⟨is2,rv2,⟨o2,g2,_,n2,d2⟩,_⟩:=I2.tuple (SqT.of m2)
   rw[show x1=V.int t.2.2.1 from hx1,show y1=V.int t.2.2.2 from hy1] at rv1
   rw[show x2=V.int t'.2.2.1 from hx2,show y2=V.int t'.2.2.2 from hy2] at rv2
   obtain⟨p1,p2,rfl,q1,q2⟩:=HH rv1
   obtain⟨p3,p4,rfl,q3,q4⟩:=HH rv2
   rw[r1',r2']
   refine PySem.W.kat_lt g1 d1 g2 d2 ?_
   show PySem.W.KatLex _ _ _ true _ _ [(p1,p3),(p2,p4)] 0 _
   refine PySem.W.kat_cons (eq_int.eq (A:=A) I2 q1 q3 rfl rfl (by omega) _ _ _ _ ?_)
   refine PySem.W.kat_go (λz=>PySem.W.kat_yes (PySem.W.kat_cons (eq_int.eq (A:=A) I2 q2 q4 rfl rfl (by omega) _ _ _ _ (PySem.W.kat_go (λy=>PySem.W.kat_yes (PySem.W.kat_nil ?_)) λy=>PySem.W.kat_no (PySem.W.kat_one _ _ ?_))))) λz=>PySem.W.kat_no ?_
   ·have z:=of_decide_eq_true z
    have y:=of_decide_eq_true y
    unfold ltP at qq
    rw[if_pos z,decide_eq_false (by omega)] at qq
    exact⟨rfl,wpS_pure qq⟩
   ·have z:=of_decide_eq_true z
    have y:=of_decide_eq_false y
    unfold ltP at qq
    rw[if_pos z] at qq
    exact lt_int.at' (A:=A) I2 q2 q4 rfl rfl (by omega) _ _ _ _ ⟨rfl,wpS_pure qq⟩
   ·have z:=of_decide_eq_false z
    unfold ltP at qq
    rw[if_neg z] at qq
    obtain⟨tk1,rfl⟩:=q1
    obtain⟨tk3,rfl⟩:=q3
    exact oneLt_int ⟨rfl,wpS_pure qq⟩
  two:=fun {st i j} B hi hj hne=>by
   have hi':i<(arrOf st).size:=by rw[B.size];exact hi
   have hj':j<(arrOf st).size:=by rw[B.size];exact hj
   rw[kat hi',kat hj']
   refine OL.tot λe=>hne ?_
   have hN:=(keys B).nodup_iff.mpr hnd
   have hP:=List.pairwise_iff_getElem.mp hN
   rcases Nat.lt_trichotomy i j with z |z |z
   ·exact absurd e (hP i j (by simpa using hi') (by simpa using hj') z)
   ·exact z
   ·exact absurd e.symm (hP j i (by simpa using hj') (by simpa using hi') z)}
 refine wpAny_bind (wpAny_holding (wpAny_call_entry slot_list_sort ⟨_,hoL,rfl⟩ entry_list_sort (Ir hoL (by omega) (htyp _ _) (LK _ _ (by rw[ZG];omega)) λout hp hr=>⟨_,rfl,wpAny_pure ⟨_,rfl,?_⟩⟩) (args_list_sort _)))
 have hpl:out.toList.Perm (its.zip its):=by rw[←pairsOf_toList];exact Array.perm_iff_toList_perm.mp hp
 have hself:∀p∈out.toList,p.1=p.2:=λp hp'=>(mem_zip_self (hpl.mem_iff.mp hp')).1
 have hfst:out.toList.map (·.1)=(out.map (·.2)).toList:=by
  rw[Array.toList_map];exact List.map_congr_left λp hp'=>hself p hp'
 have hperm:((out.map (·.2)).toList).Perm its:=by
  have:=hpl.map Prod.fst
  rw[List.map_fst_zip (Nat.le_refl _)] at this
  rw[←hfst];exact this
 obtain⟨T',hT',eT'⟩:=GQ hperm (l:=T) (f:=(·.1)) e1.symm
 have hk2:T'.map (·.2.2)=out.toList.map λp=>kfP T p.1:=by
  have h1:T'.map (·.2.2)=(T'.map (·.1)).map (kfP T):=by
   rw[List.map_map];exact List.map_congr_left λt ht=>(HF huq (hT'.mem_iff.mp ht)).symm
  rw[h1,eT', ←hfst,List.map_map];rfl
 have hol:out.size=its.length:=by have:=hp.size_eq;rwa [pairsOf_size] at this
 have hsort:T'.map (·.2.2)=Zk ltP as:=by
  refine Cl OL hnd (by rw[←e3];exact hT'.map _) ?_
  rw[hk2,List.pairwise_iff_getElem]
  intro i j hi hj hij
  have hi':i<out.size:=by simpa using hi
  have hj':j<out.size:=by simpa using hj
  have:=hr i j hij (by omega)
  unfold kp at this
  rw[getElem?_pos out i hi',getElem?_pos out j hj'] at this
  simpa using this
 have vv:∀{U:List (Value×V×Int×Int)},(∀t∈U,XW t.2.1 t.1)->XZ (U.map (·.2.1)) (U.map (·.1)):=fun {U}=>by
  induction U with
  |nil=>intro _;exact .nil
  |cons t U ih=>intro h;exact .cons (h t List.mem_cons_self) (ih λu hu'=>h u (List.mem_cons_of_mem _ hu'))
 obtain⟨e,he⟩:=sortedHeap_at (out:=out.map (·.2)) hoL
 have hfr:H s.heap.objs.size=none:=I.hok.fresh (Nat.le_refl _)
 have hvv:XZ (T'.map (·.2.1)) (out.map (·.2)).toList:=by rw[←eT'];exact vv λt ht=>(hT t (hT'.mem_iff.mp ht)).1
 have hzl:(T'.map (·.2.1)).length=as.length:=by rw[List.length_map,hT'.length_eq, ←e3,List.length_map]
 refine q (T'.map (·.2.1)) _ (I.laid (t':=s.toks) (λb o e=>?_) (Nat.le_refl _) (show Yp X.prog X.w _ _ _ (.lst (T'.map (·.2.1))) from⟨?_,(Array.map (λp:Keyed=>p.2) out).toList,e,hvv,he⟩)) hfr ?_ hzl
 ·exact L2.QP (hne e) (hold _ _ e)
 ·rw[hzl,sizeLine_eq];omega
 ·rw[←hsort, ←e2]
  have:(T'.map (·.2.1)).zip (T'.map (·.2.2))=T'.map λt=>(t.2.1,t.2.2):=by
   rw[List.zip_map']
  rw[this]
  exact hT'.map _
theorem QE (K:PySem.W.Frag)(hK:X.K=K)(hu:X.A.units+4<cLine):Zc X (.builtin "sorted") (LJ K):=by
 subst hK
 intro pins s σ H xs us Q I rr h
 obtain⟨l,ys,as,rfl,hq,hp,hnd,h64,q⟩:=h
 obtain⟨u,rfl,ru⟩:=Jk rr
 cases ru
 obtain⟨its,rv,pl,hz⟩:=I.list hq
 have hlen:its.length=as.length:=by rw[←Paired.len hp];exact rv.length.symm
 refine Calls.call_function_entry kind_sorted plain_sorted entry_sorted (args_sorted1 _) ?_
 unfold Builtin.«sorted»
 refine wpAny_bind (m:=checkCount "sorted" 1 1 _) (wpAny_pure (wpAny_bind (collect_list pl.isList ?_ (by rw[hlen,sizeLine_eq];omega))))
 have I1:Inv X pins σ H {s with heap:=(s.heap.push (seqObj "list" #[] 0)).update s.heap.objs.size (Obj.mapSeq (· ++its.toArray)),toks:=s.toks}:=I.kept λb o hb=>by
  have hlt:=Heap.lt_size hb
  rw[Heap.get?_update_ne _ _ _ _ (Nat.ne_of_lt hlt),Heap.get?_push_ne _ _ _ (Nat.ne_of_lt hlt)]
  exact hb
 refine wpAny_mono (GT (A:=X.A.in1) I1 rv hp hnd h64 (by rw[ZG];omega) (R:=λp s'=>EP X pins σ Q (.ref p) s') λzs s' I' hf hpm hzl=>⟨.ref _,_,I',rfl,q _ zs hf hpm hzl⟩) (λfin s' r9=>?_) λ_ _ x=>x
 obtain⟨p,e,r⟩:=r9
 subst e
 exact⟨_,rfl,r⟩
end
section
variable {prog:Program}{w:World}{A:Around}{E:Value->Shared->Prop}{s:Shared}
theorem Pg {l sl b:Addr}{items ys:List Value}{n:Nat}{vl vu:Value}{lo hi:Option Int}{Q:Unit->Shared->Prop}(hl:s.heap.get? l=some {cls:=.type "list",data:=.seq items.toArray n})
  (hs:s.heap.IsSliceOf sl vl vu .none)(pl:IsPart vl lo)(pu:IsPart vu hi)(hb:s.heap.IsList b ys.toArray)(hne:l≠b)(hz:items.length+ys.length<=sizeLine)
  (h:Q () {s with heap:=s.heap.update l (Obj.mapSeq λxs=>xs.extract 0 (HT.sIx items.length 0 lo)++ys.toArray++xs.extract (max (HT.sIx items.length 0 lo) (HT.sIx items.length items.length hi)) xs.size)}):
  wpAny (model prog w) A (setItem (.ref l) (.ref sl) (.ref b)) Q E s:=by
 have hL:s.heap.IsList l items.toArray:=PySem.IsL.isList (n:=n) hl
 obtain⟨ob,hob,hbc,nb,hbd⟩:=id hb
 obtain⟨os,hos,hcs,hds⟩:=id hs
 have hTs:s.TypeIs (.ref sl) "slice":=⟨os,hos,hcs⟩
 unfold setItem
 try with_reducible refine wpAny_holding ?_
 first |refine wpAny_bind (wpAny_pure ?_) |skip
 refine wpAny_bind (wpAny_sequenceKey hL.typeIs (by decide) ?_)
 refine wpAny_bind (wpAny_callSpecial?_slot (name:=Str.ofString "__setitem__") hL.typeIs slot_list_setitem
  (wpAny_call_entry slot_list_setitem hL.typeIs entry_list_setitem ?_ (args_list_setitem _ _ _)))
 show wpAny _ _ (Builtin.List.listSubscript? (.ref sl) >>= _) _ _ s
 refine wpAny_bind ?_
 unfold Builtin.List.listSubscript?
 refine wpAny_bind (wpAny_specialOf hTs slice_no_index ?_)
 simp only[Option.isNone_none,if_true]
 refine wpAny_pure ?_
 show wpAny _ _ (typeOf (.ref sl) >>= _) _ _ s
 refine wpAny_bind (wpAny_typeOf hTs ?_)
 rw[if_neg (by decide)]
 rw[listSliceParts_eq]
 refine wpAny_bind (wpAny_bind (wpAny_field hos hds (x:=.none) rfl (wpAny_bind (wpAny_listPart .none ?_))))
 rw[if_neg (show ¬((rawPart none==rawInt 0)=true) from Bool.false_ne_true)]
 refine wpAny_bind (wpAny_field hos hds (x:=vl) rfl (wpAny_bind (wpAny_listPart pl ?_)))
 refine wpAny_bind (wpAny_field hos hds (x:=vu) rfl (wpAny_bind (wpAny_listPart pu (wpAny_pure ?_))))
 dsimp only
 rw[if_neg (by
  have:(l==b)=false:=by rw[beq_eq_false_iff_ne];exact hne
  simp[Builtin.List.listSameRef,this])]
 unfold Builtin.List.listAllItems
 refine wpAny_bind (wpAny_bind (wpAny_typeOf hb.typeIs ?_))
 rw[if_pos (by decide)]
 unfold Builtin.List.listItems
 refine wpAny_bind (wpAny_seqItems hob hbd (wpAny_pure ?_))
 refine wpAny_bind (wpAny_bind (wpAny_seqItems hl rfl (wpAny_pure ?_)))
 obtain⟨b1,b2,b3⟩:=Vd lo hi items.length
 refine wpAny_bind (wpAny_of_eq ((sliceIndices_raw lo hi none items.toArray.size (by simp)).trans (congrArg (pure:Int×Int×Int->Sem (Int×Int×Int)) (show sliceBounds lo hi none items.toArray.size=(((HT.sIx items.length 0 lo:Nat):Int),((HT.sIx items.length items.length hi:Nat):Int),1) by rw[List.size_toArray];exact Prod.ext b1 (Prod.ext b2 b3)))) ?_)
 show wpAny _ _ (if((1:Int)==1)=true then _ else _) _ _ s
 rw[if_pos (by decide)]
 refine wpAny_bind (wpAny_rule ?_)
 have hsz:items.toArray.size+ys.toArray.size<=sizeLine:=by rw[List.size_toArray,List.size_toArray];exact hz
 first
  |simp only[VL hsz,Bool.false_eq_true,if_false]
  |refine PySem.W.KFB.if_not (VL hsz) ?_
 first |refine wpAny_bind (wpAny_pure ?_) |skip
 have hmax:(max ((HT.sIx items.length 0 lo:Nat):Int) ((HT.sIx items.length items.length hi:Nat):Int)).toNat=max (HT.sIx items.length 0 lo) (HT.sIx items.length items.length hi):=by omega
 show wpAny _ _ (updateSeq l (λxs=>xs.extract 0 (((HT.sIx items.length 0 lo:Nat):Int)).toNat++ys.toArray++xs.extract (max ((HT.sIx items.length 0 lo:Nat):Int) ((HT.sIx items.length items.length hi:Nat):Int)).toNat xs.size) >>= _) _ _ s
 rw[hmax,Int.toNat_natCast]
 refine wpAny_bind (wpAny_updateSeq (hz:=Nat.le_trans (Nat.le_add_right _ _) hsz) (_hz':=by
  simp only[Array.size_append,Array.size_extract,List.size_toArray]
  have:HT.sIx items.length 0 lo<=items.length:=HT.sIx_le _ _ (Nat.zero_le _) lo
  omega) hl rfl ?_)
 refine wpAny_bind (wpAny_letGo ?_)
 first
  |exact wpAny_bind (wpAny_pure (wpAny_pure ⟨.none,rfl,wpAny_pure h⟩))
  |exact wpAny_pure ⟨.none,rfl,wpAny_pure h⟩
end
noncomputable def spl {α:Type}(xs:List α)(lo hi:Option Int)(ys:List α):List α:=xs.take (HT.sIx xs.length 0 lo)++ys++xs.drop (max (HT.sIx xs.length 0 lo) (HT.sIx xs.length xs.length hi))
section
variable {X:Cx}{o:Expr}{lo hi:Option Expr}{pos p2:Pos}{to:TE}{tl th:TO}
noncomputable def gSl (to:TE)(tl th:TO):TG:=λv σ H Q=>to σ H λx H1=>tl σ H1 λl H2=>th σ H2 λu H3=>∃ p xs b ys,x= .ref p/\v= .ref b/\H3 p=some (.lst xs)/\H3 b=some (.lst ys)/\p≠b/\xs.length+ys.length<=sizeLine/\Q σ (upd H3 p (.lst (spl xs l u ys)))
theorem RK (ho:PE X o to)(hl:PO X lo tl)(hu:PO X hi th)
  (ha:∀v,assign (.Subscript o (.Slice lo hi none p2) pos) X.env v=(do
   let ov ←holding [v] (eval o X.env)
   let iv ←holding [v,ov] (eval (.Slice lo hi none p2) X.env)
   standAt pos
   holding [v,ov,iv] (setItem ov iv v)
   release [iv,v,ov] []):=by intro _;rfl):PG X (.Subscript o (.Slice lo hi none p2) pos) (gSl to tl th):=by
 intro pins s σ H v u Q I r h
 rw[ha]
 refine wpAny_bind (wpAny_holding (thn (ho pins s σ H _ I h) λov s1 r9=>?_))
 obtain⟨x,H1,I1,r1,q1⟩:=r9
 refine wpAny_bind (wpAny_holding (wpAny_Slice (thn (hl pins s1 σ H1 _ I1 q1) λvl s2 ⟨l,H2,I2,pl,q2⟩=>thn (hu pins s2 σ H2 _ I2 q2) λvu s3 r9=>?_)))
 obtain⟨u',H3,I3,pu,q3⟩:=r9
 rw[evalPart_none]
 refine wpAny_pure ?_
 have I4:Inv X pins σ H3 {s3 with heap:=s3.heap.push {cls:=.type "slice",data:=.fields #[vl,vu, .none]}}:=I3.kept (t':=s3.toks) λb ob q=>Heap.get?_push_of_some _ q
 obtain⟨p,xs,b,ys,rfl,rfl,e1,e2,hne,hz,q⟩:=q3
 cases r1
 cases r
 obtain⟨its,n,rv,g1,z1⟩:=I4.lst e1
 obtain⟨its2,n2,rv2,g2,z2⟩:=I4.lst e2
 have l1:=rv.length
 have l2:=rv2.length
 refine wpAny_bind (wpAny_standAt (wpAny_bind (wpAny_holding (Pg g1 (Heap.IsSliceOf.new ..) pl pu (PySem.IsL.isList (n:=n2) g2) hne (by omega) ?_))))
 refine wpAny_release ⟨σ,_,?_,q⟩
 rw[←l1]
 refine I4.lset (t':=s3.toks) (its':=its.take (HT.sIx xs.length 0 l)++its2++its.drop (max (HT.sIx xs.length 0 l) (HT.sIx xs.length xs.length u'))) e1 g1 (E5 its its2 _ _) ?_ ?_
 ·exact XZ.append (XZ.append (rv.take _) rv2) (rv.drop _)
 ·unfold spl
  rw[List.length_append,List.length_append,List.length_take,List.length_drop]
  have:HT.sIx xs.length 0 l<=xs.length:=HT.sIx_le _ _ (Nat.zero_le _) l
  omega
end
section
variable {X:Cx}{pins:List (Addr×Obj)}{σ:St}{H G:Hp}{s:Shared}{h':Heap}
noncomputable def Bo (H G:Hp):Hp:=λb=>match G b with
 |some o=>some o
 |none=>H b
theorem G3 {b:Addr}{o:HO}(h:G b=some o):Bo H G b=some o:=by unfold Bo;rw[h]
theorem Jz {b:Addr}(h:G b=none):Bo H G b=H b:=by unfold Bo;rw[h]
theorem Inv.laidG {t':Nat}(I:Inv X pins σ H s)(k:∀b u,s.heap.get? b=some u->h'.get? b=some u)(hp:∀a o,G a=some o->s.heap.objs.size<=a)(new:∀a o,G a=some o->Yp X.prog X.w (Bo H G) h' a o):
  Inv X pins σ (Bo H G) {s with heap:=h',toks:=t'}:=by
 have old:∀b u,H b=some u->Bo H G b=some u:=λb u e=>by
  cases hg:G b with
  |none=>rw[Jz hg];exact e
  |some o=>have:=I.hok.fresh (hp b o hg);rw[this] at e;cases e
 have oldN:∀b,b<s.heap.objs.size->Bo H G b=H b:=λb hb=>by
  cases hg:G b with
  |none=>exact Jz hg
  |some o=>have:=hp b o hg;omega
 refine I.un ⟨λb u q _ _ _=>k b u q,λb u q _ _ _=>⟨u.slots,k b u q⟩,λb u q n _=>by rw[oldN b (Heap.lt_size q)];exact n,λb u q _=>⟨u,k b u q⟩,λb xs q=>old b _ q,λb u xs q=>old b _ q,λb ps q=>⟨#[],by rw[old b _ q];simp⟩⟩ λb u e=>?_
 cases hg:G b with
 |some o=>rw[G3 hg] at e;cases e;exact new b _ hg
 |none=>
  rw[Jz hg] at e
  exact(I.hok b u e).stay (λc v _ q=>k c v q) (λc q=>old c _ q) λc xs q=>old c _ q
theorem Ug {α β:Type}{R:α->β->Prop}:∀{xs:List α}{ys:List β},xs.length=ys.length->(∀(j:Nat) x y,xs[j]?=some x->ys[j]?=some y->R x y)->Paired R xs ys
 | [],[],_,_=>.nil
 | [],_::_,h,_=>by simp at h
 |_::_,[],h,_=>by simp at h
 |x::xs,y::ys,h,r=>.cons (r 0 x y rfl rfl) (Ug (by simpa using h) λj a b ha hb=>r (j+1) a b (by simpa using ha) (by simpa using hb))
theorem CU {α β:Type}{R:α->β->Prop}{xs:List α}{ys:List β}(h:Paired R xs ys):∀{p:α×β},p∈xs.zip ys->R p.1 p.2:=by
 induction h with
 |nil=>intro p hp;simp at hp
 |cons r _ ih=>
  intro p hp
  rw[List.zip_cons_cons] at hp
  rcases List.mem_cons.mp hp with z |z
  ·rw[z];exact r
  ·exact ih z
theorem U0 {α β:Type}{R:α->β->Prop}{zs ys:List α}{bs as:List β}(hl:zs.length=bs.length)(hm:∀{p:α×β},p∈zs.zip bs↔p∈ys.zip as)(h:Paired R ys as):Paired R zs bs:=Ug hl λj x y hx hy=>by
 have:(x,y)∈zs.zip bs:=by
  rw[List.mem_iff_getElem?]
  exact⟨j,by rw[List.getElem?_zip_eq_some];exact⟨hx,hy⟩⟩
 exact CU h (hm.mp this)
noncomputable def LC (tl:TE)(K:PySem.W.Frag):TE:=λσ H Q=>tl σ H λx H1=>∃ l,∃d:List (Int×Int),x= .ref l/\H1 l=some (.dK (d.map λe=>(Sum.inl e.1,V.int e.2)))/\d.Nodup/\d.length<64/\
 ∀p H2 zs,Xu H1 H2->H1 p=none->H2 p=some (.lst zs)->Paired (rP2 Xe Xe K H2) zs (Zk ltP d)->Q (.ref p) H2
open Classical in
noncomputable def HJ (as:List Addr)(d:List (Int×Int)):Hp:=λb=>if h:∃j:Nat,as[j]?=some b then(d[Classical.choose h]?).map λe=>HO.tup [.int e.1, .int e.2] else none
theorem NC {as:List Addr}{d:List (Int×Int)}(hn:as.Nodup){j:Nat}{a:Addr}{e:Int×Int}(ha:as[j]?=some a)(he:d[j]?=some e):HJ as d a=some (.tup [.int e.1, .int e.2]):=by
 have h:∃j:Nat,as[j]?=some a:=⟨j,ha⟩
 unfold HJ
 rw[dif_pos h]
 have hs:=Classical.choose_spec h
 have:Classical.choose h=j:=by
  obtain⟨h1,e1⟩:=List.getElem?_eq_some_iff.mp hs
  obtain⟨h2,e2⟩:=List.getElem?_eq_some_iff.mp ha
  exact(List.getElem_inj hn).mp (e1.trans e2.symm)
 rw[this,he]
 rfl
theorem KR {as:List Addr}{d:List (Int×Int)}{a:Addr}{o:HO}(h:HJ as d a=some o):∃(j:Nat) (e:Int×Int),as[j]?=some a/\d[j]?=some e/\o= .tup [.int e.1, .int e.2]:=by
 unfold HJ at h
 split at h
 ·rename_i hx
  have hs:=Classical.choose_spec hx
  obtain⟨e,he,rfl⟩:=Option.map_eq_some_iff.mp h
  exact⟨_,e,hs,he,rfl⟩
 ·cases h
theorem KV.dget {d:List (Int×Int)}:∀{vs:List (Key×Value)},KV (d.map λe=>(Sum.inl e.1,V.int e.2)) vs->∀{j:Nat}{k:Key}{x:Value},vs[j]?=some (k,x)->∃e,d[j]?=some e/\k=Sum.inl e.1/\XW (.int e.2) x:=by
 induction d with
 |nil=>intro vs h j k x e;cases h;simp at e
 |cons c d ih=>
  intro vs h j k x e
  cases h with
  |cons r t=>
   cases j with
   |zero=>
    have e:=Option.some.inj e
    subst e
    exact⟨c,rfl,r.1.symm,r.2⟩
   |succ j=>exact ih t (by simpa using e)
end
section
variable {X:Cx}{l:Expr}{tl:TE}{pos npos apos cpos:Pos}
theorem Gn (hc:X.calm=true)(hg:Gl X "sorted")(hm:X.mg "sorted" =none)(hl:PE X l tl)(hu:X.A.units+4<cLine)
  (hbase:attributeBase l "items" X.env (eval l X.env)=eval l X.env:=by rfl)(hline:(apos.endLine==cpos.line)=true:=by rfl)
  (he:starEach [.Call (.Attribute l "items" apos) [] [] cpos] X.env=(false,eval (.Call (.Attribute l "items" apos) [] [] cpos) X.env)::starEach [] X.env:=by rfl)(hpl:(backTo pos (starEach [] X.env)).any (·.1)=false:=by rfl):
  PE X (.Call (.Name "sorted" npos) [.Call (.Attribute l "items" apos) [] [] cpos] [] pos) (LC tl X.K):=by
 intro pins s σ H Q I h
 refine wpAny_Call_Name_kw (Uk I hg hm PyProof.Rows.boot_sorted ?_ (by decide) (by decide))
 refine PyProof.Rows.callWith_builtin1 ?_ he hpl
 rw[he]
 show wpAny _ _ (spliced ((false,eval (.Call (.Attribute l "items" apos) [] [] cpos) X.env)::backTo pos (starEach [] X.env))) _ _ s
 refine Calls.spliced_cons ?_
 refine wpAny_Call_method0_late hbase hline (thn (hl pins s σ H _ I h) λv s1 r9=>?_)
 obtain⟨x,H1,I1,r1,q1⟩:=r9
 obtain⟨a,d,rfl,hd,hnd,h64,q⟩:=q1
 cases r1
 obtain⟨hz,hs,vs,rel,hm⟩:=(show Yp X.prog X.w H1 s1.heap a (.dK (d.map λe=>(Sum.inl e.1,V.int e.2))) from I1.hok a _ hd)
 refine⟨"dict","dict.items",F.plainAttrs_dict,F.slot_dict_items,F.type_dict_items,hm.typeIs,hm.mapOf.noDict,?_⟩
 refine method_meetsIn F.slot_dict_items F.entry_dict_items rfl (PySem.evalArgs_none ⟨rfl,hm.typeIs,F.args_dict_items_1 _,_,meets_dict_items (X7 X.prog X.w) a hs,⟨vs,hm⟩,?_⟩)
 obtain⟨ep,hat⟩:∃ep,s1.heap.DictAt (X7 X.prog X.w) a vs ep:=by
  obtain⟨o,es,ep,g1,g2,g3,g4⟩:=hm
  exact⟨ep,o,es,g1,g2,g3,g4⟩
 have hvw:(s1.heap.push {cls:=.type "dict_items",data:=.fields #[.ref a]}).IsItemsView s1.heap.objs.size a:=⟨_,Heap.get?_push_size _ rfl,rfl,rfl⟩
 refine wpAny_pure ?_
 have hl:=rel.length
 rw[List.length_map] at hl
 refine Calls.call_function_entry kind_sorted plain_sorted entry_sorted (args_sorted1 _) ?_
 unfold Builtin.«sorted»
 refine wpAny_bind (m:=checkCount "sorted" 1 1 _) (wpAny_pure (wpAny_bind (PySem.W.kdx_collect (A:=X.A.in1) (knd:=X7 X.prog X.w) (kvs:=vs) (ep:=ep) (I.ok.hd hc) hvw (hat.push _) (by rw[←hl,sizeLine_eq];omega) λh' tk as hk hla hG=>?_)))
 have hnA:as.Nodup:=hG.rise.imp λh=>Nat.ne_of_lt h
 have hget:∀(j:Nat) (b:Addr),as[j]?=some b->∃e,d[j]?=some e/\HJ as d b=some (.tup [.int e.1, .int e.2])/\∃its:List Value,XZ [.int e.1, .int e.2] its/\Va h' b its.toArray:=λj b hb=>by
  obtain⟨key,k,x,e1,e2,e3⟩:=hG.pairs j b hb
  obtain⟨e,he,rfl,rx⟩:=rel.dget e1
  exact⟨e,he,NC hnA hb he,[key,x], .cons (Et (show UX (Sum.inl e.1) key=true from e2)) (.cons rx .nil),⟨_,e3,⟨rfl,rfl⟩,_,rfl⟩⟩
 have I2:Inv X pins σ (Bo H1 (HJ as d)) {s1 with heap:=h',toks:=tk}:=I1.laidG (λb u e=>hk b u (Heap.get?_push_of_some _ e)) (λb o e=>by
  obtain⟨j,_,hb,_⟩:=KR e
  have this:(s1.heap.push {cls:=.type "dict_items",data:=.fields #[.ref a]}).objs.size<b:=hG.above b (List.mem_of_getElem? hb)
  rw[Heap.size_push] at this
  omega) λb o e=>by
   obtain⟨j,e0,hb,he,rfl⟩:=KR e
   obtain⟨e1,he1,_,its,v1,v2⟩:=hget j b hb
   rw[he] at he1
   cases he1
   exact⟨by show 2<=sizeLine;decide,its,v1,v2⟩
 have hpr:Paired (rP2 Xe Xe X.K (Bo H1 (HJ as d))) (as.map V.ref) d:=Ug (by rw[List.length_map,hla, ←hl]) λj y b hy hb=>by
  rw[List.getElem?_map] at hy
  obtain⟨c,hc',rfl⟩:=Option.map_eq_some_iff.mp hy
  obtain⟨e,he,ht,_⟩:=hget j c hc'
  rw[hb] at he
  cases he
  exact⟨c,_,_,rfl,G3 ht,rfl,rfl⟩
 have hvv:∀l:List Addr,XZ (l.map V.ref) (l.map Value.ref):=λl=>by
  induction l with
  |nil=>exact .nil
  |cons a l ih=>exact .cons rfl ih
 have hsame:Xu H1 (Bo H1 (HJ as d)):=λb o e=>by
  cases hg:HJ as d b with
  |none=>rw[Jz hg];exact e
  |some u=>
   obtain⟨j,_,hb,_⟩:=KR hg
   have this:(s1.heap.push {cls:=.type "dict_items",data:=.fields #[.ref a]}).objs.size<b:=hG.above b (List.mem_of_getElem? hb)
   rw[Heap.size_push] at this
   have:=I1.hok.fresh (a:=b) (by omega)
   rw[this] at e;cases e
 refine wpAny_mono (GT (A:=X.A.in1) I2 (hvv as) hpr hnd h64 (by rw[ZG];omega) (R:=λp s'=>EP X pins σ Q (.ref p) s') λzs s' I' hf hpm hzl=>⟨.ref _,_,I',rfl,?_⟩) (λfin s' ⟨p,e,r⟩=>?_) λ_ _ x=>x
 ·have hs2:Xu (Bo H1 (HJ as d)) (upd (Bo H1 (HJ as d)) h'.objs.size (.lst zs)):=λb o e=>by rw[XT (Yg e hf)];exact e
  refine q _ _ zs (hsame.trans hs2) ?_ X9 ?_
  ·cases e:H1 h'.objs.size with
   |none=>rfl
   |some o=>have:=hsame _ _ e;rw[hf] at this;cases this
  ·exact U0 (by rw[hzl,(YF ltP d).length_eq]) (hpm.mem_iff) (Paired.imp2 (λ_ _ z=>MonoE.mono hs2 z) hpr)
 ·subst e
  exact⟨_,rfl,r⟩
end
section
variable {X:Cx}
noncomputable def Lq (K:PySem.W.Frag):List V->Hp->VK->Prop:=λxs H Q=>∃ l ns,xs=[.ref l]/\SqT K H l (ns.map V.int)/\ns.length<64/\∀p,H p=none->Q (.ref p) (upd H p (.lst ((ZU ns).map V.int)))
theorem Vo (K:PySem.W.Frag)(hK:X.K=K):Zc X (.builtin "sorted") (Lq K):=by
 subst hK
 intro pins s σ H xs us Q I r h
 obtain⟨l,ns,rfl,hq,h64,q⟩:=h
 obtain⟨u,rfl,ru⟩:=Jk r
 cases ru
 obtain⟨its,rv,⟨o,g1,c1,n1,d1⟩,hz⟩:=I.tuple hq
 have hlen:=rv.length
 rw[List.length_map] at hlen
 refine Calls.call_function_entry kind_sorted plain_sorted entry_sorted (args_sorted1 _) ?_
 show wpAny _ _ (checkCount "sorted" 1 1 1 >>= λ_=>collect (.ref l) >>= λxs=>newList xs >>= λl=>holding [l] (call (.builtin "list.sort") [l] []) >>= λ_=>ret l) _ _ _
 refine wpAny_bind (wpAny_pure ?_)
 refine wpAny_bind (PySem.wpAny_collect_seq l (.inr rfl) g1 c1 d1 (λg old=>?_) (by rw[List.size_toArray,sizeLine_eq];omega))
 refine wpAny_bind (wpAny_newList ?_ (by simp;rw[sizeLine_eq];omega))
 have iw:IntsAre its.toArray.toList ns:=KB (by simpa using rv)
 have gl:(g.push {cls:=Value.type "list",data:=Data.seq its.toArray.toList.toArray}).get? g.objs.size=some (seqObj "list" its.toArray.toList.toArray 0):=Heap.get?_push_size _ rfl
 refine wpAny_bind (wpAny_holding (wpAny_call_entry slot_list_sort ⟨_,gl,rfl⟩ entry_list_sort (list_sort_tree gl iw (by simp;omega) λout ns' a1 a2 a3=>⟨_,rfl,?_⟩) (args_list_sort _)))
 refine wpAny_pure ⟨_,rfl,?_⟩
 obtain⟨e,hat⟩:=sortedHeap_at (out:=out) gl
 have en:ns'=ZU ns:=Cn a2 a3
 have v:=Uw a1
 rw[en] at v
 have I1:Inv X pins σ H {s with heap:=g,toks:=s.toks}:=I.kept (t':=s.toks) old
 have hfr:H g.objs.size=none:=I1.hok.fresh (Nat.le_refl _)
 refine⟨.ref g.objs.size,_,I1.laid (t':=s.toks) (λb o e=>QP (Nat.ne_of_lt (Heap.lt_size e)) (Heap.get?_push_of_some _ e)) (Nat.le_refl _) (show Yp X.prog X.w _ _ _ (.lst ((ZU ns).map V.int)) from⟨?_,out.toList,e,v,hat⟩),rfl,q _ hfr⟩
 rw[List.length_map,(JO ns).length_eq]
 have:ns.length<=64:=by omega
 exact Nat.le_trans this (by decide)
theorem Qj (K:PySem.W.Frag)(hK:X.K=K)(hc:X.calm=true):Zc X (.builtin "min") (IU K HX):=by
 subst hK
 intro pins s σ H xs us Q I r h
 obtain⟨a,ns,rfl,hq,hne,q⟩:=h
 obtain⟨u,rfl,ru⟩:=Jk r
 cases ru
 obtain⟨its,rv,pl,hz⟩:=I.tuple hq
 have hlen:its.length=ns.length:=by have:=rv.length;simpa using this.symm
 have hlt:a<s.heap.objs.size:=by obtain⟨o,ho,_⟩:=pl;exact Heap.lt_size ho
 refine call_min_walk (wpAny_pyIter_tuple pl ?_)
 refine⟨s.heap.objs.size,_,_,_,_,_,_,rfl,Walks.tuple (prog:=X.prog) (w:=X.w) (A:=X.A.in1) (I.ok.hd hc) s.heap.objs.size a (Nat.ne_of_lt hlt) its.toArray,⟨⟨_,Heap.get?_push_size _ rfl,rfl,rfl⟩,(show s.heap.IsTuple a its.toArray from pl).at λo e=>Heap.get?_push_of_some _ e⟩,λb hb=>?_,by rw[List.size_toArray,hlen];exact hne,CmpOf.ints_lt (λi=>ns.getD i 0) (KK rv),λv h' tk hP hk=>?_⟩
 ·rcases List.mem_cons.mp hb with e |hb
  ·rw[e,Heap.size_push];exact Nat.lt_succ_self _
  ·rw[List.mem_singleton.mp hb,Heap.size_push];exact Nat.lt_succ_of_lt hlt
 ·have I2:Inv X pins σ H {s with heap:=h',toks:=tk}:=I.kept (t':=tk) λb o e=>hk b o (λhm=>by
   rw[List.mem_singleton.mp hm] at e
   exact absurd (Heap.lt_size e) (Nat.lt_irrefl _)) (Heap.get?_push_of_some _ e)
  obtain⟨t,rfl⟩:=KK rv _ _ hP
  refine⟨.int (HX ns),H,I2,⟨t,?_⟩,q⟩
  rw[List.size_toArray,hlen,DR ns (ns.length-1) (by omega),show ns.length-1+1=ns.length by omega,List.take_length]
end
inductive Mx where
 |i (n:Int) |s (x:Str) |b (v:Bool)
 deriving DecidableEq
noncomputable def Mx.v:Mx->V
 | .i n=>.int n
 | .s x=>.str x
 | .b v=>.bl v
noncomputable def rMx:Enc Mx:=λ_ _ v m=>v=m.v
instance:FlatE rMx:=⟨λ_ h=>h⟩
noncomputable def mxI:Mx->Rs Int
 | .i n=>.ok n
 |_=>.bad
noncomputable def mxS:Mx->Rs Str
 | .s x=>.ok x
 |_=>.bad
noncomputable def mxB:Mx->Rs Bool
 | .b v=>.ok v
 |_=>.bad
noncomputable def mx2:List Mx->Rs (Int×Int)
 | [.i a, .i b]=>.ok (a,b)
 |_=>.bad
section
variable {K:PySem.W.Frag}{Er:Exc->Hp->Prop}{S:SC}{OO OO' OO1 OO2 OO3:List (List Xx)}{σ:St}{α β γ δ ρ:Type}{u:TS}
theorem YU {te:TE}{m:Rs Mx}(he:EvB K Er S OO σ te rMx m):EvB K Er S OO σ te Xe (m.bind mxI):=λH Q w s P=>by
 refine he H Q w s ?_
 cases m with
 |bad=>exact P
 |err x=>exact P
 |ok a=>cases a with
  |i n=>exact λv H' s' ho=>P v H' s' ho
  |s x=>exact P.elim
  |b x=>exact P.elim
theorem NQ {te:TE}{m:Rs Mx}(he:EvB K Er S OO σ te rMx m):EvB K Er S OO σ te UZ (m.bind mxS):=λH Q w s P=>by
 refine he H Q w s ?_
 cases m with
 |bad=>exact P
 |err x=>exact P
 |ok a=>cases a with
  |i n=>exact P.elim
  |s x=>exact λv H' s' ho=>P v H' s' ho
  |b x=>exact P.elim
theorem L7 {te:TE}{m:Rs Mx}(he:EvB K Er S OO σ te rMx m):EvB K Er S OO σ te Xy (m.bind mxB):=λH Q w s P=>by
 refine he H Q w s ?_
 cases m with
 |bad=>exact P
 |err x=>exact P
 |ok a=>cases a with
  |i n=>exact P.elim
  |s x=>exact P.elim
  |b x=>exact λv H' s' ho=>P v H' s' ho
theorem UL {te:TE}{m:Rs (List Mx)}(he:EvB K Er S OO σ te (rPL rMx) m):EvB K Er S OO σ te (rP2 Xe Xe) (m.bind mx2):=λH Q w s P=>by
 refine he H Q w s ?_
 cases m with
 |bad=>exact P
 |err x=>exact P
 |ok l=>
  match l,P with
  | [.i a, .i b],P=>
   rintro v H' s' ⟨p,xs,e,h,pr⟩
   cases pr with
   |cons r1 t=>cases t with
    |cons r2 t=>cases t with
     |nil=>exact P v H' s' ⟨p,_,_,e,h,r1,r2⟩
  | [],P=>exact P.elim
  | [_],P=>exact(show False by revert P;rename_i x;cases x<;> exact id).elim
  | .i _:: .s _::_,P=>exact P.elim
  | .i _:: .b _::_,P=>exact P.elim
  | .i _:: .i _::_::_,P=>exact P.elim
  | .s _::_::_,P=>exact P.elim
  | .b _::_::_,P=>exact P.elim
theorem NJ {te:TE}{m:Rs Int}(he:EvS K Er S OO σ te Xe m):EvS K Er S OO σ te rMx (m.bind λa=>.ok (.i a)):=λH Q w s P=>by
 refine he H Q w s ?_
 cases m with
 |bad=>exact P
 |err x=>exact P
 |ok a=>exact P
theorem Mg {te:TE}{m:Rs Str}(he:EvS K Er S OO σ te UZ m):EvS K Er S OO σ te rMx (m.bind λa=>.ok (.s a)):=λH Q w s P=>by
 refine he H Q w s ?_
 cases m with
 |bad=>exact P
 |err x=>exact P
 |ok a=>exact P
theorem Nx {te:TE}{m:Rs Bool}(he:EvS K Er S OO σ te Xy m):EvS K Er S OO σ te rMx (m.bind λa=>.ok (.b a)):=λH Q w s P=>by
 refine he H Q w s ?_
 cases m with
 |bad=>exact P
 |err x=>exact P
 |ok a=>exact P
theorem RG {H:Hp}{xs:List V}{l:List Int}(pr:Paired (Xe K H) xs l):Paired (rMx K H) xs (l.map Mx.i):=by
 induction pr with
 |nil=>exact .nil
 |cons r _ ih=>exact .cons r ih
theorem Gb {te:TE}{m:Rs (List Int)}(he:EvB K Er S OO σ te (rPL Xe) m):EvB K Er S OO σ te (rPL rMx) (m.bind λl=>.ok (l.map Mx.i)):=λH Q w s P=>by
 refine he H Q w s ?_
 cases m with
 |bad=>exact P
 |err x=>exact P
 |ok l=>
  rintro v H' s' ⟨p,xs,e,h,pr⟩
  exact P v H' s' ⟨p,xs,e,h,RG pr⟩
theorem KZ {ta:TE}{ma:Rs (List (Int×Int))}(ha:EvL K Er S OO σ ta (rP2 Xe Xe) ma):Ev K Er S OO OO σ (tCB (LJ K) (Xv ta Yq)) (oL (oF (rP2 Xe Xe))) (ma.bind λas=>chk (as.length<64/\as.Nodup) (.ok (Zk ltP as))):=λH Q w s P=>
 ha.run w s FO.tr P λas x H1 s1 w1 q1 ⟨p,xs,e,q,pr⟩ P1=>by
  obtain⟨⟨hl,hn⟩,P2⟩:=PZ.chk P1
  have pr':Paired (rP2 Xe Xe K H1) xs as:=Paired.imp2 (λ_ _ h=>MonoE.mono XB h) pr
  refine⟨p,xs,as,by rw[e],SqL.of q,pr',hn,hl,λp2 zs hp2 hpm hlen=>?_⟩
  exact Hy w1 (Paired.imp2 (λ_ _ h=>FlatE.flat w1.i h) (U0 (by rw[hlen,(YF ltP as).length_eq]) hpm.mem_iff pr')) P2 p2 hp2
theorem U6 {ta:TE}{ma:Rs (List Int)}(ha:EvB K Er S OO σ ta (rPL Xe) ma):Ev K Er S OO OO σ (tCB (Lq K) (Xv ta Yq)) (oL (oF Xe)) (ma.bind λas=>chk (as.length<64) (.ok (ZU as))):=λH Q w s P=>
 ha.run w s FO.tr P λas x H1 s1 w1 q1 ⟨p,xs,e,q,pr⟩ P1=>by
  obtain⟨hl,P2⟩:=PZ.chk P1
  exact⟨p,as,by rw[e],SqT.of (by rw[←VM pr];exact q),hl,Hy w1 (DQ _) P2⟩
theorem HP {H:Hp}{kvs:List (Key×V)}{d:List (Int×Int)}(pr:Paired (rDP Xe K H) kvs d):kvs=d.map λe=>(Sum.inl e.1,V.int e.2):=by
 induction pr with
 |nil=>rfl
 |cons r _ ih=>rw[List.map_cons, ←ih];exact congrArg (· ::_) (Prod.ext r.1 r.2)
theorem Ha {ta:TE}{ma:Rs (List (Int×Int))}(ha:EvB K Er S OO σ ta (rD Xe) ma):Ev K Er S OO OO σ (LC ta K) (oL (oF (rP2 Xe Xe))) (ma.bind λd=>chk (d.length<64/\d.Nodup) (.ok (Zk ltP d))):=λH Q w s P=>
 ha.run w s FO.tr P λd x H1 s1 w1 q1 ⟨p,kvs,e,q,pr⟩ P1=>by
  obtain⟨⟨hl,hn⟩,P2⟩:=PZ.chk P1
  have PF:FO K OO OO (oL (oF (rP2 Xe Xe))) Q (Zk ltP d) H1:=P2
  rw[HP pr] at q
  refine⟨p,d,e,q,hn,hl,λp2 H2 zs hs hp hz hpr=>?_⟩
  have w2:W ([(p2, .lst zs)]::OO) H2:=by
   refine⟨λc hc=>?_,?_,λc hc=>?_⟩
   ·rw[List.flatten_cons,List.mem_append] at hc
    rcases hc with hc |hc
    ·rw[List.mem_singleton] at hc;subst hc;exact hz
    ·exact hs _ _ (w1.tr c hc)
   ·rw[XO]
    exact List.nodup_cons.mpr ⟨w1.fresh hp,w1.nd⟩
   ·rw[List.flatten_cons,List.mem_append] at hc
    rcases hc with hc |hc
    ·rw[List.mem_singleton] at hc;subst hc;rfl
    ·exact w1.mu c hc
  refine PF (.ref p2) [(p2, .lst zs)] H2 hs w2 (λb o q=>?_) ⟨p2,zs,_,rfl,(L2.P3.of (Paired.imp2 (λ_ _ h=>FlatE.flat w2.i h) hpr)).imp λ_ _ _ h=>h,by rw[Yd]⟩
  obtain⟨q1,q2⟩:=X2 q
  refine YO (hs _ _ q1) ?_
  rw[XO]
  exact λz=>(List.mem_cons.mp z).elim (λz=>Yg q1 hp z) q2
theorem F1 {P:Program}{w0:World}{ta:TE}{ma:Rs (List Int)}(ha:EvL K Er S OO σ ta Xe ma):EvB K Er S OO σ (tCB (OJ P w0) (Xv (tCB (Ld K P w0) (Xv ta Yq)) Yq)) Xe (ma.bind λas=>chk (as.length<64) (.ok ((dd as).length:Int))):=λH Q w s Pz=>
 ha.run w s FB.tr Pz λas x H1 s1 w1 q1 ⟨p,xs,e,q,pr⟩ P1=>by
  obtain⟨hl,P2⟩:=PZ.chk P1
  have P3:FB K Xe Q ((dd as).length:Int) H1:=P2
  refine⟨p,as,by rw[e],SqL.of (by rw[←VM pr];exact q),hl,λS hS=>?_⟩
  exact⟨S,dd as,rfl,X9,Nat.lt_of_le_of_lt (Gr as) hl,P3 _ _ (XQ hS _) rfl⟩
theorem Qi {ta:TE}{ma:Rs (List Int)}(ha:EvB K Er S OO σ ta (rPL Xe) ma):EvB K Er S OO σ (tCB (IU K HX) (Xv ta Yq)) Xe (ma.bind Sc):=λH Q w s P=>
 ha.run w s FB.tr P λa x H1 s1 w1 q1 ⟨p,xs,e,q,pr⟩ P1=>by
  obtain⟨h1,P1⟩:=PZ.chk P1
  exact⟨p,a,by rw[e],SqT.of (by rw[←VM pr];exact q),h1,P1 _ H1 (Xu.refl _) rfl⟩
end
section
variable {K:PySem.W.Frag}{Er:Exc->Hp->Prop}{S:SC}{OO OO' OO1 OO2 OO3:List (List Xx)}{σ:St}{α β γ δ ρ ι:Type}{α1 α2 α3 α4 α5:Type}{u:TS}
variable {Fd:Ends->β->Hp->Prop}[fd:FdOk Fd]
theorem EvP.st {t:TO}{m:Rs (Option Int)}(he:EvP Er S OO σ t m){H:Hp}{D:Ends}{Q:Option Int->Hp->Prop}(w:W OO H)(s:S.p (hid H OO)){f:Option Int->Rs β}(P:PZ Er (Fd D) (hid H OO) (m.bind f))
  (hk:∀a H',Xu H H'->W OO H'->S.p (hid H' OO)->PZ Er (Fd D) (hid H' OO) (f a)->Q a H'):t σ H Q:=by
 refine he H Q w s ?_
 cases m with
 |bad=>exact P
 |err x=>exact λH' s'=>P H' (XB.trans s')
 |ok a=>exact λH' s'=>hk a H' s' (w.keep s') (S.mono _ _ (Xk s') s) (PZ.tr (fd.tr D) (Xk s') P)
theorem R7 {F:α->β->Prop}{a c:List α}{b d:List β}(h:Paired F a b)(k:Paired F c d):Paired F (a++c) (b++d):=by
 induction h with
 |nil=>exact k
 |cons r _ ih=>exact .cons r ih
theorem Bk {F:α->β->Prop}{xs ys:List α}{as bs:List β}(h:Paired F xs as)(k:Paired F ys bs)(lo hi:Option Int):Paired F (spl xs lo hi ys) (spl as lo hi bs):=by
 unfold spl
 rw[Paired.len h]
 exact R7 (R7 (Paired.take' _ h) k) (Paired.drop' _ h)
theorem Iu {te:TE}{tl th:TO}{m:Rs (List Int)}{ml mh:Rs (Option Int)}{f:List Int->Rs β}{v:V}{as:List Int}{C:List Xx}(i k:Nat)(hσ:σ[i]?=some (some v))(hk':OO'[k]?=some C)(h:∀x,S.p x->oL (oF Xe) K x v as C)(he:Ev K Er S OO OO' σ te (oL (oF Xe)) m)(hl:∀D,EvP Er S (D::OO') σ tl ml)(hh:∀D,EvP Er S (D::OO') σ th mh)
  (hr:∀bs C',Sv Er (S.addO K (oL (oF Xe)) v bs C') (OO'.set k C') σ u Fd (f bs)):Sv Er S OO σ (YX (Dq te (gSl (Qb i) tl th)) u) Fd (m.bind λbs=>ml.bind λlo=>mh.bind λhi=>chk (as.length+bs.length<=sizeLine) (f (spl as lo hi bs))):=λH D w s P=>
 he.st w s P λbs y D' H1 w1 s1 ho P1=>⟨v,hσ,(hl D').st w1 s1 P1 λlo H2 s2 w2 q2 P2=>(hh D').st w2 q2 P2 λhi H3 s3 w3 q3 P3'=>by
  obtain⟨hsz,P3'⟩:=PZ.chk P3'
  obtain⟨p,xs,Cs,e,q,c⟩:=h _ q3
  obtain⟨pr,cf⟩:=P3.flat q
  rw[cf] at c
  subst c
  have ho3:oL (oF Xe) K (hid H3 (D'::OO')) y bs D':=MonoO.mono ((Xk s2).trans (Xk s3)) ho
  obtain⟨b,ys,Cs',e',q',c'⟩:=ho3
  obtain⟨pr',cf'⟩:=P3.flat q'
  rw[cf'] at c'
  subst c'
  have hp:H3 p=some (.lst xs):=w3.tr (p, .lst xs) (by rw[List.flatten_cons];exact List.mem_append_right _ (List.mem_flatten.mpr ⟨_,List.mem_of_getElem? hk',List.mem_cons_self⟩))
  have hb:H3 b=some (.lst ys):=w3.tr (b, .lst ys) (by simp)
  have hne:p≠b:=λz=>by
   have nd:=w3.nd
   rw[XO] at nd
   have hin:p∈fl OO':=Vq (c:=(p, .lst xs)) (List.mem_flatten.mpr ⟨_,List.mem_of_getElem? hk',List.mem_cons_self⟩)
   exact(List.nodup_append.mp nd).2.2 b (by simp) p hin z.symm
  obtain⟨w4,m4⟩:=BW (D:=[(b, .lst ys)]) (C':=[(p, .lst (spl xs lo hi ys))]) (p:=p) (o:=.lst (spl xs lo hi ys)) w3 hk' (by simp) (by simp) (by simp) (λz hz=>by
   have:z=p:=by simpa using hz
   subst this;simp) (λc hc=>by
   have:c=(p, .lst (spl xs lo hi ys)):=by simpa using hc
   rw[this];exact X9) (λc hc=>by
   have:c=(p, .lst (spl xs lo hi ys)):=by simpa using hc
   rw[this];rfl)
  have l1:=Paired.len pr
  have l2:=Paired.len pr'
  refine⟨p,xs,b,ys,e,e',hp,hb,hne,by omega,hr (spl as lo hi bs) _ _ D w4 ⟨S.mono _ _ m4 q3,?_⟩ (PZ.tr (fd.tr D) m4 P3')⟩
  exact⟨p,_,_,e,(P3.of (Bk (F:=Xe K _) (Paired.imp2 (λ_ _ h=>h) pr) (Paired.imp2 (λ_ _ h=>h) pr') lo hi)).imp λ_ _ _ h=>h,by rw[Yd]⟩⟩
noncomputable def Gc (d:List (Int×α))(k:Int):List (Int×α):=d.filter λe=>decide (e.1≠k)
theorem Fy {r:Enc α}{H:Hp}{k:Int}{kvs:List (Key×V)}{d:List (Int×α)}(h:Paired (rDP r K H) kvs d):Paired (rDP r K H) (Ux kvs (.inl k)) (Gc d k):=by
 unfold Ux Gc
 induction h with
 |nil=>exact .nil
 | @cons a b l m r0 _ ih=>
  rw[List.filter_cons,List.filter_cons]
  by_cases c:b.1=k
  ·rw[if_neg (by rw[r0.1,c];simp),if_neg (by rw[c];simp)];exact ih
  ·rw[if_pos (by rw[r0.1];simpa using c),if_pos (by simpa using c)];exact .cons r0 ih
theorem FD {ty:TE}{r:Enc α}[z:MonoE r]{mk:Rs Int}{f:List (Int×α)->Rs β}{v:V}{d:List (Int×α)}{C:List Xx}(i k:Nat)(hσ:σ[i]?=some (some v))(hk:OO[k]?=some C)(h:∀x,S.p x->oD r K x v d C)(hy:EvB K Er S OO σ ty Xe mk)
  (hr:∀d' C',Sv Er (S.addO K (oD r) v d' C') (OO.set k C') σ u Fd (f d')):Sv Er S OO σ (YX (Jv (LX (Qb i) ty)) u) Fd (mk.bind λn=>chk ((QL d n).isSome=true) (f (Gc d n))):=λH D w s P=>by
 obtain⟨p,kvs,e,pr,c⟩:=h _ s
 subst c e
 have hH:H p=some (.dK kvs):=w.tr (p, .dK kvs) (List.mem_flatten.mpr ⟨_,List.mem_of_getElem? hk,by simp⟩)
 refine⟨_,hσ,p,rfl, .inl ⟨kvs, .inl hH⟩,hy.st w s P λn vn H2 s2 w2 q2 r2 P2=>?_⟩
 obtain⟨hsome,P2⟩:=PZ.chk P2
 have hH2:H2 p=some (.dK kvs):=s2 _ _ hH
 have pr2:Paired (rDP r K (hid H2 OO)) kvs d:=Paired.imp2 (λ_ _ h=>⟨h.1,z.mono (Xk s2) h.2⟩) pr
 obtain⟨a,ha⟩:=Option.isSome_iff_exists.mp hsome
 obtain⟨va,hva,_⟩:=(ZI (k:=n) pr2).1 a ha
 obtain⟨w3,m3⟩:=BW (D:=[]) (C':=[(p, .dK (Ux kvs (.inl n)))]) (p:=p) (o:=.dK (Ux kvs (.inl n))) w2.nil hk (by simp) (by simp) (by simp) (λb hb=>by simpa using hb) (λc hc=>by
  have:c=(p, .dK (Ux kvs (.inl n))):=by simpa using hc
  rw[this];exact X9) (λc hc=>by
  have:c=(p, .dK (Ux kvs (.inl n))):=by simpa using hc
  rw[this];rfl)
 rw[Y5] at m3
 exact⟨kvs, .inl n,va,hH2,r2,hva,hr _ _ _ D w3 ⟨S.mono _ _ m3 q2,⟨p,_,rfl,Paired.imp2 (λ_ _ h=>⟨h.1,z.mono m3 h.2⟩) (Fy pr2),rfl⟩⟩ (PZ.tr (fd.tr D) m3 P2)⟩
theorem HS {ta:TE}{m:Rs (Str×Str)}(ha:EvB K Er S OO σ ta (rP2 UZ UZ) m):EvB K Er S OO σ ta (rPL UZ) (m.bind λp=>.ok [p.1,p.2]):=λH Q w s P=>
 ha.run w s FB.tr P λa x H1 s1 w1 q1 r9 P1=>by obtain⟨p,x1,x2,e,q,h1,h2⟩:=r9;exact P1 _ H1 (Xu.refl _) ⟨p,_,e,q, .cons h1 (.cons h2 .nil)⟩
theorem G5 {te ts:TE}{r:Enc α}[z:MonoE r]{m:Rs (List α)}{ms:Rs Int}(he:EvL K Er S OO σ te r m)(hs:EvB K Er S OO σ ts Xe ms):Ev K Er S OO OO σ (R6 K te ts) (oL (oF r)) (m.bind λas=>ms.bind λk=>chk (k= -1) (.ok as.reverse)):=λH Q w s P=>
 he.run w s FO.tr P λas x H1 s1 w1 q1 ⟨p,xs,e,q,pr⟩ P1=>hs.run w1 q1 FO.tr P1 λk y H2 s2 w2 q2 r2 P2=>by
  obtain⟨hn,P3⟩:=PZ.chk P2
  exact⟨by rw[show y= .int k from r2,hn],p,xs,e,SqL.of (s2 _ _ q),Hy w2 (L2.Paired.rev' (Paired.imp2 (λ_ _ h=>z.mono (Xk s2) h) pr)) P3⟩
theorem MB {te:TE}{o:OE α}{r:Enc α}[z:FrzC o r]{y:V}{a:α}{C:List Xx}(k:Nat)(hte:∀(H:Hp) (Q:VK),W OO H->S.p (hid H OO)->Q y H->te σ H Q)(hk:OO[k]?=some C)(h:∀x,S.p x->o K x y a C):EvB K Er S OO σ te r (.ok a):=λH Q w s P=>
 hte H Q w s (P y H (Xu.refl _) (z.frz (h _ s) XB λc hc=>w.tr c (List.mem_flatten.mpr ⟨C,List.mem_of_getElem? hk,hc⟩)))
noncomputable def FFu (K:PySem.W.Frag)(q:OE γ)(v1:V)(Q:VK)(x:γ)(h:Hp):Prop:=∀ C' H',W [C'] H'->Xu h (hid H' [C'])->q K (hid H' [C']) v1 x C'->Q .non H'
noncomputable def Rx (q:OE γ)(r2:Enc α2)(r3:Enc α3)(f:γ->α2->α3->Rs γ)(K:PySem.W.Frag):Sp:=λvs H Q _=>∃ v1 v2 v3 a1 a2 a3 b,vs=[v1,v2,v3]/\∃C,W [C] H/\q K (hid H [C]) v1 a1 C/\r2 K (hid H [C]) v2 a2/\r3 K (hid H [C]) v3 a3/\f a1 a2 a3= .ok b/\FFu K q v1 Q b (hid H [C])
noncomputable def RB (q:OE γ)(r2:Enc α2)(r3:Enc α3)(r4:Enc α4)(r5:Enc α5)(f:γ->α2->α3->α4->α5->Rs γ)(K:PySem.W.Frag):Sp:=λvs H Q _=>∃ v1 v2 v3 v4 v5 a1 a2 a3 a4 a5 b,vs=[v1,v2,v3,v4,v5]/\∃C,W [C] H/\q K (hid H [C]) v1 a1 C/\r2 K (hid H [C]) v2 a2/\r3 K (hid H [C]) v3 a3/\r4 K (hid H [C]) v4 a4/\r5 K (hid H [C]) v5 a5/\f a1 a2 a3 a4 a5= .ok b/\FFu K q v1 Q b (hid H [C])
noncomputable def FNu (K:PySem.W.Frag)(q:OE γ)(v1:V)(D:Ends)(x:γ)(h:Hp):Prop:=∀ C' OO' σ' H',W (C'::OO') H'->Xu h (hid H' (C'::OO'))->q K (hid H' (C'::OO')) v1 x C'->D.nx σ' H'
instance {q:OE γ}{v1:V}:FdOk (FNu K q v1):=⟨λD b h h' s q C O σ H' w m x=>q C O σ H' w (s.trans m) x⟩
theorem Bz {q:OE γ}{v1:V}{a:γ}{C:List Xx}(k:Nat)(hk:OO[k]?=some C)(hf:∀x,S.p x->q K x v1 a C):Sv Er S OO σ UP (FNu K q v1) (.ok a):=λH D w s P=>by
 have hp:=XH hk
 have P:FNu K q v1 D a (hid H OO):=P
 exact P C (OO.set k []) σ H (w.of hp) (by rw[XI hp];exact Xu.refl _) (by rw[XI hp];exact hf _ s)
theorem EK {q:OE γ}[zq:MonoO q]{t:TS}{m:Rs γ}{Q:VK}{b:γ}{H:Hp}{D:Ends}{v1:V}{C:List Xx}(n k:Nat)(hkn:k<n)(h:Sv (λ_ _=>False) S ((List.replicate n []).set k C) σ t (FNu K q v1) m)(w:W [C] H)(hs:S.p (hid H [C]))(hm:m= .ok b)(qf:FFu K q v1 Q b (hid H [C]))(hD:∀σ H,D.nx σ H=Q .non H):t D σ H:=by
 have pe:((List.replicate n []).set k C).flatten.Perm [C].flatten:=by
  have h1:=XH (OO:=(List.replicate n []).set k C) (k:=k) (C:=C) (by simp[hkn])
  have e:((List.replicate n ([]:List Xx)).set k C).set k []=List.replicate n []:=by
   rw[List.set_set]
   apply List.ext_getElem?
   intro m
   by_cases hm:m=k
   ·subst hm;simp[hkn]
   ·rw[List.getElem?_set_ne (λe=>hm e.symm)]
  rw[e,List.flatten_cons,Yd] at h1
  simpa using h1.symm
 refine h H D (w.of pe) (by rw[XI pe];exact hs) ?_
 subst hm
 rw[XI pe]
 intro C' OO' σ' H' w' m' h1
 rw[hD]
 have hsub:Xu (hid H' (C'::OO')) (hid H' [C']):=Zx (Xu.refl _) λb hb=>by
  rw[XO]
  refine List.mem_append_left _ ?_
  simpa[fl] using hb
 exact qf C' H' (w'.sub (by simp)) (m'.trans hsub) (zq.mono hsub h1)
theorem Ik {Cy:List Xx}{H:Hp}{k:Nat}(w:W OO H)(hk:OO[k]?=some Cy):W [Cy] H/\Xu (hid H OO) (hid H [Cy])/\W (OO.set k []) (hid H [Cy])/\(∀b,b∈fl (OO.set k [])->b∈fl OO):=by
 have hp:=XH hk
 have wk:W (Cy::OO.set k []) H:=w.of hp
 refine⟨wk.sub (by simp),?_,⟨λcc hc=>YO (wk.tail.tr cc hc) (λz=>by
   have nd:=wk.nd
   rw[XO] at nd
   exact(List.nodup_append.mp nd).2.2 cc.1 (by simpa[fl] using z) cc.1 (Vq hc) rfl),wk.tail.nd,wk.tail.mu⟩,λb hb=>by
   rw[←JJ hp,XO]
   exact List.mem_append_right _ hb⟩
 rw[←XI hp]
 exact Zx (Xu.refl _) λb hb=>by
  rw[XO]
  refine List.mem_append_left _ ?_
  simpa[fl] using hb
theorem Pe {Cy C':List Xx}{H H':Hp}{k:Nat}(w:W OO H)(hk:OO[k]?=some Cy)(w':W [C'] H')(m':Xu (hid H [Cy]) (hid H' [C'])):W (OO.set k C') H'/\Xu (hid H OO) (hid H' (OO.set k C'))/\JR (hid H' [C']) (hid H' (C'::OO.set k []))/\Xu (hid H' (C'::OO.set k [])) (hid H' (OO.set k C')):=by
 obtain⟨_,m0,wo,hin⟩:=Ik w hk
 have hkl:k<OO.length:=(List.getElem?_eq_some_iff.mp hk).1
 obtain⟨w4,n4,i4⟩:=Mz wo w' m'
 have nn:Xu (hid H OO) (hid H' (C'::OO.set k [])):=by
  refine Xu.trans (λbb uu hb=>?_) n4
  obtain⟨b1,b2⟩:=X2 hb
  exact YO (m0 _ _ hb) λz=>b2 (hin _ z)
 obtain⟨w6,m6⟩:=Oq (k:=k) w4 (by rw[List.length_set];exact hkl)
 rw[List.set_set] at w6 m6
 exact⟨w6,nn.trans m6,i4,m6⟩
theorem Fb {t2 t3:TE}{r2:Enc α2}{r3:Enc α3}[z2:MonoE r2][z3:MonoE r3]{q:OE γ}[zq:FlatO q][mq:MonoO q]{f:γ->α2->α3->Rs γ}{m2:Rs α2}{m3:Rs α3}{g:γ->Rs β}{vy:V}{ay:γ}{Cy:List Xx}(i k:Nat)(hσ:σ[i]?=some (some vy))(hk:OO[k]?=some Cy)(h:∀x,S.p x->q K x vy ay Cy)
  (h2:EvS K Er S OO σ t2 r2 m2)(h3:EvS K Er S OO σ t3 r3 m3)(hr:∀b C',Sv Er (S.addO K q vy b C') (OO.set k C') σ u Fd (g b)):
  Sv Er S OO σ (YX (Jv (Q0 (Rx q r2 r3 f K) [] E0 (Xv (Qb i) (Xv t2 (Xv t3 Yq))))) u) Fd (m2.bind λb=>m3.bind λc=>(noE (f ay b c)).bind g):=λH D w s P=>
 ⟨vy,hσ,h2.st w s P λb z H2 s2 w2 q2 e2 P2=>h3.st w2 q2 P2 λc y H3 s3 w3 q3 e3 P3=>by
  cases en:f ay b c with
  |bad=>rw[en] at P3;exact P3.elim
  |err ex=>rw[en] at P3;exact P3.elim
  |ok r=>
   rw[en] at P3
   have P3:PZ Er (Fd D) (hid H3 OO) (g r):=P3
   obtain⟨wl,m0,_,_⟩:=Ik w3 hk
   refine⟨vy,z,y,ay,b,c,r,rfl,Cy,wl,mq.mono m0 (h _ q3),z2.mono ((Xk s3).trans m0) e2,z3.mono m0 e3,en,λC' H' w' m' hq=>?_⟩
   obtain⟨w6,n6,i4,m6⟩:=Pe w3 hk w' m'
   exact hr r C' H' D w6 ⟨S.mono _ _ n6 q3,mq.mono m6 (zq.flat i4 hq)⟩ (PZ.tr (fd.tr D) n6 P3)⟩
theorem Ur {t2 t3 t4 t5:TE}{r2:Enc α2}{r3:Enc α3}{r4:Enc α4}{r5:Enc α5}[z2:MonoE r2][z3:MonoE r3][z4:MonoE r4][z5:MonoE r5]{q:OE γ}[zq:FlatO q][mq:MonoO q]{f:γ->α2->α3->α4->α5->Rs γ}{m2:Rs α2}{m3:Rs α3}{m4:Rs α4}{m5:Rs α5}{g:γ->Rs β}{vy:V}{ay:γ}{Cy:List Xx}(i k:Nat)(hσ:σ[i]?=some (some vy))(hk:OO[k]?=some Cy)(h:∀x,S.p x->q K x vy ay Cy)
  (h2:EvS K Er S OO σ t2 r2 m2)(h3:EvS K Er S OO σ t3 r3 m3)(h4:EvS K Er S OO σ t4 r4 m4)(h5:EvS K Er S OO σ t5 r5 m5)(hr:∀b C',Sv Er (S.addO K q vy b C') (OO.set k C') σ u Fd (g b)):
  Sv Er S OO σ (YX (Jv (Q0 (RB q r2 r3 r4 r5 f K) [] E0 (Xv (Qb i) (Xv t2 (Xv t3 (Xv t4 (Xv t5 Yq))))))) u) Fd (m2.bind λb=>m3.bind λc=>m4.bind λd=>m5.bind λe=>(noE (f ay b c d e)).bind g):=λH D w s P=>
 ⟨vy,hσ,h2.st w s P λb z H2 s2 w2 q2 e2 P2=>h3.st w2 q2 P2 λc y H3 s3 w3 q3 e3 P3=>h4.st w3 q3 P3 λd y4 H4 s4 w4 q4 e4 P4=>h5.st w4 q4 P4 λe y5 H5 s5 w5 q5 e5 P5=>by
  cases en:f ay b c d e with
  |bad=>rw[en] at P5;exact P5.elim
  |err ex=>rw[en] at P5;exact P5.elim
  |ok r=>
   rw[en] at P5
   have P5:PZ Er (Fd D) (hid H5 OO) (g r):=P5
   obtain⟨wl,m0,_,_⟩:=Ik w5 hk
   have n3:=Xk (OO:=OO) s3
   have n4:=Xk (OO:=OO) s4
   have n5:=Xk (OO:=OO) s5
   refine⟨vy,z,y,y4,y5,ay,b,c,d,e,r,rfl,Cy,wl,mq.mono m0 (h _ q5),z2.mono (n3.trans (n4.trans (n5.trans m0))) e2,z3.mono (n4.trans (n5.trans m0)) e3,z4.mono (n5.trans m0) e4,z5.mono m0 e5,en,λC' H' w' m' hq=>?_⟩
   obtain⟨w6,n6,i4,m6⟩:=Pe w5 hk w' m'
   exact hr r C' H' D w6 ⟨S.mono _ _ n6 q5,mq.mono m6 (zq.flat i4 hq)⟩ (PZ.tr (fd.tr D) n6 P5)⟩
noncomputable def RD (q:OE γ)(r2:Enc α2)(r3:Enc α3)(o:OE ρ)(f:γ->α2->α3->Rs ρ)(K:PySem.W.Frag):Sp:=λvs H Q _=>∃ v1 v2 v3 a1 a2 a3 b,vs=[v1,v2,v3]/\∃C,W [C] H/\q K (hid H [C]) v1 a1 C/\r2 K (hid H [C]) v2 a2/\r3 K (hid H [C]) v3 a3/\f a1 a2 a3= .ok b/\FF K o Q b (hid H [C])
theorem IM {t2 t3:TE}{r2:Enc α2}{r3:Enc α3}[z2:MonoE r2][z3:MonoE r3]{q:OE γ}[mq:MonoO q]{o:OE ρ}[zo:FlatO o]{f:γ->α2->α3->Rs ρ}{m2:Rs α2}{m3:Rs α3}{vy:V}{ay:γ}{Cy:List Xx}(i k:Nat)(hσ:σ[i]?=some (some vy))(hk:OO[k]?=some Cy)(h:∀x,S.p x->q K x vy ay Cy)
  (h2:EvS K Er S OO σ t2 r2 m2)(h3:EvS K Er S OO σ t3 r3 m3):
  Sv Er S OO σ (YX (PJ (Q0 (RD q r2 r3 o f K) [] E0 (Xv (Qb i) (Xv t2 (Xv t3 Yq))))) u) (FTd K o) (m2.bind λb=>m3.bind λc=>noE (f ay b c)):=λH D w s P=>
 ⟨vy,hσ,h2.st (Fd:=FTd K o) w s P λb z H2 s2 w2 q2 e2 P2=>h3.st (Fd:=FTd K o) w2 q2 P2 λc y H3 s3 w3 q3 e3 P3=>by
  cases en:f ay b c with
  |bad=>rw[en] at P3;exact P3.elim
  |err ex=>rw[en] at P3;exact P3.elim
  |ok r=>
   rw[en] at P3
   have P3:FTd K o D r (hid H3 OO):=P3
   obtain⟨wl,m0,wo,hin⟩:=Ik w3 hk
   refine⟨vy,z,y,ay,b,c,r,rfl,Cy,wl,mq.mono m0 (h _ q3),z2.mono ((Xk s3).trans m0) e2,z3.mono m0 e3,en,λv C' H' w' m' ho=>?_⟩
   obtain⟨w4,n4,i4⟩:=Mz wo w' m'
   refine P3 v C' (OO.set k []) H' w4 (Xu.trans (λbb uu hb=>?_) n4) (zo.flat i4 ho)
   obtain⟨b1,b2⟩:=X2 hb
   exact YO (m0 _ _ hb) λz=>b2 (hin _ z)⟩
theorem RC {o:OE ρ}[MonoO o]{t:TS}{m:Rs ρ}{Q:VK}{b:ρ}{H:Hp}{D:Ends}{C:List Xx}(n k:Nat)(hkn:k<n)(h:Sv (λ_ _=>False) S ((List.replicate n []).set k C) σ t (FTd K o) m)(w:W [C] H)(hs:S.p (hid H [C]))(hm:m= .ok b)(q:FF K o Q b (hid H [C]))(hD:D.rt=Q):t D σ H:=by
 have pe:((List.replicate n []).set k C).flatten.Perm [C].flatten:=by
  have h1:=XH (OO:=(List.replicate n []).set k C) (k:=k) (C:=C) (by simp[hkn])
  have e:((List.replicate n ([]:List Xx)).set k C).set k []=List.replicate n []:=by
   rw[List.set_set]
   apply List.ext_getElem?
   intro m
   by_cases hm:m=k
   ·subst hm;simp[hkn]
   ·rw[List.getElem?_set_ne (λe=>hm e.symm)]
  rw[e,List.flatten_cons,Yd] at h1
  simpa using h1.symm
 refine h H D (w.of pe) (by rw[XI pe];exact hs) ?_
 subst hm
 rw[XI pe]
 intro v C1 OO' H' w' mm ho
 rw[hD]
 exact LM q v C1 OO' H' w' mm ho
section
variable {o:OE ρ}{kf:Nat}{Cf:List Xx}{J:Jn γ ι}
noncomputable def M6 (K:PySem.W.Frag)(o:OE ρ)(kf:Nat)(Cf:List Xx)(J:Jn γ ι)(D:Ends)(c:Ctl ρ γ)(h:Hp):Prop:=match c with
 | .ret r=>C0 K o kf Cf D r h
 | .nx g=>FNd J D g h
instance:FdOk (M6 K o kf Cf J):=⟨λD b h h' s q=>by
 cases b with
 |ret r=>exact λv C O H' e w m x=>q v C O H' e w (s.trans m) x
 |nx g=>exact λx H' w m y=>q x H' w (s.trans m) y⟩
theorem DF {t:TS}{m:Rs γ}(h:Sv Er S OO σ t (FNd J) m):Sv Er S OO σ t (M6 K o kf Cf J) (m.bind λr=>.ok (.nx r)):=λH D w s P=>h H D w s (by
 cases m with
 |bad=>exact P
 |err x=>exact P
 |ok a=>exact P)
theorem VN {c:TT}{t1:TS}{mc:Rs Bool}{m1 m2:Rs ρ}(hc:EvT Er S OO σ c mc)(h1:Sv Er S OO σ t1 (C0 K o kf Cf) m1)(h2:Sv Er S OO σ u (C0 K o kf Cf) m2):Sv Er S OO σ (YX (NM c t1 UP) u) (C0 K o kf Cf) (mc.bind λb=>if b=true then m1 else m2):=λH D w s P=>
 hc.st (Fd:=C0 K o kf Cf) w s P λb H' w' s' P'=>by
  cases b with
  |true=>rw[if_pos rfl] at P'⊢;exact h1 H' _ w' s' P'
  |false=>exact h2 H' D w' s' P'
theorem Ee {c:TT}{t1:TS}{mc:Rs Bool}{m1:Rs ρ}{m2:Rs (Ctl ρ γ)}(hc:EvT Er S OO σ c mc)(h1:Sv Er S OO σ t1 (C0 K o kf Cf) m1)(h2:Sv Er S OO σ u (M6 K o kf Cf J) m2):Sv Er S OO σ (YX (NM c t1 UP) u) (M6 K o kf Cf J) (mc.bind λb=>if b=true then m1.bind (λr=>.ok (.ret r)) else m2):=λH D w s P=>
 hc.st (Fd:=M6 K o kf Cf J) w s P λb H' w' s' P'=>by
  cases b with
  |true=>
   rw[if_pos rfl] at P'⊢
   refine h1 H' _ w' s' ?_
   cases m1 with
   |bad=>exact P'
   |err x=>exact P'
   |ok a=>exact P'
  |false=>exact h2 H' D w' s' P'
theorem Hf {t:TS}{m:Rs (Ctl ρ γ)}{f:γ->Rs ρ}(hb:Sv Er S OO σ t (M6 K o kf Cf J) m)(hr:∀g x,Sv Er (J.sc g x) (J.oo x) (J.ss x) u (C0 K o kf Cf) (f g)):Sv Er S OO σ (YX t u) (C0 K o kf Cf) (m.bind (UY f)):=λH D w s P=>
 hb H _ w s (by
  cases m with
  |bad=>exact P
  |err x=>exact P
  |ok g=>
   cases g with
   |ret r=>exact P
   |nx g=>exact λx H' w' m' q=>hr g x H' D w' q (PZ.tr (FdOk.tr D) m' P))
end
noncomputable def RI (r1:Enc α1)(r2:Enc α2)(r3:Enc α3)(r4:Enc α4)(o:OE ρ)(f:α1->α2->α3->α4->Rs ρ)(K:PySem.W.Frag):Sp:=λvs H Q _=>∃ v1 v2 v3 v4 a1 a2 a3 a4 b,vs=[v1,v2,v3,v4]/\∃Cf,W [Cf] H/\r1 K (hid H [Cf]) v1 a1/\r2 K (hid H [Cf]) v2 a2/\r3 K (hid H [Cf]) v3 a3/\r4 K (hid H [Cf]) v4 a4/\f a1 a2 a3 a4= .ok b/\PY K o Cf Q b (hid H [Cf])
theorem GR {ta tb tc td:TE}{r1:Enc α1}{r2:Enc α2}{r3:Enc α3}{r4:Enc α4}[z1:MonoE r1][z2:MonoE r2][z3:MonoE r3][z4:MonoE r4]{o:OE ρ}{f:α1->α2->α3->α4->Rs ρ}{ma:Rs α1}{mb:Rs α2}{mc:Rs α3}{md:Rs α4}(ha:EvS K Er S OO σ ta r1 ma)(hb:EvS K Er S OO σ tb r2 mb)(hc:EvS K Er S OO σ tc r3 mc)(hd:EvS K Er S OO σ td r4 md):
  Ev K Er S OO OO σ (Q0 (RI r1 r2 r3 r4 o f K) [] E0 (Xv ta (Xv tb (Xv tc (Xv td Yq))))) o (ma.bind λa=>mb.bind λb=>mc.bind λc=>md.bind λd=>noE (f a b c d)):=λH Q w s P=>
 ha.run w s FO.tr P λa x H1 s1 w1 q1 r1 P1=>hb.run w1 q1 FO.tr P1 λb y H2 s2 w2 q2 r2 P2=>hc.run w2 q2 FO.tr P2 λc z H3 s3 w3 q3 r3 P3=>hd.run w3 q3 FO.tr P3 λd t H4 s4 w4 q4 r4 P4=>by
  obtain⟨e,he,P5⟩:=P4.okOf λx=>Ki
  have n2:=Xk (OO:=OO) s2
  have n3:=Xk (OO:=OO) s3
  have n4:=Xk (OO:=OO) s4
  exact⟨x,y,z,t,a,b,c,d,e,rfl,OO.flatten,w4.one,by rw[GB];exact z1.mono (n2.trans (n3.trans n4)) r1,by rw[GB];exact z2.mono (n3.trans n4) r2,by rw[GB];exact z3.mono n4 r3,by rw[GB];exact r4,U8 he,by rw[GB];exact OS w4 P5⟩
theorem H9 {o1:OE α1}{o2:OE α2}{o3:OE α3}[MonoO o1][MonoO o2][MonoO o3]{f:Rs β}(i j l k1 k2 k3:Nat)(h1:k1<OO.length)(h2:k2<OO.length)(h3:k3<OO.length)
  (hr:∀v w x C1 C2 C3,Sv Er (((S.addO K (oL o1) v [] C1).addO K (oL o2) w [] C2).addO K (oL o3) x [] C3) (((OO.set k1 C1).set k2 C2).set k3 C3) (((σ.set i (some v)).set j (some w)).set l (some x)) u Fd f):Sv Er S OO σ (YX (NR i j l (Xv (HK Yq) (Xv (HK Yq) (Xv (HK Yq) Yq)))) u) Fd f:=λH D w s P=>by
 refine⟨Nat.zero_le _,λp1 hp1=>⟨Nat.zero_le _,λp2 hp2=>⟨Nat.zero_le _,λp3 hp3=>⟨_,_,_,rfl,?_⟩⟩⟩⟩
 have key:∀{OO:List (List Xx)}{H:Hp}{p:Addr}{k:Nat},W OO H->H p=none->k<OO.length->W (OO.set k [(p, .lst [])]) (upd H p (.lst []))/\Xu (hid H OO) (hid (upd H p (.lst [])) (OO.set k [(p, .lst [])])):=λw hp hk=>by
  obtain⟨a,b⟩:=Oq (w.new hp (o:=.lst []) rfl) hk
  exact⟨a,(JX hp (o:=.lst [])).trans b⟩
 obtain⟨w1,m1⟩:=key w hp1 h1
 obtain⟨w2,m2⟩:=key w1 hp2 (k:=k2) (by simpa using h2)
 obtain⟨w3,m3⟩:=key w2 hp3 (k:=k3) (by simpa using h3)
 have nl:∀{τ:Type}{o:OE τ}{h:Hp}{p:Addr},oL o K h (.ref p) [] [(p, .lst [])]:=fun {τ o h p}=>⟨p,[],[],rfl, .nil,rfl⟩
 exact hr _ _ _ _ _ _ _ D w3 ⟨⟨⟨S.mono _ _ ((m1.trans m2).trans m3) s,nl⟩,nl⟩,nl⟩ (PZ.tr (fd.tr D) ((m1.trans m2).trans m3) P)
end
section
variable {K:PySem.W.Frag}{Er:Exc->Hp->Prop}{S:SC}{OO:List (List Xx)}{σ:St}{α β γ ρ ι:Type}{u:TS}{Fd:Ends->β->Hp->Prop}[fd:FdOk Fd]
theorem Ib {ti:TE}{g:TG}{tb:TS}{r:Enc α}[z:MonoE r]{κ:Type}{mi:Rs Int}{body:γ->α->Rs γ}{f:γ->Rs β}{v:V}{as:List (List α)}{C:List Xx}(n k:Nat)(hσ:σ[n]?=some (some v))(hk:OO[k]?=some C)(h:∀x,S.p x->oL (oL (oF r)) K x v as C)(hi:EvB K Er S OO σ ti Xe mi)
  (J:Jn γ ι)(T:∀OO,Tgt K OO g r κ)(x0:ι)(g0:γ)(hC:∀x,(J.oo x)[k]?=some C)(h1:OO=J.oo x0)(h2:σ=J.ss x0)(h3:∀h,S.p h->(J.sc g0 x0).p h)
  (hb:∀g x a v,Sv Er ((T (J.oo x)).sc a v (J.sc g x)) (J.oo x) ((T (J.oo x)).set v (J.ss x)) tb (FNd J) (body g a))
  (hr:∀g x,Sv Er (J.sc g x) (J.oo x) (J.ss x) u Fd (f g)):Sv Er S OO σ (YX (By (Gz K (tOp (B9 K) (Qb n) ti)) g tb) u) Fd (mi.bind λi=>(atR as i).bind λrow=>(forN row g0 body).bind f):=λH0 D w0 s0 P0=>
 ⟨v,hσ,hi.st w0 s0 P0 λix vi H s1 w s r1 P=>by
  obtain⟨p,xs,Cs,e,q,c⟩:=h _ s
  subst c
  cases er:atR as ix with
  |bad=>rw[er] at P;exact P.elim
  |err x=>exact absurd er V1
  |ok row=>
   rw[er] at P
   have P:PZ Er (Fd D) (hid H OO) ((forN row g0 body).bind f):=P
   obtain⟨j,hj,hrow⟩:=Eh er
   obtain⟨a,c,ha,hc,ho⟩:=P3.get q hrow
   obtain⟨p',ys,Cs',e',q',c'⟩:=ho
   have pr:=(P3.flat q').1
   have hpin:(p,HO.lst xs)∈OO.flatten:=List.mem_flatten.mpr ⟨_,List.mem_of_getElem? hk,List.mem_cons_self⟩
   have hin:∀x,(p',HO.lst ys)∈(J.oo x).flatten:=λx=>List.mem_flatten.mpr ⟨_,List.mem_of_getElem? (hC x),List.mem_cons_of_mem _ (List.mem_flatten.mpr ⟨c,List.mem_of_getElem? hc,by rw[c'];exact List.mem_cons_self⟩)⟩
   have hH:H p=some (.lst xs):=w.tr _ hpin
   have hH':H p'=some (.lst ys):=w.tr (p', .lst ys) (by rw[h1];exact hin x0)
   refine⟨p,xs,ix,a,e,r1,SqL.of hH,?_,?_⟩
   ·unfold atI
    rw[(P3.len q).1,hj]
    exact ha
   refine⟨p',e',⟨ys,SqL.of hH'⟩,?_⟩
   refine⟨λi mm σ' H2=>mm=row.length-i/\i<=row.length/\∃x gg,σ'=J.ss x/\W (J.oo x) H2/\Xu (hid H OO) (hid H2 (J.oo x))/\(J.sc gg x).p (hid H2 (J.oo x))/\PZ Er (Fd D) (hid H2 (J.oo x)) ((forN (row.drop i) gg body).bind f),⟨row.length,rfl,Nat.zero_le _,x0,g0,h2,?_,?_,?_,?_⟩,?_⟩
   ·rw[←h1];exact w
   ·rw[←h1];exact Xu.refl _
   ·rw[←h1];exact h3 _ s
   ·rw[←h1,List.drop_zero];exact P
   ·rintro i mm σ' H2 ⟨rfl,hi',x,gg,rfl,w2,m2,sc2,P2⟩
    have hq:SqL K H2 p' ys:=SqL.of (w2.tr (p', .lst ys) (hin x))
    by_cases hlt:i<row.length
    ·right
     obtain⟨y0,hy0,ry⟩:=Paired.getR pr (List.getElem?_eq_getElem hlt)
     refine⟨⟨ys,y0,hq,hy0⟩,λσ3 H3=>∃ x gg,σ3=J.ss x/\W (J.oo x) H3/\Xu (hid H OO) (hid H3 (J.oo x))/\(J.sc gg x).p (hid H3 (J.oo x))/\PZ Er (Fd D) (hid H3 (J.oo x)) ((forN (row.drop (i+1)) gg body).bind f),λσ3 H3 q=>⟨row.length-(i+1),Nat.sub_lt_sub_left hlt (Nat.lt_succ_self i),rfl,hlt,q⟩,λy H3 hy=>?_⟩
     obtain⟨rfl,hy2⟩:=hy
     have:=hy2 ys hq
     rw[hy0] at this
     cases this
     refine(T (J.oo x)).ok (z.mono m2 ry) sc2 λv hv=>hb gg x row[i] v H3 _ w2 hv ?_
     rw[List.drop_eq_getElem_cons hlt] at P2
     have P3:PZ Er (Fd D) (hid H3 (J.oo x)) ((body gg row[i]).bind λg'=>(forN (row.drop (i+1)) g' body).bind f):=by rw[←Yh];exact P2
     cases eb:body gg row[i] with
     |bad=>rw[eb] at P3;exact P3
     |err x=>rw[eb] at P3;exact P3
     |ok g'=>
      rw[eb] at P3
      exact λx' H4 w4 m4 sc4=>⟨x',g',rfl,w4,m2.trans m4,sc4,PZ.tr (fd.tr D) m4 P3⟩
    ·left
     have e:i=row.length:=Nat.le_antisymm hi' (Nat.not_lt.mp hlt)
     subst e
     refine⟨⟨ys,hq,by rw[Paired.len pr];exact Nat.le_refl _⟩,hr gg x H2 D w2 sc2 ?_⟩
     rw[List.drop_length] at P2
     exact P2⟩
end
section
variable {K:PySem.W.Frag}{Er:Exc->Hp->Prop}{S:SC}{OO OO':List (List Xx)}{σ:St}{α1 α2 α3 β ρ:Type}{u:TS}
end
theorem Na {X:Cx}{α:Type}[DecidableEq α]{r:Enc α}{d:Nat}(K:PySem.W.Frag)(h:X.K=K)(E:EqOk r d)(hu:X.A.units+d<cLine):OpR X (compareOp .Eq) (Ra K r):=by subst h;exact Oy E hu
theorem QQ {X:Cx}{α:Type}[DecidableEq α]{r:Enc α}{d:Nat}(K:PySem.W.Frag)(h:X.K=K)(E:EqOk r d)(hu:X.A.units+d<cLine):OpR X (compareOp .NotEq) (PX K r):=by subst h;exact Pj E hu
section
variable {α β γ δ ρ:Type}{K:PySem.W.Frag}{Er:Exc->Hp->Prop}{S T:SC}{OO:List (List Xx)}{σ l:St}{i j k n:Nat}{v w:V}{x:Option V}{r:Enc α}{q:Enc β}{t:Enc γ}{o:OE α}{a:α}{C D:List Xx}{te ta tb tc:TE}
class Nn (i j:Nat):Prop where h:i≠j
instance:Nn 0 (j+1):=⟨by omega⟩
instance:Nn (i+1) 0:=⟨by omega⟩
instance [x:Nn i j]:Nn (i+1) (j+1):=⟨by have:=x.h;omega⟩
class Lk {β:Type}(l:List β)(k:Nat):Prop where h:k<l.length
instance {b:β}{l:List β}:Lk (b::l) 0:=⟨by simp⟩
instance {b:β}{l:List β}[x:Lk l k]:Lk (b::l) (k+1):=⟨by simpa using x.h⟩
instance {b:β}{l:List β}[x:Lk l k]:Lk (l.set j b) k:=⟨by simpa using x.h⟩
instance {b:β}:Lk (List.replicate (n+1) b) 0:=⟨by simp⟩
instance {b:β}[x:Lk (List.replicate n b) k]:Lk (List.replicate (n+1) b) (k+1):=⟨by simpa using x.h⟩
class Sl (σ:St)(i:Nat)(v:outParam V):Prop where h:σ[i]?=some (some v)
instance:Sl (some v::l) 0 v:=⟨rfl⟩
instance [y:Sl l i v]:Sl (x::l) (i+1) v:=⟨y.h⟩
instance [y:Lk σ i]:Sl (σ.set i (some v)) i v:=⟨by simp[y.h]⟩
instance [y:Sl σ i v][z:Nn j i]:Sl (σ.set j x) i v:=⟨by rw[List.getElem?_set_ne z.h];exact y.h⟩
class Cp (caps:List (Nat×Str))(j:Nat)(i:outParam Nat):Prop where h:∃s,caps[j]?=some (i,s)
instance {s:Str}{c:List (Nat×Str)}:Cp ((i,s)::c) 0 i:=⟨s,rfl⟩
instance {p:Nat×Str}{c:List (Nat×Str)}[y:Cp c j i]:Cp (p::c) (j+1) i:=⟨y.h⟩
instance {s:Str}{z:List Str}{c:List (Nat×Str)}:Lk (Yl (List.length (s::z)) c σ) 0:=⟨by unfold Yl;simp;omega⟩
instance {s s':Str}{z:List Str}{c:List (Nat×Str)}:Lk (Yl (List.length (s::s'::z)) c σ) 1:=⟨by unfold Yl;simp;omega⟩
instance {s:Str}{c:List (Nat×Str)}[y:Cp c j i][z:Sl σ i v]:Sl (Yl (List.length [s]) c σ) (j+1) v:=⟨by
 obtain⟨s,h⟩:=y.h
 unfold Yl
 rw[List.getElem?_append_right (by simp),List.getElem?_map]
 simp[h,z.h]⟩
instance {s s':Str}{c:List (Nat×Str)}[y:Cp c j i][z:Sl σ i v]:Sl (Yl (List.length [s,s']) c σ) (j+2) v:=⟨by
 obtain⟨s,h⟩:=y.h
 unfold Yl
 rw[List.getElem?_append_right (by simp),List.getElem?_map]
 simp[h,z.h]⟩
class Ow (OO:List (List Xx))(k:outParam Nat)(C:List Xx):Prop where h:OO[k]?=some C
instance:Ow (C::OO) 0 C:=⟨rfl⟩
instance [y:Ow OO k C]:Ow (D::OO) (k+1) C:=⟨y.h⟩
instance [y:Lk OO k]:Ow (OO.set k C) k C:=⟨by simp[y.h]⟩
instance [y:Ow OO k C][z:Nn j k]:Ow (OO.set j D) k C:=⟨by rw[List.getElem?_set_ne z.h];exact y.h⟩
class Fc (S:SC)(K:PySem.W.Frag)(v:V){α:outParam Type}(r:outParam (Enc α))(a:outParam α):Prop where h:∀x,S.p x->r K x v a
instance [MonoE r]:Fc (S.and (SC.one K r v a)) K v r a:=⟨λ_ s=>s.2⟩
instance (priority:=900)[y:Fc S K v r a]:Fc (S.and T) K v r a:=⟨λx s=>y.h x s.1⟩
class Fo (S:SC)(K:PySem.W.Frag)(v:V){α:outParam Type}(o:outParam (OE α))(a:outParam α)(C:outParam (List Xx)):Prop where h:∀x,S.p x->o K x v a C
instance [MonoO o]:Fo (S.and (SC.oneO K o v a C)) K v o a C:=⟨λ_ s=>s.2⟩
instance (priority:=900)[y:Fo S K v o a C]:Fo (S.and T) K v o a C:=⟨λx s=>y.h x s.1⟩
class Su (S T:SC):Prop where h:∀x,S.p x->T.p x
instance:Su S S:=⟨λ_ s=>s⟩
instance (priority:=900):Su S SC.nil:=⟨λ_ _=>SC.t⟩
instance (priority:=800)[MonoE r][y:Su S T][z:Fc S K v r a]:Su S (T.and (SC.one K r v a)):=⟨λx s=>⟨y.h x s,z.h x s⟩⟩
instance (priority:=800)[MonoO o][y:Su S T][z:Fo S K v o a C]:Su S (T.and (SC.oneO K o v a C)):=⟨λx s=>⟨y.h x s,z.h x s⟩⟩
instance (priority:=700){T':SC}[y:Su S T']:Su (S.and T) T':=⟨λx s=>y.h x s.1⟩
variable (K Er S OO σ te) in
class CB {α:outParam Type}(r:outParam (Enc α))(m:outParam (Rs α)):Prop where h:EvB K Er S OO σ te r m
variable (K Er S OO σ te) in
class CW {α:Type}(r:Enc α)(m:outParam (Rs α)):Prop where h:EvB K Er S OO σ te r m
variable (K Er S OO σ te) in
class CS {α:outParam Type}(r:outParam (Enc α))(m:outParam (Rs α)):Prop where h:EvS K Er S OO σ te r m
variable (K Er S OO σ te) in
class CV {α:Type}(r:Enc α)(m:outParam (Rs α)):Prop where h:EvS K Er S OO σ te r m
variable (K Er S OO σ te) in
class CN {α:outParam Type}(o:outParam (OE α))(m:outParam (Rs α)):Prop where h:Ev K Er S OO OO σ te o m
variable (K Er S OO σ te) in
class CM {α:outParam Type}(o:outParam (OE α))(m:outParam (Rs α)):Prop where h:Ev K Er S OO OO σ te o m
variable (K Er S OO σ te) in
class CO {α:Type}(o:OE α)(m:outParam (Rs α)):Prop where h:Ev K Er S OO OO σ te o m
variable (K Er S OO σ te) in
class CL {α:outParam Type}(r:outParam (Enc α))(m:outParam (Rs (List α))):Prop where h:EvL K Er S OO σ te r m
class CT (K:PySem.W.Frag)(Er:Exc->Hp->Prop)(S:SC)(OO:List (List Xx))(σ:St)(tt:TT)(m:outParam (Rs Bool)):Prop where h:EvT Er S OO σ tt m
class CP (K:PySem.W.Frag)(Er:Exc->Hp->Prop)(S:SC)(OO:List (List Xx))(σ:St)(tt:TO)(m:outParam (Rs (Option Int))):Prop where h:EvP Er S OO σ tt m
variable (K Er S OO σ) in
class CA {α:Type}(t:TA)(r:Enc α)(m:outParam (Rs (List α))):Prop where h:EvA K Er S OO σ t r m
variable (K Er S OO σ) in
class Cw (wi:TI){α:outParam Type}(r:outParam (Enc α))(m:outParam (Rs (List α))):Prop where h:Walk K Er S OO σ wi r m
variable {m m':Rs α}{ml:Rs (List α)}{mi mj:Rs Int}{mb mc:Rs Bool}{ms:Rs Str}{tt tu:TT}
theorem qb [c:CW K Er S OO σ te r m]:EvB K Er S OO σ te r m:=c.h
theorem qB [c:CB K Er S OO σ te r m]:EvB K Er S OO σ te r m:=c.h
theorem qs [c:CV K Er S OO σ te r m]:EvS K Er S OO σ te r m:=c.h
theorem qS [c:CS K Er S OO σ te r m]:EvS K Er S OO σ te r m:=c.h
theorem qn [c:CO K Er S OO σ te o m]:Ev K Er S OO OO σ te o m:=c.h
theorem qN [c:CN K Er S OO σ te o m]:Ev K Er S OO OO σ te o m:=c.h
theorem qM [c:CM K Er S OO σ te o m]:Ev K Er S OO OO σ te o m:=c.h
theorem ql [c:CL K Er S OO σ te r ml]:EvL K Er S OO σ te r ml:=c.h
variable (K) in
theorem qt [c:CT K Er S OO σ tt mb]:EvT Er S OO σ tt mb:=c.h
variable (K) in
theorem qp {tt:TO}{m:Rs (Option Int)}[c:CP K Er S OO σ tt m]:EvP Er S OO σ tt m:=c.h
theorem qa {t:TA}[c:CA K Er S OO σ t r ml]:EvA K Er S OO σ t r ml:=c.h
theorem qw {wi:TI}[c:Cw K Er S OO σ wi r ml]:Walk K Er S OO σ wi r ml:=c.h
-- as wanted
instance [c:CB K Er S OO σ te r m]:CW K Er S OO σ te r m:=⟨c.h⟩
instance (priority:=900){m:Rs Mx}[c:CB K Er S OO σ te rMx m]:CW K Er S OO σ te Xe (m.bind mxI):=⟨YU c.h⟩
instance (priority:=900){m:Rs Mx}[c:CB K Er S OO σ te rMx m]:CW K Er S OO σ te UZ (m.bind mxS):=⟨NQ c.h⟩
instance (priority:=900){m:Rs Mx}[c:CB K Er S OO σ te rMx m]:CW K Er S OO σ te Xy (m.bind mxB):=⟨L7 c.h⟩
instance (priority:=900){m:Rs (Option α)}[c:CB K Er S OO σ te (Bp r) m]:CW K Er S OO σ te r (m.bind Pw):=⟨Pf c.h⟩
instance (priority:=900){m:Rs (Int×Int)}[c:CB K Er S OO σ te (rP2 Xe Xe) m]:CW K Er S OO σ te (rPL Xe) (m.bind λp=>.ok [p.1,p.2]):=⟨KD c.h⟩
instance [FlatE r][c:CW K Er S OO σ te r m]:CV K Er S OO σ te r m:=⟨EvB.sh c.h⟩
instance (priority:=900)[c:CS K Er S OO σ te r m]:CV K Er S OO σ te r m:=⟨c.h⟩
instance (priority:=800)[c:CV K Er S OO σ te Xe mi]:CV K Er S OO σ te rMx (mi.bind λa=>.ok (.i a)):=⟨NJ c.h⟩
instance (priority:=800)[c:CV K Er S OO σ te UZ ms]:CV K Er S OO σ te rMx (ms.bind λa=>.ok (.s a)):=⟨Mg c.h⟩
instance (priority:=800)[c:CV K Er S OO σ te Xy mb]:CV K Er S OO σ te rMx (mb.bind λa=>.ok (.b a)):=⟨Nx c.h⟩
instance [c:CN K Er S OO σ te o m]:CO K Er S OO σ te o m:=⟨c.h⟩
instance (priority:=900)[c:CV K Er S OO σ te r m]:CO K Er S OO σ te (oF r) m:=⟨EvS.ev c.h⟩
instance [c:CN K Er S OO σ te o m]:CM K Er S OO σ te o m:=⟨c.h⟩
instance (priority:=900)[c:CS K Er S OO σ te r m]:CM K Er S OO σ te (oF r) m:=⟨EvS.ev c.h⟩
instance {o:OE α}:CO K Er S OO σ (HK Yq) (oL o) (.ok []):=⟨UV⟩
-- one of the other
instance (priority:=500)[FrzC o r][c:CN K Er S OO σ te o m]:CB K Er S OO σ te r m:=⟨Ev.toB c.h⟩
instance (priority:=600)[FlatE r][c:CB K Er S OO σ te r m]:CS K Er S OO σ te r m:=⟨EvB.sh c.h⟩
instance (priority:=500)[FrzC o r][c:CN K Er S OO σ te o m]:CS K Er S OO σ te r m:=⟨Ev.sh c.h⟩
instance (priority:=700)[c:CS K Er S OO σ te (rV r) ml]:CL K Er S OO σ te r ml:=⟨EvS.ls c.h⟩
instance (priority:=600)[FlatE r][c:CB K Er S OO σ te (rV r) ml]:CL K Er S OO σ te r ml:=⟨EvB.ls c.h⟩
instance (priority:=800)[MonoE r][c:CN K Er S OO σ te (oL (oF r)) ml]:CL K Er S OO σ te r ml:=⟨Ev.ls c.h⟩
-- names
instance [y:Sl σ i v][z:Fc S K v r a][MonoE r]:CB K Er S OO σ (Qb i) r (.ok a):=⟨MF i y.h z.h⟩
instance (priority:=900)[y:Sl σ i v][z:Fo S K v o a C][u:Ow OO k C][FrzC o r]:CB K Er S OO σ (Qb i) r (.ok a):=⟨Mc i k y.h u.h z.h⟩
instance [y:Sl σ i v][z:Fc S K v r a]:CS K Er S OO σ (Qb i) r (.ok a):=⟨NI i y.h z.h⟩
instance {as:List α}[MonoE r][y:Sl σ i v][z:Fo S K v (oL (oF r)) as C][u:Ow OO k C]:CL K Er S OO σ (Qb i) r (.ok as):=⟨MA i k y.h u.h z.h⟩
-- constants
instance {n:Int}:CB K Er S OO σ (tC (.int n)) Xe (.ok n):=⟨N6 n⟩
instance {b:Bool}:CB K Er S OO σ (tC (.bl b)) Xy (.ok b):=⟨Oh b⟩
instance {x:Str}:CB K Er S OO σ (tC (.str x)) UZ (.ok x):=⟨Mm x⟩
-- numbers
section
variable [x':CW K Er S OO σ ta Xe mi][y':CW K Er S OO σ tb Xe mj]
instance:CB K Er S OO σ (tOp (rI0 λi j=>V.int (i+j)) ta tb) Xe (mi.bind λa=>mj.bind λb=>.ok (a+b)):=⟨BS x'.h y'.h⟩
instance:CB K Er S OO σ (tOp (rI0 λi j=>V.int (i-j)) ta tb) Xe (mi.bind λa=>mj.bind λb=>.ok (a-b)):=⟨VS x'.h y'.h⟩
instance:CB K Er S OO σ (tOp (rI Oz λi j=>V.int (i*j)) ta tb) Xe (mi.bind λa=>mj.bind λb=>NG a b):=⟨Qq x'.h y'.h⟩
instance:CB K Er S OO σ (tOp (rI (λx j=>(0:Int)<j) λi j=>V.int (i % j)) ta tb) Xe (mi.bind λa=>mj.bind λb=>OM a b):=⟨N1 x'.h y'.h⟩
instance:CB K Er S OO σ (tOp (rI (λx j=>(0:Int)<j/\j.natAbs.log2<9000) λi j=>V.int (i/j)) ta tb) Xe (mi.bind λa=>mj.bind λb=>RM a b):=⟨NU x'.h y'.h⟩
instance:CB K Er S OO σ (tOp (rI RA λi j=>V.int (i^j.toNat)) ta tb) Xe (mi.bind λa=>mj.bind λb=>Rf a b):=⟨NH x'.h y'.h⟩
instance:CB K Er S OO σ (tOp (rI0 λi j=>V.bl (decide (i<j))) ta tb) Xy (mi.bind λa=>mj.bind λb=>.ok (decide (a<b))):=⟨Kk x'.h y'.h⟩
instance:CB K Er S OO σ (tOp (rI0 λi j=>V.bl (decide (i<=j))) ta tb) Xy (mi.bind λa=>mj.bind λb=>.ok (decide (a<=b))):=⟨O1 x'.h y'.h⟩
instance:CB K Er S OO σ (tOp (rI0 λi j=>V.bl (decide (j<i))) ta tb) Xy (mi.bind λa=>mj.bind λb=>.ok (decide (b<a))):=⟨Lg x'.h y'.h⟩
instance:CB K Er S OO σ (tOp (rI0 λi j=>V.bl (decide (j<=i))) ta tb) Xy (mi.bind λa=>mj.bind λb=>.ok (decide (b<=a))):=⟨O6 x'.h y'.h⟩
instance:CB K Er S OO σ (tCB (λxs H Q=>∃ (i:Int),∃(j:Int),xs=[V.int i,V.int j]/\Q (V.int (if j > i then j else i)) H) (Xv ta (Xv tb Yq))) Xe (mi.bind λa=>mj.bind λb=>.ok (max a b)):=⟨EH x'.h y'.h⟩
instance:CB K Er S OO σ (tCB (λxs H Q=>∃ (i:Int),∃(j:Int),xs=[V.int i,V.int j]/\Q (V.int (if j<i then j else i)) H) (Xv ta (Xv tb Yq))) Xe (mi.bind λa=>mj.bind λb=>.ok (min a b)):=⟨HI x'.h y'.h⟩
instance:Cw K Er S OO σ (ON (Xv ta (Xv tb Yq))) Xe (mi.bind λlo=>mj.bind λn=>Mu lo n):=⟨Dd x'.h y'.h⟩
instance:Cw K Er S OO σ (MN (Xv ta Yq)) Xe (mi.bind λn=>Mu (0:Int) n):=⟨Dh x'.h⟩
instance:CB K Er S OO σ (tUn (rU λi=>V.int (-i)) ta) Xe (mi.bind λa=>.ok (-a)):=⟨VQ x'.h⟩
instance:CB K Er S OO σ (tCB (λxs H Q=>∃ (i:Int),xs=[V.int i]/\Q (V.int (if i<(0:Int) then-i else i)) H) (Xv ta Yq)) Xe (mi.bind λa=>.ok (a.natAbs:Int)):=⟨L9 x'.h⟩
instance:CP K Er S OO σ (Mb ta) (mi.bind λi=>.ok (some i)):=⟨Iy x'.h⟩
instance:CP K Er S OO σ Fz (.ok none):=⟨Ih⟩
end
section
variable [DecidableEq α][Scal r][MonoE r][y':CB K Er S OO σ tb r m'][x':CW K Er S OO σ ta r m]
instance:CB K Er S OO σ (tOp rEq ta tb) Xy (m.bind λa=>m'.bind λb=>.ok (decide (a=b))):=⟨Vm x'.h y'.h⟩
instance:CB K Er S OO σ (tOp rNe ta tb) Xy (m.bind λa=>m'.bind λb=>.ok !decide (a=b)):=⟨GW x'.h y'.h⟩
end
section
variable [DecidableEq α][Scal r][MonoE r][x':CB K Er S OO σ ta r m][y':CW K Er S OO σ tb r m']
instance (priority:=900):CB K Er S OO σ (tOp rEq ta tb) Xy (m.bind λa=>m'.bind λb=>.ok (decide (a=b))):=⟨Vm x'.h y'.h⟩
instance (priority:=900):CB K Er S OO σ (tOp rNe ta tb) Xy (m.bind λa=>m'.bind λb=>.ok !decide (a=b)):=⟨GW x'.h y'.h⟩
end
section
variable {m m':Rs Mx}[x':CB K Er S OO σ ta rMx m][y':CB K Er S OO σ tb rMx m']
instance:CB K Er S OO σ (tOp rEq ta tb) Xy ((m.bind mxI).bind λa=>(m'.bind mxI).bind λb=>.ok (decide (a=b))):=⟨Vm (YU x'.h) (YU y'.h)⟩
instance:CB K Er S OO σ (tOp rNe ta tb) Xy ((m.bind mxI).bind λa=>(m'.bind mxI).bind λb=>.ok !decide (a=b)):=⟨GW (YU x'.h) (YU y'.h)⟩
end
section
variable [DecidableEq α][MonoE r][x':CB K Er S OO σ ta r m][y':CW K Er S OO σ tb r m']
instance:CB K Er S OO σ (tOp (Ra K r) ta tb) Xy (m.bind λa=>m'.bind λb=>.ok (decide (a=b))):=⟨Nw x'.h y'.h⟩
instance:CB K Er S OO σ (tOp (PX K r) ta tb) Xy (m.bind λa=>m'.bind λb=>.ok !decide (a=b)):=⟨VY x'.h y'.h⟩
end
-- truths
section
variable [x':CW K Er S OO σ ta Xy mb][y':CW K Er S OO σ tb Xy mc][u':CT K Er S OO σ tt mb][w':CT K Er S OO σ tu mc]
instance:CT K Er S OO σ (tB ta) mb:=⟨GI x'.h⟩
instance:CT K Er S OO σ (Lc ta) mb:=⟨XN x'.h⟩
instance:CT K Er S OO σ (Rw tt) (mb.bind λb=>.ok !b):=⟨QS u'.h⟩
instance:CT K Er S OO σ (Rc tt tu) (Ms mb mc):=⟨Mk u'.h w'.h⟩
instance:CT K Er S OO σ (tOr tt tu) (orR mb mc):=⟨Zl u'.h w'.h⟩
instance:CB K Er S OO σ (Mt ta) Xy (mb.bind λb=>.ok !b):=⟨Dy x'.h⟩
instance:CB K Er S OO σ (NX ta tb) Xy (Ms mb mc):=⟨YZ x'.h y'.h⟩
instance:CB K Er S OO σ (Sb ta tb) Xy (orR mb mc):=⟨M0 x'.h y'.h⟩
instance:CB K Er S OO σ (tCB (λxs H Q=>(∃(i:Int),xs=[V.int i]/\Q (V.int i) H)∨∃(k:Bool),xs=[V.bl k]/\Q (V.int (if k=true then(1:Int) else(0:Int))) H) (Xv ta Yq)) Xe (mb.bind λb=>.ok (if b=true then(1:Int) else(0:Int))):=⟨VJ x'.h⟩
end
section
variable [u':CT K Er S OO σ tt mb][x':CB K Er S OO σ ta r m][y':CW K Er S OO σ tb r m']
instance:CB K Er S OO σ (tIf tt ta tb) r (mb.bind λb=>if b=true then m else m'):=⟨Pm u'.h x'.h y'.h⟩
end
-- items
section
variable [MonoE r][j':CW K Er S OO σ tb Xe mi]
section
variable [x':CB K Er S OO σ ta (rV r) ml]
instance:CB K Er S OO σ (tOp (B9 K) ta tb) r (ml.bind λas=>mi.bind λi=>atR as i):=⟨Pd x'.h j'.h⟩
end
section
variable [x':CB K Er S OO σ ta (rPL r) ml]
instance:CB K Er S OO σ (tOp (Fj K) ta tb) r (ml.bind λas=>mi.bind λi=>atR as i):=⟨N2 x'.h j'.h⟩
end
section
variable [x':CL K Er S OO σ ta r ml]
instance:CS K Er S OO σ (tOp (B9 K) ta tb) r (ml.bind λas=>mi.bind λi=>atR as i):=⟨O9 x'.h j'.h⟩
instance:CN K Er S OO σ (tOp RT ta tb) (oL (oF r)) (ml.bind λas=>mi.bind λn=>Lp as n):=⟨Pa x'.h j'.h⟩
end
end
section
variable [x':CB K Er S OO σ ta (rV r) ml]
instance:CB K Er S OO σ (tCB (Vf K) (Xv ta Yq)) Xe (ml.bind λas=>.ok (as.length:Int)):=⟨MZ x'.h⟩
end
section
variable [x':CB K Er S OO σ ta (rPL r) ml]
instance:CB K Er S OO σ (tCB (Vf K) (Xv ta Yq)) Xe (ml.bind λas=>.ok (as.length:Int)):=⟨Cb x'.h⟩
end
section
variable {m:Rs (Int×Int)}[x':CB K Er S OO σ ta (rP2 Xe Xe) m]
instance:CB K Er S OO σ (tCB (Vf K) (Xv ta Yq)) Xe ((m.bind λp=>.ok [p.fst,p.snd]).bind λas=>.ok (as.length:Int)):=⟨Cb (KD x'.h)⟩
end
section
variable {m:Rs (α×β)}[x':CB K Er S OO σ ta (rP2 r q) m]
instance:CB K Er S OO σ (tOp (Fj K) ta (tC (V.int (0:Int)))) r (m.bind λp=>.ok p.fst):=⟨MP x'.h⟩
instance:CB K Er S OO σ (tOp (Fj K) ta (tC (V.int (1:Int)))) q (m.bind λp=>.ok p.snd):=⟨Nz x'.h⟩
end
section
variable {m:Rs (α×β)}[y':CS K Er S OO σ ta (rP2 r q) m]
instance:CS K Er S OO σ (tOp (Fj K) ta (tC (V.int (0:Int)))) r (m.bind λp=>.ok p.fst):=⟨MO y'.h⟩
instance:CS K Er S OO σ (tOp (Fj K) ta (tC (V.int (1:Int)))) q (m.bind λp=>.ok p.snd):=⟨MS y'.h⟩
end
-- lists, tuples
section
variable [MonoE r]{t:TA}{ml':Rs (List α)}[x':CL K Er S OO σ ta r ml][y':CL K Er S OO σ tb r ml']{tl th:TO}{pl ph:Rs (Option Int)}[u':CP K Er S OO σ tl pl][w':CP K Er S OO σ th ph]
instance:CN K Er S OO σ (tOp RZ ta tb) (oL (oF r)) (ml.bind λas=>ml'.bind λbs=>Br as bs):=⟨BP x'.h y'.h⟩
instance:CN K Er S OO σ (tSl (Pl K) ta tl th) (oL (oF r)) (ml.bind λas=>pl.bind λlo=>ph.bind λhi=>.ok (Kb as lo hi)):=⟨La x'.h u'.h w'.h⟩
instance:CN K Er S OO σ (tCB (Do K) (Xv ta Yq)) (oL (oF r)) (ml.bind λas=>.ok as):=⟨Nu x'.h⟩
end
section
variable [MonoE r]{tl th:TO}{pl ph:Rs (Option Int)}[z':CB K Er S OO σ ta (rPL r) ml][u':CP K Er S OO σ tl pl][w':CP K Er S OO σ th ph]
instance:CB K Er S OO σ (tSl (P7 K) ta tl th) (rPL r) (ml.bind λas=>pl.bind λlo=>ph.bind λhi=>chk (¬(HT.sIx as.length 0 lo=0/\HT.sIx as.length as.length hi=as.length)) (.ok (Kb as lo hi))):=⟨Ym z'.h u'.h w'.h⟩
end
instance [MonoE r]:CA K Er S OO σ Yq r (.ok []):=⟨Nq⟩
instance [MonoE r]{t:TA}[x':CV K Er S OO σ ta r m][y':CA K Er S OO σ t r ml]:CA K Er S OO σ (Xv ta t) r (m.bind λa=>ml.bind λas=>.ok (a::as)):=⟨Yo x'.h y'.h⟩
instance (priority:=1100)[MonoE r]{t:TA}[x':CA K Er S OO σ t r ml]:CO K Er S OO σ (HK t) (oL (oF r)) (ml.bind λas=>chk (as.length<=sizeLine) (.ok as)):=⟨Vh x'.h⟩
instance (priority:=1100)[MonoE r]{t:TA}[x':CA K Er S OO σ t r ml]:CW K Er S OO σ (HK t) (rV r) (ml.bind λas=>chk (as.length<=sizeLine) (.ok as)):=⟨Ev.toB (Vh x'.h)⟩
section
variable {t:TA}[MonoE r][x':CS K Er S OO σ ta r m][y':CA K Er S OO σ t r ml]
instance:CN K Er S OO σ (HK (Xv ta t)) (oL (oF r)) ((m.bind λa=>ml.bind λas=>.ok (a::as)).bind λas=>chk (as.length<=sizeLine) (.ok as)):=⟨Vh (Yo x'.h y'.h)⟩
end
section
variable {m1:Rs β}[MonoE r][MonoE q][x':CS K Er S OO σ ta r m][y':CS K Er S OO σ tb q m1]
instance:CS K Er S OO σ (N9 (Xv ta (Xv tb Yq))) (rP2 r q) (m.bind λa=>m1.bind λb=>.ok (a,b)):=⟨Y9 x'.h y'.h⟩
end
instance [MonoE r][x':CS K Er S OO σ ta (rV r) ml]:Cw K Er S OO σ (Gz K ta) r ml:=⟨Ze x'.h⟩
instance [MonoE r][x':CS K Er S OO σ ta (rPL r) ml]:Cw K Er S OO σ (PU K ta) r ml:=⟨Dt x'.h⟩
-- calls
section
variable {α1 α2 α3 α4:Type}{r1:Enc α1}{r2:Enc α2}{r3:Enc α3}{r4:Enc α4}{m1:Rs α1}{m2:Rs α2}{m3:Rs α3}{m4:Rs α4}{td:TE}{o:OE ρ}[FlatO o][MonoE r1][MonoE r2][MonoE r3]{f1:α1->Rs ρ}{f2:α1->α2->Rs ρ}{f3:α1->α2->α3->Rs ρ}{f4:α1->α2->α3->α4->Rs ρ}[x1:CW K Er S OO σ ta r1 m1][x2:CW K Er S OO σ tb r2 m2][x3:CW K Er S OO σ tc r3 m3][x4:CW K Er S OO σ td r4 m4]
instance:CN K Er S OO σ (Q0 (sp1 r1 o f1 K) [] E0 (Xv ta Yq)) o (m1.bind λa=>noE (f1 a)):=⟨I0 (o:=o) (f:=f1) x1.h⟩
instance:CN K Er S OO σ (Q0 (sp2 r1 r2 o f2 K) [] E0 (Xv ta (Xv tb Yq))) o (m1.bind λa=>m2.bind λb=>noE (f2 a b)):=⟨Cz (o:=o) (f:=f2) x1.h x2.h⟩
instance:CN K Er S OO σ (Q0 (sp3 r1 r2 r3 o f3 K) [] E0 (Xv ta (Xv tb (Xv tc Yq)))) o (m1.bind λa=>m2.bind λb=>m3.bind λc=>noE (f3 a b c)):=⟨ID (o:=o) (f:=f3) x1.h x2.h x3.h⟩
instance:CN K Er S OO σ (Q0 (sp4 r1 r2 r3 r4 o f4 K) [] E0 (Xv ta (Xv tb (Xv tc (Xv td Yq))))) o (m1.bind λa=>m2.bind λb=>m3.bind λc=>m4.bind λd=>noE (f4 a b c d)):=⟨HW (o:=o) (f:=f4) x1.h x2.h x3.h x4.h⟩
end
end
section
variable {α β γ δ ρ ι κ κ2:Type}{K:PySem.W.Frag}{Er:Exc->Hp->Prop}{S:SC}{OO:List (List Xx)}{σ:St}{u t tb:TS}{Fd:Ends->β->Hp->Prop}[fd:FdOk Fd]{o:OE ρ}{wi:TI}{g:TG}{r:Enc α}
noncomputable abbrev jn (OO:List (List Xx))(σ:St)(S:SC)(oo:List (List Xx)->ι->List (List Xx))(ss:St->ι->St)(nf:SC->γ->ι->SC):Jn γ ι:=⟨oo OO,ss σ,nf S⟩
variable (oo:List (List Xx)->ι->List (List Xx))(ss:St->ι->St)(nf:SC->γ->ι->SC)
theorem ZR {m:Rs γ}{f:γ->Rs β}(hb:Sv Er S OO σ t (FNd (jn OO σ S oo ss nf)) m)(hr:∀g x,Sv Er (nf S g x) (oo OO x) (ss σ x) u Fd (f g)):Sv Er S OO σ (YX t u) Fd (m.bind f):=Mh hb hr
theorem LU {c:TT}{mc:γ->Rs Bool}{body:γ->Rs γ}{f:γ->Rs β}(n:Nat)(x0:ι)(g0:γ)(h1:OO=oo OO x0)(h2:σ=ss σ x0)(h3:∀h,S.p h->(nf S g0 x0).p h)(hc:∀g x,EvT Er (nf S g x) (oo OO x) (ss σ x) c (mc g))(hb:∀g x,Sv Er (nf S g x) (oo OO x) (ss σ x) tb (FNd (jn OO σ S oo ss nf)) (body g))(hr:∀g x,Sv Er (nf S g x) (oo OO x) (ss σ x) u Fd (f g)):Sv Er S OO σ (YX (HB c tb) u) Fd ((V9 n g0 mc body).bind f):=HY (jn OO σ S oo ss nf) n x0 g0 h1 h2 h3 hc hb hr
variable (K)
theorem Fh {m:Rs (List α)}{body:γ->α->Rs γ}{f:γ->Rs β}(T:∀OO,Tgt K OO g r κ)(x0:ι)(g0:γ)(he:Walk K Er S OO σ wi r m)(h1:OO=oo OO x0)(h2:σ=ss σ x0)(h3:∀h,S.p h->(nf S g0 x0).p h)(hb:∀g x a v,Sv Er ((T (oo OO x)).sc a v (nf S g x)) (oo OO x) ((T (oo OO x)).set v (ss σ x)) tb (FNd (jn OO σ S oo ss nf)) (body g a))(hr:∀g x,Sv Er (nf S g x) (oo OO x) (ss σ x) u Fd (f g)):Sv Er S OO σ (YX (By wi g tb) u) Fd (m.bind λas=>(forN as g0 body).bind f):=OV (jn OO σ S oo ss nf) T x0 g0 he h1 h2 h3 hb hr
theorem NB {m:Rs (List α)}{body:γ->α->Rs (Ctl ρ γ)}{f:γ->Rs ρ}(T:∀OO,Tgt K OO g r κ)(x0:ι)(g0:γ)(he:Walk K Er S OO σ wi r m)(h1:OO=oo OO x0)(h2:σ=ss σ x0)(h3:∀h,S.p h->(nf S g0 x0).p h)(hb:∀g x a v,Sv Er ((T (oo OO x)).sc a v (nf S g x)) (oo OO x) ((T (oo OO x)).set v (ss σ x)) tb (FCd K o (jn OO σ S oo ss nf)) (body g a))(hr:∀g x,Sv Er (nf S g x) (oo OO x) (ss σ x) u (FTd K o) (f g)):Sv Er S OO σ (YX (By wi g tb) u) (FTd K o) (m.bind λas=>(forC as g0 body).bind (UY f)):=L8 (jn OO σ S oo ss nf) T x0 g0 he h1 h2 h3 hb hr
theorem O2 {J2:Jn δ κ2}{m:Rs (List α)}{body:γ->α->Rs (Ctl ρ γ)}{f:γ->Rs (Ctl ρ δ)}(T:∀OO,Tgt K OO g r κ)(x0:ι)(g0:γ)(he:Walk K Er S OO σ wi r m)(h1:OO=oo OO x0)(h2:σ=ss σ x0)(h3:∀h,S.p h->(nf S g0 x0).p h)(hb:∀g x a v,Sv Er ((T (oo OO x)).sc a v (nf S g x)) (oo OO x) ((T (oo OO x)).set v (ss σ x)) tb (FCd K o (jn OO σ S oo ss nf)) (body g a))(hr:∀g x,Sv Er (nf S g x) (oo OO x) (ss σ x) u (FCd K o J2) (f g)):Sv Er S OO σ (YX (By wi g tb) u) (FCd K o J2) (m.bind λas=>(forC as g0 body).bind (U7 f)):=Iv (jn OO σ S oo ss nf) T x0 g0 he h1 h2 h3 hb hr
theorem Py {ti:TE}[MonoE r]{mi:Rs Int}{body:γ->α->Rs γ}{f:γ->Rs β}{v:V}{as:List (List α)}{C:List Xx}{n k:Nat}[y:Sl σ n v][z:Fo S K v (oL (oL (oF r))) as C][q:Ow OO k C](hi:EvB K Er S OO σ ti Xe mi)(T:∀OO,Tgt K OO g r κ)(x0:ι)(g0:γ)(hC:∀x,(oo OO x)[k]?=some C)(h1:OO=oo OO x0)(h2:σ=ss σ x0)(h3:∀h,S.p h->(nf S g0 x0).p h)
  (hb:∀g x a v,Sv Er ((T (oo OO x)).sc a v (nf S g x)) (oo OO x) ((T (oo OO x)).set v (ss σ x)) tb (FNd (jn OO σ S oo ss nf)) (body g a))(hr:∀g x,Sv Er (nf S g x) (oo OO x) (ss σ x) u Fd (f g)):Sv Er S OO σ (YX (By (Gz K (tOp (B9 K) (Qb n) ti)) g tb) u) Fd (mi.bind λi=>(atR as i).bind λrow=>(forN row g0 body).bind f):=Ib n k y.h q.h z.h hi (jn OO σ S oo ss nf) T x0 g0 hC h1 h2 h3 hb hr
theorem Ml {kf:Nat}{Cf:List Xx}{m:Rs (Ctl ρ γ)}{f:γ->Rs ρ}(hb:Sv Er S OO σ t (M6 K o kf Cf (jn OO σ S oo ss nf)) m)(hr:∀g x,Sv Er (nf S g x) (oo OO x) (ss σ x) u (C0 K o kf Cf) (f g)):Sv Er S OO σ (YX t u) (C0 K o kf Cf) (m.bind (UY f)):=Hf hb hr
end
section
variable {α β γ δ ρ:Type}(K:PySem.W.Frag){Er:Exc->Hp->Prop}{S:SC}{OO OO':List (List Xx)}{σ:St}{u:TS}{Fd:Ends->β->Hp->Prop}[fd:FdOk Fd]{o:OE α}{r:Enc α}{te ta:TE}{i k:Nat}{m:Rs α}{f:α->Rs β}{v:V}{as:List α}{C:List Xx}
theorem Yi [MonoE r](he:EvS K Er S OO σ te r m)(hr:∀a v,Sv Er (S.add K r v a) OO (σ.set i (some v)) u Fd (f a)):Sv Er S OO σ (YX (Dq te (Yz i)) u) Fd (m.bind f):=Pq i he hr
theorem Y6 [MonoO o](k:Nat)[y:Lk OO k](he:Ev K Er S OO OO σ te o m)(hr:∀a v C,Sv Er (S.addO K o v a C) (OO.set k C) (σ.set i (some v)) u Fd (f a)):Sv Er S OO σ (YX (Dq te (Yz i)) u) Fd (m.bind f):=No i k he y.h hr
variable {K} in
theorem JK {a:α}[y:Sl σ i v][z:Fo S K v o a C][q:Ow OO k C]:Ev K Er S OO (OO.set k []) σ (Qb i) o (.ok a):=Nr i k y.h q.h z.h
theorem EZ {f:List α->Rs β}[MonoO o][y:Sl σ i v][z:Fo S K v (oL o) as C](he:Ev K Er S OO OO' σ ta o m)[q:Ow OO k C][q':Ow OO' k C](hr:∀zs C',Sv Er (S.addO K (oL o) v zs C') (OO'.set k C') σ u Fd (f zs)):Sv Er S OO σ (YX (Jv (tBM K "list" Qd (Qb i) (Xv ta Yq))) u) Fd (m.bind λa=>chk (as.length<sizeLine) (f (as++[a]))):=OD i k y.h q.h q'.h z.h he λa C'=>hr _ C'
theorem Ss {m:Rs (List α)}{f:List α->Rs β}[MonoO o][y:Sl σ i v][z:Fo S K v (oL o) as C](he:Ev K Er S OO OO' σ ta (oL o) m)[q:Ow OO k C][q':Ow OO' k C](hr:∀zs C',Sv Er (S.addO K (oL o) v zs C') (OO'.set k C') σ u Fd (f zs)):Sv Er S OO σ (YX (Jv (tBM K "list" FN (Qb i) (Xv ta Yq))) u) Fd (m.bind λbs=>chk (as.length+bs.length<=sizeLine) (f (as++bs))):=Pt i k y.h q.h q'.h z.h he λa C'=>hr _ C'
theorem O7 {f:List α->Rs β}{tl:TE}[MonoO o](k:Nat)(hte:∀(H:Hp) (Q:VK),W OO H->S.p (hid H OO)->Q v H->tl σ H Q)(hk:OO[k]?=some C)(hk':OO'[k]?=some C)(h:∀x,S.p x->oL o K x v as C)(he:Ev K Er S OO OO' σ ta o m)(hr:∀zs C',Sv Er (S.addO K (oL o) v zs C') (OO'.set k C') σ u Fd (f zs)):Sv Er S OO σ (YX (Jv (tBM K "list" Qd tl (Xv ta Yq))) u) Fd (m.bind λa=>chk (as.length<sizeLine) (f (as++[a]))):=M2 k hte hk hk' h he λa C'=>hr _ C'
theorem MU {f:List (List Int)->Rs β}{tl:TE}{as:List (List Int)}(j k:Nat)(n:Int)(hte:∀(H:Hp) (Q:VK),W OO H->S.p (hid H OO)->Q v H->tl σ H Q)(hjl:j<σ.length)(hk:OO[k]?=some C)(h:∀x,S.p x->oL (oL (oF Xe)) K x v as C)(hr:∀zs C' w,Sv Er (S.addO K (oL (oL (oF Xe))) v zs C') (OO.set k C') (σ.set j w) u Fd (f zs)):Sv Er S OO σ (YX (By (Gz K tl) (Yz j) (YX (Jv (tBM K "list" Qd (Qb j) (Xv (tC (.int n)) Yq))) UP)) u) Fd (chk (∀row∈as,row.length<sizeLine) (f (as.map (· ++[n])))):=ER j k n hte hjl hk h λC' w=>hr _ C' w
theorem Sj {ti:TE}{mi:Rs Int}{x:Nat}[MonoE r]{f:α->List α->Rs β}[y:Sl σ i v][z:Fo S K v (oL (oF r)) as C][q:Ow OO k C](hi:EvB K Er S OO σ ti Xe mi)(hr:∀a bs y C',Sv Er ((S.add K r y a).addO K (oL (oF r)) v bs C') (OO.set k C') (σ.set x (some y)) u Fd (f a bs)):Sv Er S OO σ (YX (Dq (tBM K "list" Cu (Qb i) (Xv ti Yq)) (Yz x)) u) Fd (mi.bind λj=>(IL as j).bind λp=>f p.1 p.2):=Oi x i k y.h q.h z.h hi λa bs y C'=>hr a bs y C'
theorem Vl {ti:TE}{mi:Rs Int}{f:List α->Rs β}[MonoO o][y:Sl σ i v][z:Fo S K v (oL o) as C][q:Ow OO k C](he:Ev K Er S OO OO σ ta o m)(hi:∀D,EvB K Er S (D::OO) σ ti Xe mi)(hr:∀bs C',Sv Er (S.addO K (oL o) v bs C') (OO.set k C') σ u Fd (f bs)):Sv Er S OO σ (YX (Dq ta (PL (Qb i) ti Ij)) u) Fd (m.bind λa=>mi.bind λj=>(Vw as j a).bind f):=Ix i k y.h q.h z.h he hi hr
theorem Hg {tv ty:TE}[MonoE r]{mk:Rs Int}{f:List (Int×α)->Rs β}{d:List (Int×α)}[y:Sl σ i v][z:Fo S K v (oD r) d C][q:Ow OO k C](hv:EvS K Er S OO σ tv r m)(hy:EvB K Er S OO σ ty Xe mk)(hr:∀d' C',Sv Er (S.addO K (oD r) v d' C') (OO.set k C') σ u Fd (f d')):Sv Er S OO σ (YX (Nh (Qb i) ty tv) u) Fd (m.bind λa=>mk.bind λn=>chk (d.length<sizeLine) (f (UW d n a))):=NK i k y.h q.h z.h hv hy hr
variable {γ' ι:Type}{J:Jn γ ι}
theorem YC {J:Jn γ ι}(x:ι)(g:γ)(h1:OO=J.oo x)(h2:σ=J.ss x)[h3:Su S (J.sc g x)]:Sv Er S OO σ UP (FNd J) (.ok g):=Pb x g h1 h2 h3.h
end
theorem Jr {N:List Str}{vs:List V}{j:Nat}(h:N.length=j+vs.length):Uz N vs=vs.map some++List.replicate j none:=by
 unfold Uz
 rw[show N.length-vs.length=j by omega]
section
variable {ρ:Type}{P:Program}{w:World}{K:PySem.W.Frag}{mg:Str->Option Value}{base:Heap}{x:Str}{st:Stmt}{N ps:List Str}{k:Nat}{o:OE ρ}[MonoO o]
noncomputable abbrev Rm (k:Nat)(x:Str)(st:Stmt)(s:Shared)(f:Addr)(cdv:Value)(A:Around):Prop:=Room k (A.deeper (envOfC x (Xj st) s.heap.objs.size f cdv))
noncomputable abbrev Au (x:Str)(st:Stmt)(s:Shared)(f:Addr)(cdv:Value)(A:Around):Nat:=(A.deeper (envOfC x (Xj st) s.heap.objs.size f cdv)).units
theorem go1 {α0:Type}{r0:Enc α0}[MonoE r0]{m:α0->Rs ρ}(D:Def K mg x st ps)(S:FnScope N ps (Xj st))(j n:Nat)(hN:N.length=j+1)(hp:ps.length=1)
  (hb:∀{f:Addr}{cdv:Value}{A:Around}{outer:List Env}{s:Shared}{H:Hp}{E:XK},Rm k x st s f cdv A->Au x st s f cdv A+8<cLine->Au x st s f cdv A+1<cLine->∃t,PSs (Bs CX0 P w K mg base N x (Xj st) f cdv A outer s H E).nox (X6 st) t/\∀v0 a0,Sv (λ_ _=>False) (SC.add SC.nil K r0 v0 a0) (List.replicate n []) (some v0::List.replicate j none) t (FTd K o) (m a0)):Fn P w K mg base (k+1) x ps (sp1 r0 o m K):=by
 refine US D S (λvs H Q E h=>?_) (λf cdv A outer s H vs Q E hr h=>?_)
 ·obtain⟨v0,a0,b,rfl,_⟩:=h;exact hp.symm
 obtain⟨v0,a0,b,rfl,h0,hm,q⟩:=h
 obtain⟨t,hx,hy⟩:=hb hr (hu8 hr) (Uu hr)
 refine⟨t,hx,?_⟩
 rw[Jr hN]
 exact E6 (S:=(SC.add SC.nil K r0 v0 a0)) (σ:=some v0::List.replicate j none) n (hy v0 a0) (SC.i SC.t h0) hm q rfl
theorem go2 {α0 α1:Type}{r0:Enc α0}[MonoE r0]{r1:Enc α1}[MonoE r1]{m:α0->α1->Rs ρ}(D:Def K mg x st ps)(S:FnScope N ps (Xj st))(j n:Nat)(hN:N.length=j+2)(hp:ps.length=2)
  (hb:∀{f:Addr}{cdv:Value}{A:Around}{outer:List Env}{s:Shared}{H:Hp}{E:XK},Rm k x st s f cdv A->Au x st s f cdv A+8<cLine->Au x st s f cdv A+1<cLine->∃t,PSs (Bs CX0 P w K mg base N x (Xj st) f cdv A outer s H E).nox (X6 st) t/\∀v0 v1 a0 a1,Sv (λ_ _=>False) (SC.add (SC.add SC.nil K r0 v0 a0) K r1 v1 a1) (List.replicate n []) (some v0::some v1::List.replicate j none) t (FTd K o) (m a0 a1)):Fn P w K mg base (k+1) x ps (sp2 r0 r1 o m K):=by
 refine US D S (λvs H Q E h=>?_) (λf cdv A outer s H vs Q E hr h=>?_)
 ·obtain⟨v0,v1,a0,a1,b,rfl,_⟩:=h;exact hp.symm
 obtain⟨v0,v1,a0,a1,b,rfl,h0,h1,hm,q⟩:=h
 obtain⟨t,hx,hy⟩:=hb hr (hu8 hr) (Uu hr)
 refine⟨t,hx,?_⟩
 rw[Jr hN]
 exact E6 (S:=(SC.add (SC.add SC.nil K r0 v0 a0) K r1 v1 a1)) (σ:=some v0::some v1::List.replicate j none) n (hy v0 v1 a0 a1) (SC.i (SC.i SC.t h0) h1) hm q rfl
theorem go3 {α0 α1 α2:Type}{r0:Enc α0}[MonoE r0]{r1:Enc α1}[MonoE r1]{r2:Enc α2}[MonoE r2]{m:α0->α1->α2->Rs ρ}(D:Def K mg x st ps)(S:FnScope N ps (Xj st))(j n:Nat)(hN:N.length=j+3)(hp:ps.length=3)
  (hb:∀{f:Addr}{cdv:Value}{A:Around}{outer:List Env}{s:Shared}{H:Hp}{E:XK},Rm k x st s f cdv A->Au x st s f cdv A+8<cLine->Au x st s f cdv A+1<cLine->∃t,PSs (Bs CX0 P w K mg base N x (Xj st) f cdv A outer s H E).nox (X6 st) t/\∀v0 v1 v2 a0 a1 a2,Sv (λ_ _=>False) (SC.add (SC.add (SC.add SC.nil K r0 v0 a0) K r1 v1 a1) K r2 v2 a2) (List.replicate n []) (some v0::some v1::some v2::List.replicate j none) t (FTd K o) (m a0 a1 a2)):Fn P w K mg base (k+1) x ps (sp3 r0 r1 r2 o m K):=by
 refine US D S (λvs H Q E h=>?_) (λf cdv A outer s H vs Q E hr h=>?_)
 ·obtain⟨v0,v1,v2,a0,a1,a2,b,rfl,_⟩:=h;exact hp.symm
 obtain⟨v0,v1,v2,a0,a1,a2,b,rfl,h0,h1,h2,hm,q⟩:=h
 obtain⟨t,hx,hy⟩:=hb hr (hu8 hr) (Uu hr)
 refine⟨t,hx,?_⟩
 rw[Jr hN]
 exact E6 (S:=(SC.add (SC.add (SC.add SC.nil K r0 v0 a0) K r1 v1 a1) K r2 v2 a2)) (σ:=some v0::some v1::some v2::List.replicate j none) n (hy v0 v1 v2 a0 a1 a2) (SC.i (SC.i (SC.i SC.t h0) h1) h2) hm q rfl
theorem go4 {α0 α1 α2 α3:Type}{r0:Enc α0}[MonoE r0]{r1:Enc α1}[MonoE r1]{r2:Enc α2}[MonoE r2]{r3:Enc α3}[MonoE r3]{m:α0->α1->α2->α3->Rs ρ}(D:Def K mg x st ps)(S:FnScope N ps (Xj st))(j n:Nat)(hN:N.length=j+4)(hp:ps.length=4)
  (hb:∀{f:Addr}{cdv:Value}{A:Around}{outer:List Env}{s:Shared}{H:Hp}{E:XK},Rm k x st s f cdv A->Au x st s f cdv A+8<cLine->Au x st s f cdv A+1<cLine->∃t,PSs (Bs CX0 P w K mg base N x (Xj st) f cdv A outer s H E).nox (X6 st) t/\∀v0 v1 v2 v3 a0 a1 a2 a3,Sv (λ_ _=>False) (SC.add (SC.add (SC.add (SC.add SC.nil K r0 v0 a0) K r1 v1 a1) K r2 v2 a2) K r3 v3 a3) (List.replicate n []) (some v0::some v1::some v2::some v3::List.replicate j none) t (FTd K o) (m a0 a1 a2 a3)):Fn P w K mg base (k+1) x ps (sp4 r0 r1 r2 r3 o m K):=by
 refine US D S (λvs H Q E h=>?_) (λf cdv A outer s H vs Q E hr h=>?_)
 ·obtain⟨v0,v1,v2,v3,a0,a1,a2,a3,b,rfl,_⟩:=h;exact hp.symm
 obtain⟨v0,v1,v2,v3,a0,a1,a2,a3,b,rfl,h0,h1,h2,h3,hm,q⟩:=h
 obtain⟨t,hx,hy⟩:=hb hr (hu8 hr) (Uu hr)
 refine⟨t,hx,?_⟩
 rw[Jr hN]
 exact E6 (S:=(SC.add (SC.add (SC.add (SC.add SC.nil K r0 v0 a0) K r1 v1 a1) K r2 v2 a2) K r3 v3 a3)) (σ:=some v0::some v1::some v2::some v3::List.replicate j none) n (hy v0 v1 v2 v3 a0 a1 a2 a3) (SC.i (SC.i (SC.i (SC.i SC.t h0) h1) h2) h3) hm q rfl
theorem goL {f:Addr}{fd:FuncData}{α0:Type}{r0:Enc α0}[MonoE r0]{m:α0->Rs ρ}(F:Fun K x x st f fd)(S:FnScope N ps (Xj st))(j n:Nat)(hN:N.length=j+1)(hp:ps.length=1)
  (hb:∀{cdv:Value}{A:Around}{outer:List Env}{s:Shared}{H:Hp}{E:XK},Rm k x st s f cdv A->Au x st s f cdv A+8<cLine->Au x st s f cdv A+1<cLine->∃t,PSs (Bs CX0 P w K mg base N x (Xj st) f cdv A outer s H E).nox (X6 st) t/\∀v0 a0,Sv (λ_ _=>False) (SC.add SC.nil K r0 v0 a0) (List.replicate n []) (some v0::List.replicate j none) t (FTd K o) (m a0)):FnOk P w K mg base CX0 (k+1) f fd ps (sp1 r0 o m K):=by
 refine F.ok S (λvs H Q E h=>?_) (λcdv A outer s H vs Q E hr h=>?_)
 ·obtain⟨v0,a0,b,rfl,_⟩:=h;exact hp.symm
 obtain⟨v0,a0,b,rfl,h0,hm,q⟩:=h
 obtain⟨t,hx,hy⟩:=hb hr (hu8 hr) (Uu hr)
 refine⟨t,hx,?_⟩
 rw[Jr hN]
 exact E6 (S:=SC.add SC.nil K r0 v0 a0) (σ:=some v0::List.replicate j none) n (hy v0 a0) (SC.i SC.t h0) hm q rfl
end
end L2
set_option synthInstance.maxSize 2000
set_option synthInstance.maxHeartbeats 400000
namespace My
open PySem L2
noncomputable def top (i:Nat):Stmt:=PySem.Challenge.pw_plait_k61_turns_and_curls.main.body.getD i (.Pass ⟨0,0,0,0⟩)
noncomputable abbrev Z0:Stmt:=top 6
noncomputable abbrev V7:Stmt:=top 7
noncomputable abbrev VG:Stmt:=top 9
noncomputable abbrev ZQ:Stmt:=top 10
noncomputable abbrev Di:Stmt:=top 12
noncomputable abbrev UN:Stmt:=top 13
noncomputable abbrev UQ:Stmt:=top 14
noncomputable abbrev VW:Stmt:=top 15
noncomputable abbrev Jd:Stmt:=top 16
noncomputable abbrev Qf:Stmt:=top 17
noncomputable abbrev Zt:Stmt:=top 18
noncomputable abbrev Uh:Stmt:=top 19
noncomputable abbrev Q6:Stmt:=top 20
noncomputable abbrev Z4:Stmt:=top 21
noncomputable abbrev Jb:Stmt:=top 22
noncomputable abbrev QA:Stmt:=top 23
noncomputable abbrev JT:Stmt:=top 24
noncomputable abbrev Ho:Stmt:=top 25
noncomputable abbrev Y7:Stmt:=top 26
noncomputable abbrev ZT:Stmt:=top 27
noncomputable abbrev Y2:Stmt:=top 28
noncomputable abbrev YK:Stmt:=top 29
noncomputable abbrev K9:Stmt:=top 30
noncomputable abbrev B3:Stmt:=top 31
noncomputable abbrev K3:Stmt:=top 32
noncomputable abbrev YY:Stmt:=top 33
noncomputable abbrev VE:Stmt:=top 34
noncomputable abbrev Hv:Stmt:=top 36
noncomputable abbrev Mp:Stmt:=top 37
noncomputable abbrev Mf:Stmt:=top 38
noncomputable abbrev Ky:Stmt:=top 39
noncomputable abbrev YV:Stmt:=top 40
noncomputable abbrev Kx:Stmt:=top 41
noncomputable abbrev FW:Stmt:=top 42
noncomputable abbrev J4:Stmt:=top 43
noncomputable abbrev QG:Stmt:=top 44
noncomputable abbrev KU:Stmt:=top 45
noncomputable abbrev VZ:Stmt:=top 46
noncomputable abbrev PK:Stmt:=top 47
noncomputable abbrev M4:Stmt:=top 48
noncomputable abbrev Ed:Stmt:=top 49
noncomputable abbrev I9:Stmt:=top 50
noncomputable abbrev L4:Stmt:=top 51
noncomputable abbrev BF:Stmt:=top 52
noncomputable abbrev DE:Stmt:=top 53
noncomputable abbrev JN:Stmt:=top 54
noncomputable abbrev Qc:Stmt:=top 55
noncomputable abbrev Ga:Stmt:=top 56
noncomputable abbrev KS:Stmt:=top 57
noncomputable def BT:Scope:={kind:=PySem.ScopeKind.function,names:=[(PySem.Str.ofString ".0",PySem.NameKind.local),(PySem.Str.ofString "_law_walk",PySem.NameKind.local),(PySem.Str.ofString "_law_far",PySem.NameKind.free)],isGenerator:=false,isCoroutine:=false,more:=[]:PySem.Scope}
structure Blt (mg:Str->Option Value):Prop where
 b_abs:mg "abs" =none
 b_all:mg "all" =none
 b_bool:mg "bool" =none
 b_dict:mg "dict" =none
 b_int:mg "int" =none
 b_isinstance:mg "isinstance" =none
 b_len:mg "len" =none
 b_list:mg "list" =none
 b_max:mg "max" =none
 b_min:mg "min" =none
 b_range:mg "range" =none
 b_set:mg "set" =none
 b_sorted:mg "sorted" =none
 b_tuple:mg "tuple" =none
 c_MOST_CROSSINGS:∃u,mg "MOST_CROSSINGS" =some u/\XW (.int 40) u
theorem GP:FnScope ["drawing"] ["drawing"] (Xj Z0):=⟨rfl,rfl,rfl,by decide+kernel,rfl,by decide+kernel,by decide+kernel⟩
noncomputable def Jc:{m:((List (List Int))×(List (Int×Int)))->Rs (List Int) // ∀{P:Program}{w:World}{K:PySem.W.Frag}{mg:Str->Option Value}{base:Heap} (D:Def K mg "crossings" Z0 ["drawing"]) (Z:Blt mg),Fn P w K mg base 1 "crossings" ["drawing"] (sp1 (rP2 (rV (rV Xe)) (rV (rP2 Xe Xe))) (oL (oF Xe)) m K)}:=⟨_, @λP w K mg base D Z=>go1 D GP 0 0 rfl rfl λhr hu hu1=>⟨_,(Xb (Xr (Zn (sc:=(Xj Z0)) (N0:=["drawing"]) (tns:=["entry"]) (caps:=[]) rfl (XD (K:=K) rfl (Xh (Xg K rfl) (pv 0) Xc (λ_ _=>rfl))) (Ys (by decide)) (λcl C s H ex E=>⟨Xw (i:=0) (show List.Nodup (["entry"]:List Str) by decide+kernel) rfl (Or.inl rfl),YW,(Xh (Xg K rfl) (pv 0) Xc (λ_ _=>rfl))⟩)))
  Xf),λv_0 a_0=>(Xt (YT (λ_=>tg1 0) qw (λC2 a3 v4=>qM)))⟩⟩
noncomputable def UD:=Jc.1
noncomputable abbrev V0 (P:Program)(w:World)(K:PySem.W.Frag)(mg:Str->Option Value)(base:Heap):Prop:=Fn P w K mg base 1 "crossings" ["drawing"] (sp1 (rP2 (rV (rV Xe)) (rV (rP2 Xe Xe))) (oL (oF Xe)) UD K)
theorem U4:FnScope ["drawing","crossing","entry"] ["drawing","crossing"] (Xj V7):=⟨rfl,rfl,rfl,by decide+kernel,rfl,by decide+kernel,by decide+kernel⟩
noncomputable def Gs:{m:((List (List Int))×(List (Int×Int)))->Int->Rs Int // ∀{P:Program}{w:World}{K:PySem.W.Frag}{mg:Str->Option Value}{base:Heap} (D:Def K mg "sign_of" V7 ["drawing","crossing"]) (Z:Blt mg),Fn P w K mg base 1 "sign_of" ["drawing","crossing"] (sp2 (rP2 (rV (rV Xe)) (rV (rP2 Xe Xe))) Xe (oF Xe) m K)}:=⟨_, @λP w K mg base D Z=>go2 D U4 1 0 rfl rfl λhr hu hu1=>⟨_,(Xb (Yw PassesOwn.never rfl (XD (K:=K) rfl (Xh (Xg K rfl) (pv 0) Xc (λ_ _=>rfl))) (Xw (i:=2) U4.nd rfl (Or.inl rfl))
   (Xb (XM (Xq Ya (Xh (Xg K rfl) (pv 2) Xc (λ_ _=>rfl)) (pv 1) (Xs _))
    (Xb (Xr (Xh (Xg K rfl) (pv 2) Xc (λ_ _=>rfl)))
    Xf)
    Xf)
   Xf))
  (Xb DL
  Xf)),λv_0 v_1 a_0 a_1=>(NB K (λO (x2:Option V)=>[]) (λs x2=>[some v_0,some v_1,x2]) (λS (g3:Unit) x2=>S) (λ_=>tg1 2) ((none)) () qw rfl rfl (λ_ s=>s) (λg4 x5 a6 v7=>(VV (qt K) (Xt qM) (Dp (YC ((some v7)) () rfl rfl)))) λg15 x16=>Ps)⟩⟩
noncomputable def Hi:=Gs.1
noncomputable abbrev UF (P:Program)(w:World)(K:PySem.W.Frag)(mg:Str->Option Value)(base:Heap):Prop:=Fn P w K mg base 1 "sign_of" ["drawing","crossing"] (sp2 (rP2 (rV (rV Xe)) (rV (rP2 Xe Xe))) Xe (oF Xe) Hi K)
theorem QN:FnScope ["passages","by","start"] ["passages","by"] (Xj ZQ):=⟨rfl,rfl,rfl,by decide+kernel,rfl,by decide+kernel,by decide+kernel⟩
noncomputable def ZJ:{m:(List Int)->Int->Rs (List Int) // ∀{P:Program}{w:World}{K:PySem.W.Frag}{mg:Str->Option Value}{base:Heap} (D:Def K mg "begun_later" ZQ ["passages","by"]) (Z:Blt mg),Fn P w K mg base 1 "begun_later" ["passages","by"] (sp2 (rV Xe) Xe (oL (oF Xe)) m K)}:=⟨_, @λP w K mg base D Z=>go2 D QN 1 0 rfl rfl λhr hu hu1=>⟨_,(Xb (XM (Xq Ya (Xm (Xl K rfl) rfl Z.b_len PySem.boot_len (Xa (pv 0) Xd)) Xc (Xs _))
   (Xb (Xr (XF Xd))
   Xf)
   Xf)
  (Xb (Xo (i:=2) QN.nd rfl (Or.inl rfl) (Xn Yb (pv 1) (Xm (Xl K rfl) rfl Z.b_len PySem.boot_len (Xa (pv 0) Xd))))
  (Xb (Xr (Xn Zr (XC (Yn K rfl) (pv 0) (XG (pv 2)) X3) (XC (Yn K rfl) (pv 0) X3 (XG (pv 2)))))
  Xf))),λv_0 v_1 a_0 a_1=>(Ye (qt K) (Xt (UV (o:=(oF Xe)))) (Yi K qS λa5 v6=>(Xt qN)))⟩⟩
noncomputable def Je:=ZJ.1
noncomputable abbrev JC (P:Program)(w:World)(K:PySem.W.Frag)(mg:Str->Option Value)(base:Heap):Prop:=Fn P w K mg base 1 "begun_later" ["passages","by"] (sp2 (rV Xe) Xe (oL (oF Xe)) Je K)
theorem G6:FnScope ["drawing","walk","by","walks"] ["drawing","walk","by"] (Xj VG):=⟨rfl,rfl,rfl,by decide+kernel,rfl,by decide+kernel,by decide+kernel⟩
noncomputable def Ge:{m:((List (List Int))×(List (Int×Int)))->Int->Int->Rs ((List (List Int))×(List (Int×Int))) // ∀{P:Program}{w:World}{K:PySem.W.Frag}{mg:Str->Option Value}{base:Heap} (D:Def K mg "turned" VG ["drawing","walk","by"]) (g_begun_later:JC P w K mg base) (Z:Blt mg),Fn P w K mg base 2 "turned" ["drawing","walk","by"] (sp3 (rP2 (rV (rV Xe)) (rV (rP2 Xe Xe))) Xe Xe (oT2 (oL (oL (oF Xe))) (oL (oF (rP2 Xe Xe)))) m K)}:=⟨_, @λP w K mg base D g_begun_later Z=>go3 D G6 1 1 rfl rfl λhr hu hu1=>⟨_,(Xb (ZO 3 (Xj VG) ["drawing","walk","by","walks"] ["passages"] [] rfl G6.nd rfl rfl (XD (K:=K) rfl (Xh (Xg K rfl) (pv 0) Xc (λ_ _=>rfl))) (Ys (by decide)) (λcl C s H ex E=>⟨Xw (i:=0) (show List.Nodup (["passages"]:List Str) by decide+kernel) rfl (Or.inl rfl),YW,(XL (X0 K rfl) rfl Z.b_list PyProof.Rows.boot_list (Xa (pv 0) Xd))⟩))
  (Xb (Y4 (XA g_begun_later hr (by decide) (Xa (Xh (Xi K rfl) (pv 3) (pv 1) (λ_ _=>rfl)) (Xa (pv 2) Xd))) (Z8 (pv 3) (pv 1) YA))
  (Xb (Xr (XR (Xa (pv 3) (Xa (XL (X0 K rfl) rfl Z.b_list PyProof.Rows.boot_list (Xa (Xh (Xg K rfl) (pv 0) Xc (λ_ _=>rfl)) Xd)) Xd))))
  Xf))),λv_0 v_1 v_2 a_0 a_1 a_2=>(Y6 K (o:=(oL (oL (oF Xe)))) 0 (YT (λ_=>tg1 0) qw (λC5 a6 v7=>qN)) λa1 v2 C3=>(Vl K qN (λ_=>qB) λa17 C18=>(Xt (Za JK λ_=>qN))))⟩⟩
noncomputable def DN:=Ge.1
noncomputable abbrev DP (P:Program)(w:World)(K:PySem.W.Frag)(mg:Str->Option Value)(base:Heap):Prop:=Fn P w K mg base 2 "turned" ["drawing","walk","by"] (sp3 (rP2 (rV (rV Xe)) (rV (rP2 Xe Xe))) Xe Xe (oT2 (oL (oL (oF Xe))) (oL (oF (rP2 Xe Xe)))) DN K)
theorem CZ:FnScope ["drawing","walk"] ["drawing","walk"] (Xj UN):=⟨rfl,rfl,rfl,by decide+kernel,rfl,by decide+kernel,by decide+kernel⟩
noncomputable def UO:{m:((List (List Int))×(List (Int×Int)))->Int->Rs Bool // ∀{P:Program}{w:World}{K:PySem.W.Frag}{mg:Str->Option Value}{base:Heap} (D:Def K mg "is_walk" UN ["drawing","walk"]) (Z:Blt mg),Fn P w K mg base 1 "is_walk" ["drawing","walk"] (sp2 (rP2 (rV (rV Xe)) (rV (rP2 Xe Xe))) Xe (oF Xy) m K)}:=⟨_, @λP w K mg base D Z=>go2 D CZ 0 0 rfl rfl λhr hu hu1=>⟨_,(Xb (Xr (Dv EU Vy Xc (pv 1) (Xm (Xl K rfl) rfl Z.b_len PySem.boot_len (Xa (Xh (Xg K rfl) (pv 0) Xc (λ_ _=>rfl)) Xd))))
  Xf),λv_0 v_1 a_0 a_1=>(Xt (EvS.ev (EvB.sh (JD qB qB qB))))⟩⟩
noncomputable def V8:=UO.1
noncomputable abbrev JG (P:Program)(w:World)(K:PySem.W.Frag)(mg:Str->Option Value)(base:Heap):Prop:=Fn P w K mg base 1 "is_walk" ["drawing","walk"] (sp2 (rP2 (rV (rV Xe)) (rV (rP2 Xe Xe))) Xe (oF Xy) V8 K)
theorem Kj:FnScope ["drawing","walk","place","passages"] ["drawing","walk","place"] (Xj VW):=⟨rfl,rfl,rfl,by decide+kernel,rfl,by decide+kernel,by decide+kernel⟩
noncomputable def Ut:{m:((List (List Int))×(List (Int×Int)))->Int->Int->Rs (Option (Int×Int)) // ∀{P:Program}{w:World}{K:PySem.W.Frag}{mg:Str->Option Value}{base:Heap} (D:Def K mg "pair_at" VW ["drawing","walk","place"]) (g_is_walk:JG P w K mg base) (Z:Blt mg),Fn P w K mg base 2 "pair_at" ["drawing","walk","place"] (sp3 (rP2 (rV (rV Xe)) (rV (rP2 Xe Xe))) Xe Xe (oF (Bp (rP2 Xe Xe))) m K)}:=⟨_, @λP w K mg base D g_is_walk Z=>go3 D Kj 1 0 rfl rfl λhr hu hu1=>⟨_,(Xb (XM (PW.pt (Qa (YQ (Yv (XA g_is_walk hr (by decide) (Xa (pv 0) (Xa (pv 1) Xd))))) (Zp (YQ (Ct EU Vy Xc (pv 2) (Xn Zd (Xm (Xl K rfl) rfl Z.b_len PySem.boot_len (Xa (Xh (Xi K rfl) (Xh (Xg K rfl) (pv 0) Xc (λ_ _=>rfl)) (pv 1) (λ_ _=>rfl)) Xd)) Xc))))))
   (Xb (Xr UA)
   Xf)
   Xf)
  (Xb (Xo (i:=3) Kj.nd rfl (Or.inl rfl) (Xh (Xi K rfl) (Xh (Xg K rfl) (pv 0) Xc (λ_ _=>rfl)) (pv 1) (λ_ _=>rfl)))
  (Xb (Xr (XR (Xa (Xh (Xi K rfl) (pv 3) (pv 2) (λ_ _=>rfl)) (Xa (Xh (Xi K rfl) (pv 3) (Xn XE (pv 2) Xc) (λ_ _=>rfl)) Xd))))
  Xf))),λv_0 v_1 v_2 a_0 a_1 a_2=>(Ye (Zl (qt K) (QS (XN (K:=K) (JD qB qB qB)))) (Xt L1) (Yi K qS λa16 v17=>(Xt (Iz RV qM))))⟩⟩
noncomputable def Uj:=Ut.1
noncomputable abbrev ZB (P:Program)(w:World)(K:PySem.W.Frag)(mg:Str->Option Value)(base:Heap):Prop:=Fn P w K mg base 2 "pair_at" ["drawing","walk","place"] (sp3 (rP2 (rV (rV Xe)) (rV (rP2 Xe Xe))) Xe Xe (oF (Bp (rP2 Xe Xe))) Uj K)
theorem FC:FnScope ["pair","passage"] ["pair","passage"] (Xj JT):=⟨rfl,rfl,rfl,by decide+kernel,rfl,by decide+kernel,by decide+kernel⟩
noncomputable def Ku:{m:(Int×Int)->Int->Rs Int // ∀{P:Program}{w:World}{K:PySem.W.Frag}{mg:Str->Option Value}{base:Heap} (D:Def K mg "order_of" JT ["pair","passage"]) (Z:Blt mg),Fn P w K mg base 1 "order_of" ["pair","passage"] (sp2 (rP2 Xe Xe) Xe (oF Xe) m K)}:=⟨_, @λP w K mg base D Z=>go2 D FC 0 0 rfl rfl λhr hu hu1=>⟨_,(Xb (Xr (QH (Xq Ya (Xh (Xg K rfl) (pv 0) Xc (λ_ _=>rfl)) (pv 1) (Xs _)) Xc (Yr XU Xc)))
  Xf),λv_0 v_1 a_0 a_1=>(Xt (IS (qt K) qM qM))⟩⟩
noncomputable def CK:=Ku.1
noncomputable abbrev Ka (P:Program)(w:World)(K:PySem.W.Frag)(mg:Str->Option Value)(base:Heap):Prop:=Fn P w K mg base 1 "order_of" ["pair","passage"] (sp2 (rP2 Xe Xe) Xe (oF Xe) CK K)
theorem XS:FnScope ["drawing","move","top","mid","low","a","c","b","p","q","r"] ["drawing","move"] (Xj QA):=⟨rfl,rfl,rfl,by decide+kernel,rfl,by decide+kernel,by decide+kernel⟩
noncomputable def Vn:{m:((List (List Int))×(List (Int×Int)))->(List Mx)->Rs Bool // ∀{P:Program}{w:World}{K:PySem.W.Frag}{mg:Str->Option Value}{base:Heap} (D:Def K mg "pass_legal" QA ["drawing","move"]) (g_pair_at:ZB P w K mg base) (g_order_of:Ka P w K mg base) (g_sign_of:UF P w K mg base) (Z:Blt mg),Fn P w K mg base 3 "pass_legal" ["drawing","move"] (sp2 (rP2 (rV (rV Xe)) (rV (rP2 Xe Xe))) (rPL rMx) (oF Xy) m K)}:=⟨_, @λP w K mg base D g_pair_at g_order_of g_sign_of Z=>go2 D XS 9 0 rfl rfl λhr hu hu1=>⟨_,(Xb (Xo (i:=2) XS.nd rfl (Or.inl rfl) (XA g_pair_at hr (by decide) (Xa (pv 0) (Xa (Xh (Xg K rfl) (pv 1) Xc (λ_ _=>rfl)) (Xa (Xh (Xg K rfl) (pv 1) Xc (λ_ _=>rfl)) Xd)))))
  (Xb (Xo (i:=3) XS.nd rfl (Or.inl rfl) (XA g_pair_at hr (by decide) (Xa (pv 0) (Xa (Xh (Xg K rfl) (pv 1) Xc (λ_ _=>rfl)) (Xa (Xh (Xg K rfl) (pv 1) Xc (λ_ _=>rfl)) Xd)))))
  (Xb (Xo (i:=4) XS.nd rfl (Or.inl rfl) (XA g_pair_at hr (by decide) (Xa (pv 0) (Xa (Xh (Xg K rfl) (pv 1) Xc (λ_ _=>rfl)) (Xa (Xh (Xg K rfl) (pv 1) Xc (λ_ _=>rfl)) Xd)))))
  (Xb (XM (PW.pt (Qa (Xq EA (pv 2) UA (Xs _)) (Qa (Xq EA (pv 3) UA (Xs _)) (Zp (Xq EA (pv 4) UA (Xs _))))))
   (Xb (Xr Zf)
   Xf)
   Xf)
  (Xb (Xo (i:=5) XS.nd rfl (Or.inl rfl) (Yr XU (Xm (Qj K rfl rfl) rfl Z.b_min PyProof.Rows.boot_min (Xa (pv 3) Xd))))
  (Xb (Xo (i:=6) XS.nd rfl (Or.inl rfl) (Xm (Um K rfl rfl) rfl Z.b_max PyProof.Rows.boot_max (Xa (pv 3) Xd)))
  (Xb (XM (PW.pt (Qa (Xq Vy (Xm (Qj K rfl rfl) rfl Z.b_min PyProof.Rows.boot_min (Xa (pv 2) Xd)) Xc (Xs _)) (Qa (Xq Qp (pv 5) (pv 2) rfl) (Qa (Xq Vy (pv 6) Xc (Xs _)) (Zp (Xq Uc (pv 6) (pv 2) rfl))))))
   (Xb (Xr Zf)
   Xf)
   Xf)
  (Xb (Xo (i:=7) XS.nd rfl (Or.inl rfl) (QH (Xq Ya (Xh (Xg K rfl) (pv 2) Xc (λ_ _=>rfl)) (pv 5) (Xs _)) (Xh (Xg K rfl) (pv 2) Xc (λ_ _=>rfl)) (Xh (Xg K rfl) (pv 2) Xc (λ_ _=>rfl))))
  (Xb (XM (Xq (QQ K rfl (GF eq_int) (Vs (by decide) hu)) (Xm (Vo K rfl) rfl Z.b_sorted PyProof.Rows.boot_sorted (Xa (pv 4) Xd)) (Xm (Y1 K rfl) rfl Z.b_sorted PyProof.Rows.boot_sorted (Xa (XF (Xa (Yr XU (pv 7)) (Xa (Yr XU (pv 6)) Xd))) Xd XX)) (Xs _))
   (Xb (Xr Zf)
   Xf)
   Xf)
  (Xb (Xo (i:=8) XS.nd rfl (Or.inl rfl) (XA g_order_of hr (by decide) (Xa (pv 2) (Xa (pv 5) Xd))))
  (Xb (Xo (i:=9) XS.nd rfl (Or.inl rfl) (XA g_order_of hr (by decide) (Xa (pv 3) (Xa (Yr XU (pv 5)) Xd))))
  (Xb (Xo (i:=10) XS.nd rfl (Or.inl rfl) (XA g_order_of hr (by decide) (Xa (pv 4) (Xa (Yr XU (pv 7)) Xd))))
  (Xb (XM (Xq Ba (Xn XY (pv 8) (XA g_sign_of hr (by decide) (Xa (pv 0) (Xa (pv 7) Xd)))) (Xn XY (pv 9) (XA g_sign_of hr (by decide) (Xa (pv 0) (Xa (pv 6) Xd)))) (Xs _))
   (Xb (Xr Zf)
   Xf)
   Xf)
  (Xb (Xr (X1 Ya (Xn XY (pv 9) (XA g_sign_of hr (by decide) (Xa (pv 0) (Xa (pv 5) Xd)))) (Xn XY (pv 10) (XA g_sign_of hr (by decide) (Xa (pv 0) (Xa (pv 7) Xd)))) (Xs _)))
  Xf)))))))))))))),λv_0 v_1 a_0 a_1=>(Yi K qS λa1 v2=>(Yi K qS λa11 v12=>(Yi K qS λa21 v22=>(Ye (Zl (XN (K:=K) (F6 (tb:=tC .non) qB)) (Zl (XN (K:=K) (F6 (tb:=tC .non) qB)) (XN (K:=K) (F6 (tb:=tC .non) qB)))) (Xt qM) (Fv (K:=K) (r:=(rP2 Xe Xe)) (λ_ s=>s.l.l.r) λa35=>(Fv (K:=K) (r:=(rP2 Xe Xe)) (λ_ s=>s.l.l.r) λa36=>(Fv (K:=K) (r:=(rP2 Xe Xe)) (λ_ s=>s.l.l.r) λa37=>(Yi K (r:=Xe) (EvB.sh (VQ (Qi qb))) λa38 v39=>(Yi K (r:=Xe) (EvB.sh (KF qb)) λa42 v43=>(Ye (Zl (XN (K:=K) (Kk (Qi qb) qB)) (Zl (XN (K:=K) (KP qB qb)) (Zl (qt K) (XN (K:=K) (V6 qB qb))))) (Xt qM) (Yi K qS λa57 v58=>(Ye (XN (K:=K) (VY (Ev.toB (U6 qb)) (Ev.toB (Vz ql)))) (Xt qM) (Yi K qS λa79 v80=>(Yi K qS λa84 v85=>(Yi K qS λa90 v91=>(Ye (qt K) (Xt qM) (Xt qM)))))))))))))))))⟩⟩
noncomputable def GM:=Vn.1
noncomputable abbrev J6 (P:Program)(w:World)(K:PySem.W.Frag)(mg:Str->Option Value)(base:Heap):Prop:=Fn P w K mg base 3 "pass_legal" ["drawing","move"] (sp2 (rP2 (rV (rV Xe)) (rV (rP2 Xe Xe))) (rPL rMx) (oF Xy) GM K)
theorem Bm:FnScope ["drawing","walk","place","more"] ["drawing","walk","place","more"] (Xj UQ):=⟨rfl,rfl,rfl,by decide+kernel,rfl,by decide+kernel,by decide+kernel⟩
noncomputable def V5:{m:((List (List Int))×(List (Int×Int)))->Int->Int->Int->Rs Bool // ∀{P:Program}{w:World}{K:PySem.W.Frag}{mg:Str->Option Value}{base:Heap} (D:Def K mg "can_lay" UQ ["drawing","walk","place","more"]) (g_is_walk:JG P w K mg base) (Z:Blt mg),Fn P w K mg base 2 "can_lay" ["drawing","walk","place","more"] (sp4 (rP2 (rV (rV Xe)) (rV (rP2 Xe Xe))) Xe Xe Xe (oF Xy) m K)}:=⟨_, @λP w K mg base D g_is_walk Z=>go4 D Bm 0 0 rfl rfl λhr hu hu1=>⟨_,(Xb (Xr (Z6 (XA g_is_walk hr (by decide) (Xa (pv 0) (Xa (pv 1) Xd))) (Qn (Dv EU EU Xc (pv 2) (Xn XE (Xm (Xl K rfl) rfl Z.b_len PySem.boot_len (Xa (Xh (Xi K rfl) (Xh (Xg K rfl) (pv 0) Xc (λ_ _=>rfl)) (pv 1) (λ_ _=>rfl)) Xd)) (pv 3))))))
  Xf),λv_0 v_1 v_2 v_3 a_0 a_1 a_2 a_3=>(Xt (EvS.ev (EvB.sh (YZ qB (JD qB qB qB)))))⟩⟩
noncomputable def Jg:=V5.1
noncomputable abbrev UC (P:Program)(w:World)(K:PySem.W.Frag)(mg:Str->Option Value)(base:Heap):Prop:=Fn P w K mg base 2 "can_lay" ["drawing","walk","place","more"] (sp4 (rP2 (rV (rV Xe)) (rV (rP2 Xe Xe))) Xe Xe Xe (oF Xy) Jg K)
theorem Km:FnScope ["drawing","names","known"] ["drawing","names"] (Xj Jd):=⟨rfl,rfl,rfl,by decide+kernel,rfl,by decide+kernel,by decide+kernel⟩
noncomputable def Ui:{m:((List (List Int))×(List (Int×Int)))->(List Int)->Rs Bool // ∀{P:Program}{w:World}{K:PySem.W.Frag}{mg:Str->Option Value}{base:Heap} (D:Def K mg "can_add" Jd ["drawing","names"]) (g_crossings:V0 P w K mg base) (Z:Blt mg),Fn P w K mg base 2 "can_add" ["drawing","names"] (sp2 (rP2 (rV (rV Xe)) (rV (rP2 Xe Xe))) (rV Xe) (oF Xy) m K)}:=⟨_, @λP w K mg base D g_crossings Z=>go2 D Km 1 0 rfl rfl λhr hu hu1=>⟨_,(Xb (Xo (i:=2) Km.nd rfl (Or.inr rfl) (XA g_crossings hr (by decide) (Xa (pv 0) Xd)))
  (Xb (XM (PW.pt (Qa (Xq F9 (Xn XE (Xm (Xl K rfl) rfl Z.b_len PySem.boot_len (Xa (pv 2) Xd)) (Xm (Xl K rfl) rfl Z.b_len PySem.boot_len (Xa (pv 1) Xd))) (Px Z.c_MOST_CROSSINGS rfl) (Xs _)) (Zp (Xq Vy (Xm Gd rfl Z.b_len PySem.boot_len (Xa (XL (Dm K rfl rfl) rfl Z.b_set PySem.Pv.boot_set (Xa (pv 1) Xd)) Xd)) (Xm (Xl K rfl) rfl Z.b_len PySem.boot_len (Xa (pv 1) Xd)) (Xs _)))))
   (Xb (Xr Zf)
   Xf)
   Xf)
  (Xb (Xr (Xm (En rfl) rfl Z.b_all PyProof.Rows.boot_all (Xa (Zn (sc:=(Xj Jd)) (N0:=["drawing","names","known"]) (tns:=["name"]) (caps:=[(2,"known")]) rfl (XD (K:=K) rfl (pv 1)) (Ys (by decide)) (λcl C s H ex E=>⟨Xw (i:=0) (show List.Nodup (["name","known"]:List Str) by decide+kernel) rfl (Or.inl rfl),YW,(Z6 (X1 Rb (pv 0) Xc (Xs _)) (Qn (X1 (Jp K rfl) (pv 0) (pv 1) rfl)))⟩)) Xd)))
  Xf))),λv_0 v_1 a_0 a_1=>(Yi K qS λa1 v2=>(Ye (Zl (qt K) (XN (K:=K) (Kk (F1 ql) qB))) (Xt qM) (Xt (EvS.ev (EvB.sh (N5 (Ev.toB (YT (λ_=>tg1 0) qw (λC17 a18 v19=>(EvS.ev (EvB.sh (YZ qB (MK qB qB)))))))))))))⟩⟩
noncomputable def Jl:=Ui.1
noncomputable abbrev VP (P:Program)(w:World)(K:PySem.W.Frag)(mg:Str->Option Value)(base:Heap):Prop:=Fn P w K mg base 2 "can_add" ["drawing","names"] (sp2 (rP2 (rV (rV Xe)) (rV (rP2 Xe Xe))) (rV Xe) (oF Xy) Jl K)
theorem K7:FnScope ["drawing","move"] ["drawing","move"] (Xj Qf):=⟨rfl,rfl,rfl,by decide+kernel,rfl,by decide+kernel,by decide+kernel⟩
noncomputable def Qm:{m:((List (List Int))×(List (Int×Int)))->(List Mx)->Rs Bool // ∀{P:Program}{w:World}{K:PySem.W.Frag}{mg:Str->Option Value}{base:Heap} (D:Def K mg "curl_legal" Qf ["drawing","move"]) (g_can_lay:UC P w K mg base) (g_can_add:VP P w K mg base) (Z:Blt mg),Fn P w K mg base 3 "curl_legal" ["drawing","move"] (sp2 (rP2 (rV (rV Xe)) (rV (rP2 Xe Xe))) (rPL rMx) (oF Xy) m K)}:=⟨_, @λP w K mg base D g_can_lay g_can_add Z=>go2 D K7 0 0 rfl rfl λhr hu hu1=>⟨_,(Xb (XM (PW.pt (Qa (YQ (Yv (XA g_can_lay hr (by decide) (Xa (pv 0) (Xa (Xh (Xg K rfl) (pv 1) Xc (λ_ _=>rfl)) (Xa (Xh (Xg K rfl) (pv 1) Xc (λ_ _=>rfl)) (Xa Xc Xd))))))) (Zp (YQ (Yv (XA g_can_add hr (by decide) (Xa (pv 0) (Xa (XF (Xa (Xh (Xg K rfl) (pv 1) Xc (λ_ _=>rfl)) Xd)) Xd XX))))))))
   (Xb (Xr Zf)
   Xf)
   Xf)
  (Xb (Xr (Z6 (X1 (JY K rfl) (Xh (Xg K rfl) (pv 1) Xc (λ_ _=>rfl)) (XR (Xa XJ (Xa XJ Xd))) rfl) (Qn (X1 (JY K rfl) (Xh (Xg K rfl) (pv 1) Xc (λ_ _=>rfl)) (XR (Xa Xc (Xa (Yr XU Xc) Xd))) rfl))))
  Xf)),λv_0 v_1 a_0 a_1=>(Ye (qt K) (Xt qM) (Xt (EvS.ev (EvB.sh (YZ (V6 qb (HS (Ev.toB qM))) (V6 qb (KD (Ev.toB qM))))))))⟩⟩
noncomputable def Vb:=Qm.1
noncomputable abbrev J9 (P:Program)(w:World)(K:PySem.W.Frag)(mg:Str->Option Value)(base:Heap):Prop:=Fn P w K mg base 3 "curl_legal" ["drawing","move"] (sp2 (rP2 (rV (rV Xe)) (rV (rP2 Xe Xe))) (rPL rMx) (oF Xy) Vb K)
theorem Bi:FnScope ["pair"] ["pair"] (Xj Uh):=⟨rfl,rfl,rfl,by decide+kernel,rfl,by decide+kernel,by decide+kernel⟩
noncomputable def Uv:{m:(Int×Int)->Rs Bool // ∀{P:Program}{w:World}{K:PySem.W.Frag}{mg:Str->Option Value}{base:Heap} (D:Def K mg "is_curl" Uh ["pair"]) (Z:Blt mg),Fn P w K mg base 1 "is_curl" ["pair"] (sp1 (rP2 Xe Xe) (oF Xy) m K)}:=⟨_, @λP w K mg base D Z=>go1 D Bi 0 0 rfl rfl λhr hu hu1=>⟨_,(Xb (Xr (X1 Ya (Xh (Xg K rfl) (pv 0) Xc (λ_ _=>rfl)) (Yr XU (Xh (Xg K rfl) (pv 0) Xc (λ_ _=>rfl))) (Xs _)))
  Xf),λv_0 a_0=>(Xt qM)⟩⟩
noncomputable def Gw:=Uv.1
noncomputable abbrev GY (P:Program)(w:World)(K:PySem.W.Frag)(mg:Str->Option Value)(base:Heap):Prop:=Fn P w K mg base 1 "is_curl" ["pair"] (sp1 (rP2 Xe Xe) (oF Xy) Gw K)
theorem Qr:FnScope ["drawing","move","pair"] ["drawing","move"] (Xj Zt):=⟨rfl,rfl,rfl,by decide+kernel,rfl,by decide+kernel,by decide+kernel⟩
noncomputable def Zu:{m:((List (List Int))×(List (Int×Int)))->(List Mx)->Rs Bool // ∀{P:Program}{w:World}{K:PySem.W.Frag}{mg:Str->Option Value}{base:Heap} (D:Def K mg "uncurl_legal" Zt ["drawing","move"]) (g_pair_at:ZB P w K mg base) (g_is_curl:GY P w K mg base) (Z:Blt mg),Fn P w K mg base 3 "uncurl_legal" ["drawing","move"] (sp2 (rP2 (rV (rV Xe)) (rV (rP2 Xe Xe))) (rPL rMx) (oF Xy) m K)}:=⟨_, @λP w K mg base D g_pair_at g_is_curl Z=>go2 D Qr 1 0 rfl rfl λhr hu hu1=>⟨_,(Xb (Xo (i:=2) Qr.nd rfl (Or.inl rfl) (XA g_pair_at hr (by decide) (Xa (pv 0) (Xa (Xh (Xg K rfl) (pv 1) Xc (λ_ _=>rfl)) (Xa (Xh (Xg K rfl) (pv 1) Xc (λ_ _=>rfl)) Xd)))))
  (Xb (Xr (Z6 (X1 Df (pv 2) UA (Xs _)) (Qn (XA g_is_curl hr (by decide) (Xa (pv 2) Xd)))))
  Xf)),λv_0 v_1 a_0 a_1=>(Yi K qS λa1 v2=>(Xt (EvS.ev (EvB.sh (YZ (KH (tb:=tC .non) qB) qB)))))⟩⟩
noncomputable def QM:=Zu.1
noncomputable abbrev QO (P:Program)(w:World)(K:PySem.W.Frag)(mg:Str->Option Value)(base:Heap):Prop:=Fn P w K mg base 3 "uncurl_legal" ["drawing","move"] (sp2 (rP2 (rV (rV Xe)) (rV (rP2 Xe Xe))) (rPL rMx) (oF Xy) QM K)
theorem Vr:FnScope ["drawing","move","same"] ["drawing","move"] (Xj Q6):=⟨rfl,rfl,rfl,by decide+kernel,rfl,by decide+kernel,by decide+kernel⟩
noncomputable def Ub:{m:((List (List Int))×(List (Int×Int)))->(List Mx)->Rs Bool // ∀{P:Program}{w:World}{K:PySem.W.Frag}{mg:Str->Option Value}{base:Heap} (D:Def K mg "lay_legal" Q6 ["drawing","move"]) (g_can_lay:UC P w K mg base) (g_can_add:VP P w K mg base) (Z:Blt mg),Fn P w K mg base 3 "lay_legal" ["drawing","move"] (sp2 (rP2 (rV (rV Xe)) (rV (rP2 Xe Xe))) (rPL rMx) (oF Xy) m K)}:=⟨_, @λP w K mg base D g_can_lay g_can_add Z=>go2 D Vr 1 0 rfl rfl λhr hu hu1=>⟨_,(Xb (XM (PW.pt (Qa (YQ (Yv (XA g_can_lay hr (by decide) (Xa (pv 0) (Xa (Xh (Xg K rfl) (pv 1) Xc (λ_ _=>rfl)) (Xa (Xh (Xg K rfl) (pv 1) Xc (λ_ _=>rfl)) (Xa Xc Xd))))))) (Zp (YQ (Yv (XA g_can_add hr (by decide) (Xa (pv 0) (Xa (XF (Xa (Xh (Xg K rfl) (pv 1) Xc (λ_ _=>rfl)) (Xa (Xh (Xg K rfl) (pv 1) Xc (λ_ _=>rfl)) Xd))) Xd XX))))))))
   (Xb (Xr Zf)
   Xf)
   Xf)
  (Xb (Xo (i:=2) Vr.nd rfl (Or.inl rfl) (X1 Ya (Xh (Xg K rfl) (pv 1) Xc (λ_ _=>rfl)) (Xh (Xg K rfl) (pv 1) Xc (λ_ _=>rfl)) (Xs _)))
  (Xb (XM (PW.pt (BZ (Yv (pv 2)) (F4 (Xq Ya (Xh (Xg K rfl) (pv 1) Xc (λ_ _=>rfl)) (Xn XE (Xh (Xg K rfl) (pv 1) Xc (λ_ _=>rfl)) Xc) (Xs _)))))
   (Xb (Xr Zf)
   Xf)
   Xf)
  (Xb (Xr (Z6 (XA g_can_lay hr (by decide) (Xa (pv 0) (Xa (Xh (Xg K rfl) (pv 1) Xc (λ_ _=>rfl)) (Xa (Xh (Xg K rfl) (pv 1) Xc (λ_ _=>rfl)) (Xa (QH (Yv (pv 2)) Xc Xc) Xd))))) (Qn (X1 (JY K rfl) (Xh (Xg K rfl) (pv 1) Xc (λ_ _=>rfl)) (XR (Xa Xc (Xa (Yr XU Xc) Xd))) rfl))))
  Xf)))),λv_0 v_1 a_0 a_1=>(Ye (qt K) (Xt qM) (Yi K qS λa25 v26=>(Ye (qt K) (Xt qM) (Xt (EvS.ev (EvB.sh (YZ qB (V6 qb (KD (Ev.toB qM))))))))))⟩⟩
noncomputable def Db:=Ub.1
noncomputable abbrev Up (P:Program)(w:World)(K:PySem.W.Frag)(mg:Str->Option Value)(base:Heap):Prop:=Fn P w K mg base 3 "lay_legal" ["drawing","move"] (sp2 (rP2 (rV (rV Xe)) (rV (rP2 Xe Xe))) (rPL rMx) (oF Xy) Db K)
theorem GH:FnScope ["drawing","over","under"] ["drawing","over","under"] (Xj Jb):=⟨rfl,rfl,rfl,by decide+kernel,rfl,by decide+kernel,by decide+kernel⟩
noncomputable def V3:{m:((List (List Int))×(List (Int×Int)))->(Int×Int)->(Int×Int)->Rs Bool // ∀{P:Program}{w:World}{K:PySem.W.Frag}{mg:Str->Option Value}{base:Heap} (D:Def K mg "can_unlay" Jb ["drawing","over","under"]) (g_sign_of:UF P w K mg base) (Z:Blt mg),Fn P w K mg base 2 "can_unlay" ["drawing","over","under"] (sp3 (rP2 (rV (rV Xe)) (rV (rP2 Xe Xe))) (rP2 Xe Xe) (rP2 Xe Xe) (oF Xy) m K)}:=⟨_, @λP w K mg base D g_sign_of Z=>go3 D GH 0 0 rfl rfl λhr hu hu1=>⟨_,(Xb (XM (PW.pt (Qa (Xq Vy (Xm (Qj K rfl rfl) rfl Z.b_min PyProof.Rows.boot_min (Xa (pv 1) Xd)) Xc (Xs _)) (Zp (Xq (QQ K rfl (GF eq_int) (Vs (by decide) hu)) (Xm (Vo K rfl) rfl Z.b_sorted PyProof.Rows.boot_sorted (Xa (pv 2) Xd)) (Xm (Y1 K rfl) rfl Z.b_sorted PyProof.Rows.boot_sorted (Xa (XF (Xa (Yr XU (Xh (Xg K rfl) (pv 1) Xc (λ_ _=>rfl))) (Xa (Yr XU (Xh (Xg K rfl) (pv 1) Xc (λ_ _=>rfl))) Xd))) Xd XX)) (Xs _)))))
   (Xb (Xr Zf)
   Xf)
   Xf)
  (Xb (Xr (X1 Ba (XA g_sign_of hr (by decide) (Xa (pv 0) (Xa (Xh (Xg K rfl) (pv 1) Xc (λ_ _=>rfl)) Xd))) (XA g_sign_of hr (by decide) (Xa (pv 0) (Xa (Xh (Xg K rfl) (pv 1) Xc (λ_ _=>rfl)) Xd))) (Xs _)))
  Xf)),λv_0 v_1 v_2 a_0 a_1 a_2=>(Ye (Zl (XN (K:=K) (Kk (Qi qb) qB)) (XN (K:=K) (VY (Ev.toB (U6 qb)) (Ev.toB (Vz ql))))) (Xt qM) (Xt qM))⟩⟩
noncomputable def FH:=V3.1
noncomputable abbrev Ud (P:Program)(w:World)(K:PySem.W.Frag)(mg:Str->Option Value)(base:Heap):Prop:=Fn P w K mg base 2 "can_unlay" ["drawing","over","under"] (sp3 (rP2 (rV (rV Xe)) (rV (rP2 Xe Xe))) (rP2 Xe Xe) (rP2 Xe Xe) (oF Xy) FH K)
theorem ZA:FnScope ["drawing","move","over","under"] ["drawing","move"] (Xj Z4):=⟨rfl,rfl,rfl,by decide+kernel,rfl,by decide+kernel,by decide+kernel⟩
noncomputable def Jx:{m:((List (List Int))×(List (Int×Int)))->(List Mx)->Rs Bool // ∀{P:Program}{w:World}{K:PySem.W.Frag}{mg:Str->Option Value}{base:Heap} (D:Def K mg "unlay_legal" Z4 ["drawing","move"]) (g_pair_at:ZB P w K mg base) (g_can_unlay:Ud P w K mg base) (Z:Blt mg),Fn P w K mg base 3 "unlay_legal" ["drawing","move"] (sp2 (rP2 (rV (rV Xe)) (rV (rP2 Xe Xe))) (rPL rMx) (oF Xy) m K)}:=⟨_, @λP w K mg base D g_pair_at g_can_unlay Z=>go2 D ZA 2 0 rfl rfl λhr hu hu1=>⟨_,(Xb (Xo (i:=2) ZA.nd rfl (Or.inl rfl) (XA g_pair_at hr (by decide) (Xa (pv 0) (Xa (Xh (Xg K rfl) (pv 1) Xc (λ_ _=>rfl)) (Xa (Xh (Xg K rfl) (pv 1) Xc (λ_ _=>rfl)) Xd)))))
  (Xb (Xo (i:=3) ZA.nd rfl (Or.inl rfl) (XA g_pair_at hr (by decide) (Xa (pv 0) (Xa (Xh (Xg K rfl) (pv 1) Xc (λ_ _=>rfl)) (Xa (Xh (Xg K rfl) (pv 1) Xc (λ_ _=>rfl)) Xd)))))
  (Xb (Xr (Z6 (X1 Df (pv 2) UA (Xs _)) (Z6 (X1 Df (pv 3) UA (Xs _)) (Qn (XA g_can_unlay hr (by decide) (Xa (pv 0) (Xa (pv 2) (Xa (pv 3) Xd))))))))
  Xf))),λv_0 v_1 a_0 a_1=>(Yi K qS λa1 v2=>(Yi K qS λa11 v12=>(Xt (EvS.ev (EvB.sh (YZ (KH (tb:=tC .non) qB) (YZ (KH (tb:=tC .non) qB) qB)))))))⟩⟩
noncomputable def KY:=Jx.1
noncomputable abbrev Jj (P:Program)(w:World)(K:PySem.W.Frag)(mg:Str->Option Value)(base:Heap):Prop:=Fn P w K mg base 3 "unlay_legal" ["drawing","move"] (sp2 (rP2 (rV (rV Xe)) (rV (rP2 Xe Xe))) (rPL rMx) (oF Xy) KY K)
theorem Dx:FnScope ["drawing","move","word"] ["drawing","move"] (Xj Di):=⟨rfl,rfl,rfl,by decide+kernel,rfl,by decide+kernel,by decide+kernel⟩
noncomputable def VR:{m:((List (List Int))×(List (Int×Int)))->(List Mx)->Rs Bool // ∀{P:Program}{w:World}{K:PySem.W.Frag}{mg:Str->Option Value}{base:Heap} (D:Def K mg "legal" Di ["drawing","move"]) (g_pass_legal:J6 P w K mg base) (g_is_walk:JG P w K mg base) (g_curl_legal:J9 P w K mg base) (g_uncurl_legal:QO P w K mg base) (g_lay_legal:Up P w K mg base) (g_unlay_legal:Jj P w K mg base) (Z:Blt mg),Fn P w K mg base 4 "legal" ["drawing","move"] (sp2 (rP2 (rV (rV Xe)) (rV (rP2 Xe Xe))) (rPL rMx) (oF Xy) m K)}:=⟨_, @λP w K mg base D g_pass_legal g_is_walk g_curl_legal g_uncurl_legal g_lay_legal g_unlay_legal Z=>go2 D Dx 1 0 rfl rfl λhr hu hu1=>⟨_,(Xb (Xo (i:=2) Dx.nd rfl (Or.inl rfl) (Xh (Xg K rfl) (pv 1) Xc (λ_ _=>rfl)))
  (Xb (XM (Xq Ya (pv 2) XJ (Xs _))
   (Xb (Xr (XA g_is_walk hr (by decide) (Xa (pv 0) (Xa (Xh (Xg K rfl) (pv 1) Xc (λ_ _=>rfl)) Xd))))
   Xf)
   Xf)
  (Xb (XM (Xq Ya (pv 2) XJ (Xs _))
   (Xb (Xr (XA g_curl_legal hr (by decide) (Xa (pv 0) (Xa (pv 1) Xd))))
   Xf)
   Xf)
  (Xb (XM (Xq Ya (pv 2) XJ (Xs _))
   (Xb (Xr (XA g_uncurl_legal hr (by decide) (Xa (pv 0) (Xa (pv 1) Xd))))
   Xf)
   Xf)
  (Xb (XM (Xq Ya (pv 2) XJ (Xs _))
   (Xb (Xr (XA g_lay_legal hr (by decide) (Xa (pv 0) (Xa (pv 1) Xd))))
   Xf)
   Xf)
  (Xb (XM (Xq Ya (pv 2) XJ (Xs _))
   (Xb (Xr (XA g_unlay_legal hr (by decide) (Xa (pv 0) (Xa (pv 1) Xd))))
   Xf)
   Xf)
  (Xb (Xr (XA g_pass_legal hr (by decide) (Xa (pv 0) (Xa (pv 1) Xd))))
  Xf))))))),λv_0 v_1 a_0 a_1=>(Yi K (r:=UZ) qs λa1 v2=>(Ye (qt K) (Xt qN) (Ye (qt K) (Xt qN) (Ye (qt K) (Xt qN) (Ye (qt K) (Xt qN) (Ye (qt K) (Xt qN) (Xt qN)))))))⟩⟩
noncomputable def KG:=VR.1
noncomputable abbrev E3 (P:Program)(w:World)(K:PySem.W.Frag)(mg:Str->Option Value)(base:Heap):Prop:=Fn P w K mg base 4 "legal" ["drawing","move"] (sp2 (rP2 (rV (rV Xe)) (rV (rP2 Xe Xe))) (rPL rMx) (oF Xy) KG K)
theorem JW:FnScope ["drawing","move"] ["drawing","move"] (Xj Y7):=⟨rfl,rfl,rfl,by decide+kernel,rfl,by decide+kernel,by decide+kernel⟩
noncomputable def Yk:{m:((List (List Int))×(List (Int×Int)))->(List Mx)->Rs Unit // ∀{P:Program}{w:World}{K:PySem.W.Frag}{mg:Str->Option Value}{base:Heap} (D:Def K mg "refuse_illegal" Y7 ["drawing","move"]) (g_legal:E3 P w K mg base) (Z:Blt mg),Fn P w K mg base 5 "refuse_illegal" ["drawing","move"] (sp2 (rP2 (rV (rV Xe)) (rV (rP2 Xe Xe))) (rPL rMx) oU m K)}:=⟨_, @λP w K mg base D g_legal Z=>by
 refine US D JW (λvs H Q E h=>?_) (λf cdv A outer s H vs Q E hr h=>?_)
 ·obtain⟨v_0,v_1,a_0,a_1,b,rfl,_⟩:=h;rfl
 obtain⟨v_0,v_1,a_0,a_1,b,rfl,h_0,h_1,hm,q⟩:=h
 have hu:=hu8 hr
 have hu1:=Uu hr
 refine⟨_,(Xb (XM (YQ (Yv (XA g_legal hr (by decide) (Xa (pv 0) (Xa (pv 1) Xd)))))
   (Xb DL
   Xf)
   Xf)
  Xf),?_⟩
 refine Rj (J:=({oo:=λx3=>[],ss:=λx3=>[some v_0,some v_1],sc:=λg4 x3=>(SC.add (SC.add SC.nil K (rP2 (rV (rV Xe)) (rV (rP2 Xe Xe))) v_0 a_0) K (rPL rMx) v_1 a_1)}:Jn (Unit) (Unit))) (K:=K) (S:=(SC.add (SC.add SC.nil K (rP2 (rV (rV Xe)) (rV (rP2 Xe Xe))) v_0 a_0) K (rPL rMx) v_1 a_1)) (σ:=[some v_0,some v_1]) 0 ?_ (SC.i (SC.i SC.t h_0) h_1) hm q (λ_ _=>rfl)
 exact(Oc (qt K) (YC () () rfl rfl))⟩
noncomputable def YB:=Yk.1
noncomputable abbrev Z7 (P:Program)(w:World)(K:PySem.W.Frag)(mg:Str->Option Value)(base:Heap):Prop:=Fn P w K mg base 5 "refuse_illegal" ["drawing","move"] (sp2 (rP2 (rV (rV Xe)) (rV (rP2 Xe Xe))) (rPL rMx) oU YB K)
theorem Qe:FnScope ["drawing","move","walks","at","place","first"] ["drawing","move"] (Xj VE):=⟨rfl,rfl,rfl,by decide+kernel,rfl,by decide+kernel,by decide+kernel⟩
noncomputable def DU:{m:((List (List Int))×(List (Int×Int)))->(List Mx)->Rs ((List (List Int))×(List (Int×Int))) // ∀{P:Program}{w:World}{K:PySem.W.Frag}{mg:Str->Option Value}{base:Heap} (D:Def K mg "passed" VE ["drawing","move"]) (Z:Blt mg),Fn P w K mg base 1 "passed" ["drawing","move"] (sp2 (rP2 (rV (rV Xe)) (rV (rP2 Xe Xe))) (rPL rMx) (oT2 (oL (oL (oF Xe))) (oL (oF (rP2 Xe Xe)))) m K)}:=⟨_, @λP w K mg base D Z=>go2 D Qe 4 1 rfl rfl λhr hu hu1=>⟨_,(Xb (ZO 2 (Xj VE) ["drawing","move","walks","at","place","first"] ["walk"] [] rfl Qe.nd rfl rfl (XD (K:=K) rfl (Xh (Xg K rfl) (pv 0) Xc (λ_ _=>rfl))) (Ys (by decide)) (λcl C s H ex E=>⟨Xw (i:=0) (show List.Nodup (["walk"]:List Str) by decide+kernel) rfl (Or.inl rfl),YW,(XL (X0 K rfl) rfl Z.b_list PyProof.Rows.boot_list (Xa (pv 0) Xd))⟩))
  (Xb (Yw PassesOwn.never rfl (NE (K:=K) rfl (XR (Xa (XR (Xa (Xh (Xg K rfl) (pv 1) Xc (λ_ _=>rfl)) (Xa (Xh (Xg K rfl) (pv 1) Xc (λ_ _=>rfl)) Xd))) (Xa (XR (Xa (Xh (Xg K rfl) (pv 1) Xc (λ_ _=>rfl)) (Xa (Xh (Xg K rfl) (pv 1) Xc (λ_ _=>rfl)) Xd))) (Xa (XR (Xa (Xh (Xg K rfl) (pv 1) Xc (λ_ _=>rfl)) (Xa (Xh (Xg K rfl) (pv 1) Xc (λ_ _=>rfl)) Xd))) Xd))))) (Ve rfl (Yf (Xw (i:=3) Qe.nd rfl (Or.inl rfl)) (Yf (Xw (i:=4) Qe.nd rfl (Or.inl rfl)) Qu)))
   (Xb (Xo (i:=5) Qe.nd rfl (Or.inl rfl) (Xh (Xi K rfl) (Xh (Xi K rfl) (pv 2) (pv 3) (λ_ _=>rfl)) (pv 4) (λ_ _=>rfl)))
   (Xb (Y4 (Xh (Xi K rfl) (Xh (Xi K rfl) (pv 2) (pv 3) (λ_ _=>rfl)) (Xn XE (pv 4) Xc) (λ_ _=>rfl)) (Z8 (Xh (Xi K rfl) (pv 2) (pv 3) (λ_ _=>rfl)) (pv 4) YA))
   (Xb (Y4 (pv 5) (Z8 (Xh (Xi K rfl) (pv 2) (pv 3) (λ_ _=>rfl)) (Xn XE (pv 4) Xc) YA))
   Xf))))
  (Xb (Xr (XR (Xa (pv 2) (Xa (XL (X0 K rfl) rfl Z.b_list PyProof.Rows.boot_list (Xa (Xh (Xg K rfl) (pv 0) Xc (λ_ _=>rfl)) Xd)) Xd))))
  Xf))),λv_0 v_1 a_0 a_1=>(Y6 K (o:=(oL (oL (oF Xe)))) 0 (YT (λ_=>tg1 0) qw (λC5 a6 v7=>qN)) λa1 v2 C3=>(Fh K (λO (x35:Option V×Option V×Option V×V×List Xx)=>[x35.2.2.2.2]) (λs x35=>[some v_0,some v_1,some x35.2.2.2.1,x35.1,x35.2.1,x35.2.2.1]) (λS (g36:(List (List Int))) x35=>(SC.addO S K (oL (oL (oF Xe))) x35.2.2.2.1 g36 x35.2.2.2.2)) (λ_=>tg2 3 4) ((none),(none),(none),v2,C3) (a1) (Dt (ZZ (Yo (Y9 (EvB.sh (YU qB)) (EvB.sh (YU qB))) (Yo (Y9 (EvB.sh (YU qB)) (EvB.sh (YU qB))) (Yo (Y9 (EvB.sh (YU qB)) (EvB.sh (YU qB))) qa))))) rfl rfl (λ_ s=>(SC.i s s.r)) (λg37 x38 a39 v40=>(Yi K qS λa41 v42=>(Jy (K:=K) (r:=Xe) 2 0 rfl rfl (λ_ s=>s.l.l.l.r) qS qB qB λa56 C57=>(Jy (K:=K) (r:=Xe) 2 0 rfl rfl (λ_ s=>s.r) qS qB qB λa65 C66=>(YC ((some v40.1),(some v40.2),(some v42),x38.2.2.2.1,C66) (a65) rfl rfl))))) λg69 x70=>(Xt (Za JK λ_=>qN))))⟩⟩
noncomputable def Im:=DU.1
noncomputable abbrev Cg (P:Program)(w:World)(K:PySem.W.Frag)(mg:Str->Option Value)(base:Heap):Prop:=Fn P w K mg base 1 "passed" ["drawing","move"] (sp2 (rP2 (rV (rV Xe)) (rV (rP2 Xe Xe))) (rPL rMx) (oT2 (oL (oL (oF Xe))) (oL (oF (rP2 Xe Xe)))) Im K)
theorem Vg:FnScope ["walks","at","place","pair","told"] ["walks","at","place","pair"] (Xj ZT):=⟨rfl,rfl,rfl,by decide+kernel,rfl,by decide+kernel,by decide+kernel⟩
noncomputable def Q7:{m:(List (List Int))->Int->Int->(List Int)->Rs (List (List Int)) // ∀{P:Program}{w:World}{K:PySem.W.Frag}{mg:Str->Option Value}{base:Heap} (D:Def K mg "with_pair" ZT ["walks","at","place","pair"]) (Z:Blt mg),Fn P w K mg base 1 "with_pair" ["walks","at","place","pair"] (sp4 (rV (rV Xe)) Xe Xe (rV Xe) (oL (oL (oF Xe))) m K)}:=⟨_, @λP w K mg base D Z=>go4 D Vg 1 1 rfl rfl λhr hu hu1=>⟨_,(Xb (ZO 4 (Xj ZT) ["walks","at","place","pair","told"] ["walk"] [] rfl Vg.nd rfl rfl (XD (K:=K) rfl (pv 0)) (Ys (by decide)) (λcl C s H ex E=>⟨Xw (i:=0) (show List.Nodup (["walk"]:List Str) by decide+kernel) rfl (Or.inl rfl),YW,(XL (X0 K rfl) rfl Z.b_list PyProof.Rows.boot_list (Xa (pv 0) Xd))⟩))
  (Xb (Y4 (Xn Zr (Xn Zr (XC (Yn K rfl) (Xh (Xi K rfl) (pv 4) (pv 1) (λ_ _=>rfl)) X3 (XG (pv 2))) (pv 3)) (XC (Yn K rfl) (Xh (Xi K rfl) (pv 4) (pv 1) (λ_ _=>rfl)) (XG (pv 2)) X3)) (Z8 (pv 4) (pv 1) YA))
  (Xb (Xr (pv 4))
  Xf))),λv_0 v_1 v_2 v_3 a_0 a_1 a_2 a_3=>(Y6 K (o:=(oL (oL (oF Xe)))) 0 (YT (λ_=>tg1 0) qw (λC4 a5 v6=>qN)) λa1 v2 C3=>(Vl K qN (λ_=>qB) λa27 C28=>(Xt JK)))⟩⟩
noncomputable def QX:=Q7.1
noncomputable abbrev Q5 (P:Program)(w:World)(K:PySem.W.Frag)(mg:Str->Option Value)(base:Heap):Prop:=Fn P w K mg base 1 "with_pair" ["walks","at","place","pair"] (sp4 (rV (rV Xe)) Xe Xe (rV Xe) (oL (oL (oF Xe))) QX K)
theorem VX:FnScope ["drawing","move","crossing","pair"] ["drawing","move"] (Xj K9):=⟨rfl,rfl,rfl,by decide+kernel,rfl,by decide+kernel,by decide+kernel⟩
noncomputable def K8:{m:((List (List Int))×(List (Int×Int)))->(List Mx)->Rs ((List (List Int))×(List (Int×Int))) // ∀{P:Program}{w:World}{K:PySem.W.Frag}{mg:Str->Option Value}{base:Heap} (D:Def K mg "curled" K9 ["drawing","move"]) (g_with_pair:Q5 P w K mg base) (Z:Blt mg),Fn P w K mg base 2 "curled" ["drawing","move"] (sp2 (rP2 (rV (rV Xe)) (rV (rP2 Xe Xe))) (rPL rMx) (oT2 (oL (oL (oF Xe))) (oL (oF (rP2 Xe Xe)))) m K)}:=⟨_, @λP w K mg base D g_with_pair Z=>go2 D VX 2 0 rfl rfl λhr hu hu1=>⟨_,(Xb (Xo (i:=2) VX.nd rfl (Or.inl rfl) (Xh (Xg K rfl) (pv 1) Xc (λ_ _=>rfl)))
  (Xb (Xo (i:=3) VX.nd rfl (Or.inl rfl) (QH (Xq Ya (Xh (Xg K rfl) (pv 1) Xc (λ_ _=>rfl)) XJ (Xs _)) (XF (Xa (pv 2) (Xa (Yr XU (pv 2)) Xd))) (XF (Xa (Yr XU (pv 2)) (Xa (pv 2) Xd)))))
  (Xb (Xr (XR (Xa (XA g_with_pair hr (by decide) (Xa (Xh (Xg K rfl) (pv 0) Xc (λ_ _=>rfl)) (Xa (Xh (Xg K rfl) (pv 1) Xc (λ_ _=>rfl)) (Xa (Xh (Xg K rfl) (pv 1) Xc (λ_ _=>rfl)) (Xa (pv 3) Xd))))) (Xa (Xm (QE K rfl (Vs (by decide) hu)) rfl Z.b_sorted PyProof.Rows.boot_sorted (Xa (Xn Zr (Xh (Xg K rfl) (pv 0) Xc (λ_ _=>rfl)) (XF (Xa (XR (Xa (pv 2) (Xa (Xh (Xg K rfl) (pv 1) Xc (λ_ _=>rfl)) Xd))) Xd))) Xd)) Xd))))
  Xf))),λv_0 v_1 a_0 a_1=>(Yi K (r:=Xe) qs λa1 v2=>(Yi K (r:=(rV Xe)) (Ev.sh (IS (qt K) qN qN)) λa5 v6=>(Xt (Za qN λ_=>(KZ (Ev.ls (BP ql (Ev.ls (Vh (Yo (Y9 qS (EvB.sh (YU qB))) qa))))))))))⟩⟩
noncomputable def Co:=K8.1
noncomputable abbrev DG (P:Program)(w:World)(K:PySem.W.Frag)(mg:Str->Option Value)(base:Heap):Prop:=Fn P w K mg base 2 "curled" ["drawing","move"] (sp2 (rP2 (rV (rV Xe)) (rV (rP2 Xe Xe))) (rPL rMx) (oT2 (oL (oL (oF Xe))) (oL (oF (rP2 Xe Xe)))) Co K)
theorem JU:FnScope ["drawing","move","one","two","under","walks"] ["drawing","move"] (Xj B3):=⟨rfl,rfl,rfl,by decide+kernel,rfl,by decide+kernel,by decide+kernel⟩
noncomputable def Lm:{m:((List (List Int))×(List (Int×Int)))->(List Mx)->Rs ((List (List Int))×(List (Int×Int))) // ∀{P:Program}{w:World}{K:PySem.W.Frag}{mg:Str->Option Value}{base:Heap} (D:Def K mg "laid" B3 ["drawing","move"]) (g_with_pair:Q5 P w K mg base) (Z:Blt mg),Fn P w K mg base 2 "laid" ["drawing","move"] (sp2 (rP2 (rV (rV Xe)) (rV (rP2 Xe Xe))) (rPL rMx) (oT2 (oL (oL (oF Xe))) (oL (oF (rP2 Xe Xe)))) m K)}:=⟨_, @λP w K mg base D g_with_pair Z=>go2 D JU 4 1 rfl rfl λhr hu hu1=>⟨_,(Xb (Xo (i:=2) JU.nd rfl (Or.inl rfl) (Xh (Xg K rfl) (pv 1) Xc (λ_ _=>rfl)))
  (Xb (Xo (i:=3) JU.nd rfl (Or.inl rfl) (Xh (Xg K rfl) (pv 1) Xc (λ_ _=>rfl)))
  (Xb (Xo (i:=4) JU.nd rfl (Or.inl rfl) (QH (Yv (Xh (Xg K rfl) (pv 1) Xc (λ_ _=>rfl))) (XF (Xa (Yr XU (pv 3)) (Xa (Yr XU (pv 2)) Xd))) (XF (Xa (Yr XU (pv 2)) (Xa (Yr XU (pv 3)) Xd)))))
  (Xb (Xo (i:=5) JU.nd rfl (Or.inl rfl) (XA g_with_pair hr (by decide) (Xa (Xh (Xg K rfl) (pv 0) Xc (λ_ _=>rfl)) (Xa (Xh (Xg K rfl) (pv 1) Xc (λ_ _=>rfl)) (Xa (Xh (Xg K rfl) (pv 1) Xc (λ_ _=>rfl)) (Xa (XF (Xa (pv 2) (Xa (pv 3) Xd))) Xd XX))))))
  (Xb (Xo (i:=5) JU.nd rfl (Or.inl rfl) (XA g_with_pair hr (by decide) (Xa (pv 5) (Xa (Xh (Xg K rfl) (pv 1) Xc (λ_ _=>rfl)) (Xa (Xh (Xg K rfl) (pv 1) Xc (λ_ _=>rfl)) (Xa (pv 4) Xd))))))
  (Xb (Xr (XR (Xa (pv 5) (Xa (Xm (QE K rfl (Vs (by decide) hu)) rfl Z.b_sorted PyProof.Rows.boot_sorted (Xa (Xn Zr (Xh (Xg K rfl) (pv 0) Xc (λ_ _=>rfl)) (XF (Xa (XR (Xa (pv 2) (Xa (Xh (Xg K rfl) (pv 1) Xc (λ_ _=>rfl)) Xd))) (Xa (XR (Xa (pv 3) (Xa (Yr XU (Xh (Xg K rfl) (pv 1) Xc (λ_ _=>rfl))) Xd))) Xd)))) Xd)) Xd))))
  Xf)))))),λv_0 v_1 a_0 a_1=>(Yi K (r:=Xe) qs λa1 v2=>(Yi K (r:=Xe) qs λa5 v6=>(Yi K (r:=(rV Xe)) (Ev.sh (IS (qt K) qN qN)) λa9 v10=>(Y6 K 0 qN λa28 v29 C30=>(Y6 K 0 qN λa46 v47 C48=>(Xt (Za JK λ_=>(KZ (Ev.ls (BP ql (Ev.ls (Vh (Yo (Y9 qS (EvB.sh (YU qB))) qa)))))))))))))⟩⟩
noncomputable def OG:=Lm.1
noncomputable abbrev Lu (P:Program)(w:World)(K:PySem.W.Frag)(mg:Str->Option Value)(base:Heap):Prop:=Fn P w K mg base 2 "laid" ["drawing","move"] (sp2 (rP2 (rV (rV Xe)) (rV (rP2 Xe Xe))) (rPL rMx) (oT2 (oL (oL (oF Xe))) (oL (oF (rP2 Xe Xe)))) OG K)
theorem Qo:FnScope ["walks","at","place","told"] ["walks","at","place"] (Xj Y2):=⟨rfl,rfl,rfl,by decide+kernel,rfl,by decide+kernel,by decide+kernel⟩
noncomputable def Zs:{m:(List (List Int))->Int->Int->Rs (List (List Int)) // ∀{P:Program}{w:World}{K:PySem.W.Frag}{mg:Str->Option Value}{base:Heap} (D:Def K mg "without_pair" Y2 ["walks","at","place"]) (Z:Blt mg),Fn P w K mg base 1 "without_pair" ["walks","at","place"] (sp3 (rV (rV Xe)) Xe Xe (oL (oL (oF Xe))) m K)}:=⟨_, @λP w K mg base D Z=>go3 D Qo 1 1 rfl rfl λhr hu hu1=>⟨_,(Xb (ZO 3 (Xj Y2) ["walks","at","place","told"] ["walk"] [] rfl Qo.nd rfl rfl (XD (K:=K) rfl (pv 0)) (Ys (by decide)) (λcl C s H ex E=>⟨Xw (i:=0) (show List.Nodup (["walk"]:List Str) by decide+kernel) rfl (Or.inl rfl),YW,(XL (X0 K rfl) rfl Z.b_list PyProof.Rows.boot_list (Xa (pv 0) Xd))⟩))
  (Xb (Y4 (Xn Zr (XC (Yn K rfl) (Xh (Xi K rfl) (pv 3) (pv 1) (λ_ _=>rfl)) X3 (XG (pv 2))) (XC (Yn K rfl) (Xh (Xi K rfl) (pv 3) (pv 1) (λ_ _=>rfl)) (XG (Xn XE (pv 2) Xc)) X3)) (Z8 (pv 3) (pv 1) YA))
  (Xb (Xr (pv 3))
  Xf))),λv_0 v_1 v_2 a_0 a_1 a_2=>(Y6 K (o:=(oL (oL (oF Xe)))) 0 (YT (λ_=>tg1 0) qw (λC4 a5 v6=>qN)) λa1 v2 C3=>(Vl K qN (λ_=>qB) λa27 C28=>(Xt JK)))⟩⟩
noncomputable def Zv:=Zs.1
noncomputable abbrev Zz (P:Program)(w:World)(K:PySem.W.Frag)(mg:Str->Option Value)(base:Heap):Prop:=Fn P w K mg base 1 "without_pair" ["walks","at","place"] (sp3 (rV (rV Xe)) Xe Xe (oL (oL (oF Xe))) Zv K)
theorem Zm:FnScope ["move","ahead"] ["move"] (Xj YY):=⟨rfl,rfl,rfl,by decide+kernel,rfl,by decide+kernel,by decide+kernel⟩
noncomputable def ZF:{m:(List Mx)->Rs Int // ∀{P:Program}{w:World}{K:PySem.W.Frag}{mg:Str->Option Value}{base:Heap} (D:Def K mg "bare_over_place" YY ["move"]) (Z:Blt mg),Fn P w K mg base 1 "bare_over_place" ["move"] (sp1 (rPL rMx) (oF Xe) m K)}:=⟨_, @λP w K mg base D Z=>go1 D Zm 1 0 rfl rfl λhr hu hu1=>⟨_,(Xb (Xo (i:=1) Zm.nd rfl (Or.inl rfl) (Z6 (X1 Ya (Xh (Xg K rfl) (pv 0) Xc (λ_ _=>rfl)) (Xh (Xg K rfl) (pv 0) Xc (λ_ _=>rfl)) (Xs _)) (Qn (X1 Vy (Xh (Xg K rfl) (pv 0) Xc (λ_ _=>rfl)) (Xh (Xg K rfl) (pv 0) Xc (λ_ _=>rfl)) (Xs _)))))
  (Xb (Xr (QH (Yv (pv 1)) (Xn Zd (Xh (Xg K rfl) (pv 0) Xc (λ_ _=>rfl)) Xc) (Xh (Xg K rfl) (pv 0) Xc (λ_ _=>rfl))))
  Xf)),λv_0 a_0=>(Yi K qS λa1 v2=>(Xt (IS (qt K) qM qn)))⟩⟩
noncomputable def JV:=ZF.1
noncomputable abbrev ZE (P:Program)(w:World)(K:PySem.W.Frag)(mg:Str->Option Value)(base:Heap):Prop:=Fn P w K mg base 1 "bare_over_place" ["move"] (sp1 (rPL rMx) (oF Xe) JV K)
theorem Vt:FnScope ["drawing","pair"] ["drawing","pair"] (Xj YK):=⟨rfl,rfl,rfl,by decide+kernel,rfl,by decide+kernel,by decide+kernel⟩
noncomputable def Zi:{m:((List (List Int))×(List (Int×Int)))->(Int×Int)->Rs (List (Int×Int)) // ∀{P:Program}{w:World}{K:PySem.W.Frag}{mg:Str->Option Value}{base:Heap} (D:Def K mg "signs_without" YK ["drawing","pair"]) (Z:Blt mg),Fn P w K mg base 1 "signs_without" ["drawing","pair"] (sp2 (rP2 (rV (rV Xe)) (rV (rP2 Xe Xe))) (rP2 Xe Xe) (oL (oF (rP2 Xe Xe))) m K)}:=⟨_, @λP w K mg base D Z=>go2 D Vt 0 0 rfl rfl λhr hu hu1=>⟨_,(Xb (Xr (Zn (sc:=(Xj YK)) (N0:=["drawing","pair"]) (tns:=["entry"]) (caps:=[(1,"pair")]) rfl (XD (K:=K) rfl (Xh (Xg K rfl) (pv 0) Xc (λ_ _=>rfl))) (Ys (by decide)) (λcl C s H ex E=>⟨Xw (i:=0) (show List.Nodup (["entry","pair"]:List Str) by decide+kernel) rfl (Or.inl rfl),(UH (Xq (Jp K rfl) (Xh (Xg K rfl) (pv 0) Xc (λ_ _=>rfl)) (pv 1) rfl)),(pv 0)⟩)))
  Xf),λv_0 v_1 a_0 a_1=>(Xt (JF (λ_=>tg1 0) qw (λC2 a3 v4=>(XN (K:=K) (KP qB qb))) (λC2 a3 v4=>qM)))⟩⟩
noncomputable def Qy:=Zi.1
noncomputable abbrev Zj (P:Program)(w:World)(K:PySem.W.Frag)(mg:Str->Option Value)(base:Heap):Prop:=Fn P w K mg base 1 "signs_without" ["drawing","pair"] (sp2 (rP2 (rV (rV Xe)) (rV (rP2 Xe Xe))) (rP2 Xe Xe) (oL (oF (rP2 Xe Xe))) Qy K)
theorem Ji:FnScope ["drawing","move","over","walks"] ["drawing","move"] (Xj K3):=⟨rfl,rfl,rfl,by decide+kernel,rfl,by decide+kernel,by decide+kernel⟩
noncomputable def DA:{m:((List (List Int))×(List (Int×Int)))->(List Mx)->Rs ((List (List Int))×(List (Int×Int))) // ∀{P:Program}{w:World}{K:PySem.W.Frag}{mg:Str->Option Value}{base:Heap} (D:Def K mg "unlaid" K3 ["drawing","move"]) (g_pair_at:ZB P w K mg base) (g_without_pair:Zz P w K mg base) (g_bare_over_place:ZE P w K mg base) (g_signs_without:Zj P w K mg base) (Z:Blt mg),Fn P w K mg base 3 "unlaid" ["drawing","move"] (sp2 (rP2 (rV (rV Xe)) (rV (rP2 Xe Xe))) (rPL rMx) (oT2 (oL (oL (oF Xe))) (oL (oF (rP2 Xe Xe)))) m K)}:=⟨_, @λP w K mg base D g_pair_at g_without_pair g_bare_over_place g_signs_without Z=>go2 D Ji 2 1 rfl rfl λhr hu hu1=>⟨_,(Xb (Xo (i:=2) Ji.nd rfl (Or.inl rfl) (XA g_pair_at hr (by decide) (Xa (pv 0) (Xa (Xh (Xg K rfl) (pv 1) Xc (λ_ _=>rfl)) (Xa (Xh (Xg K rfl) (pv 1) Xc (λ_ _=>rfl)) Xd)))))
  (Xb (Xo (i:=3) Ji.nd rfl (Or.inl rfl) (XA g_without_pair hr (by decide) (Xa (Xh (Xg K rfl) (pv 0) Xc (λ_ _=>rfl)) (Xa (Xh (Xg K rfl) (pv 1) Xc (λ_ _=>rfl)) (Xa (Xh (Xg K rfl) (pv 1) Xc (λ_ _=>rfl)) Xd)))))
  (Xb (Xo (i:=3) Ji.nd rfl (Or.inl rfl) (XA g_without_pair hr (by decide) (Xa (pv 3) (Xa (Xh (Xg K rfl) (pv 1) Xc (λ_ _=>rfl)) (Xa (XA g_bare_over_place hr (by decide) (Xa (pv 1) Xd)) Xd)))))
  (Xb (Xr (XR (Xa (pv 3) (Xa (XA g_signs_without hr (by decide) (Xa (pv 0) (Xa (pv 2) Xd))) Xd))))
  Xf)))),λv_0 v_1 a_0 a_1=>(Yi K qS λa1 v2=>(Y6 K 0 qN λa11 v12 C13=>(Y6 K 0 qN λa23 v24 C25=>(Xt (Za JK λ_=>qN)))))⟩⟩
noncomputable def IB:=DA.1
noncomputable abbrev Ca (P:Program)(w:World)(K:PySem.W.Frag)(mg:Str->Option Value)(base:Heap):Prop:=Fn P w K mg base 3 "unlaid" ["drawing","move"] (sp2 (rP2 (rV (rV Xe)) (rV (rP2 Xe Xe))) (rPL rMx) (oT2 (oL (oL (oF Xe))) (oL (oF (rP2 Xe Xe)))) IB K)
theorem Fr:FnScope ["drawing","move","word","pair"] ["drawing","move"] (Xj Ho):=⟨rfl,rfl,rfl,by decide+kernel,rfl,by decide+kernel,by decide+kernel⟩
noncomputable def Gq:{m:((List (List Int))×(List (Int×Int)))->(List Mx)->Rs ((List (List Int))×(List (Int×Int))) // ∀{P:Program}{w:World}{K:PySem.W.Frag}{mg:Str->Option Value}{base:Heap} (D:Def K mg "done" Ho ["drawing","move"]) (g_refuse_illegal:Z7 P w K mg base) (g_passed:Cg P w K mg base) (g_turned:DP P w K mg base) (g_curled:DG P w K mg base) (g_pair_at:ZB P w K mg base) (g_laid:Lu P w K mg base) (g_unlaid:Ca P w K mg base) (g_without_pair:Zz P w K mg base) (g_signs_without:Zj P w K mg base) (Z:Blt mg),Fn P w K mg base 6 "done" ["drawing","move"] (sp2 (rP2 (rV (rV Xe)) (rV (rP2 Xe Xe))) (rPL rMx) (oT2 (oL (oL (oF Xe))) (oL (oF (rP2 Xe Xe)))) m K)}:=⟨_, @λP w K mg base D g_refuse_illegal g_passed g_turned g_curled g_pair_at g_laid g_unlaid g_without_pair g_signs_without Z=>go2 D Fr 2 0 rfl rfl λhr hu hu1=>⟨_,(Xb (XV (XA g_refuse_illegal hr (by decide) (Xa (pv 0) (Xa (pv 1) Xd))))
  (Xb (Xo (i:=2) Fr.nd rfl (Or.inl rfl) (Xh (Xg K rfl) (pv 1) Xc (λ_ _=>rfl)))
  (Xb (XM (Xq Ya (pv 2) XJ (Xs _))
   (Xb (Xr (XA g_turned hr (by decide) (Xa (pv 0) (Xa (Xh (Xg K rfl) (pv 1) Xc (λ_ _=>rfl)) (Xa (Xh (Xg K rfl) (pv 1) Xc (λ_ _=>rfl)) Xd)))))
   Xf)
   Xf)
  (Xb (XM (Xq Ya (pv 2) XJ (Xs _))
   (Xb (Xr (XA g_curled hr (by decide) (Xa (pv 0) (Xa (pv 1) Xd))))
   Xf)
   Xf)
  (Xb (XM (Xq Ya (pv 2) XJ (Xs _))
   (Xb (Xo (i:=3) Fr.nd rfl (Or.inl rfl) (XA g_pair_at hr (by decide) (Xa (pv 0) (Xa (Xh (Xg K rfl) (pv 1) Xc (λ_ _=>rfl)) (Xa (Xh (Xg K rfl) (pv 1) Xc (λ_ _=>rfl)) Xd)))))
   (Xb (Xr (XR (Xa (XA g_without_pair hr (by decide) (Xa (Xh (Xg K rfl) (pv 0) Xc (λ_ _=>rfl)) (Xa (Xh (Xg K rfl) (pv 1) Xc (λ_ _=>rfl)) (Xa (Xh (Xg K rfl) (pv 1) Xc (λ_ _=>rfl)) Xd)))) (Xa (XA g_signs_without hr (by decide) (Xa (pv 0) (Xa (pv 3) Xd))) Xd))))
   Xf))
   Xf)
  (Xb (XM (Xq Ya (pv 2) XJ (Xs _))
   (Xb (Xr (XA g_laid hr (by decide) (Xa (pv 0) (Xa (pv 1) Xd))))
   Xf)
   Xf)
  (Xb (XM (Xq Ya (pv 2) XJ (Xs _))
   (Xb (Xr (XA g_unlaid hr (by decide) (Xa (pv 0) (Xa (pv 1) Xd))))
   Xf)
   Xf)
  (Xb (Xr (XA g_passed hr (by decide) (Xa (pv 0) (Xa (pv 1) Xd))))
  Xf)))))))),λv_0 v_1 a_0 a_1=>(Nk (K:=K) qB (Yi K (r:=UZ) qs λa5 v6=>(Ye (qt K) (Xt qN) (Ye (qt K) (Xt qN) (Ye (qt K) (Yi K qS λa29 v30=>(Xt (Za qN λ_=>qN))) (Ye (qt K) (Xt qN) (Ye (qt K) (Xt qN) (Xt qN))))))))⟩⟩
noncomputable def Ju:=Gq.1
noncomputable abbrev LH (P:Program)(w:World)(K:PySem.W.Frag)(mg:Str->Option Value)(base:Heap):Prop:=Fn P w K mg base 6 "done" ["drawing","move"] (sp2 (rP2 (rV (rV Xe)) (rV (rP2 Xe Xe))) (rPL rMx) (oT2 (oL (oL (oF Xe))) (oL (oF (rP2 Xe Xe)))) Ju K)
theorem KM:FnScope ["_law_script","_law_place","_law_seed","_law_cell_here"] ["_law_script","_law_place"] (Xj Hv):=⟨rfl,rfl,rfl,by decide+kernel,rfl,by decide+kernel,by decide+kernel⟩
noncomputable def BU:{m:(List Int)->Int->Rs Int // ∀{P:Program}{w:World}{K:PySem.W.Frag}{mg:Str->Option Value}{base:Heap} (D:Def K mg "_law_cell" Hv ["_law_script","_law_place"]) (Z:Blt mg),Fn P w K mg base 1 "_law_cell" ["_law_script","_law_place"] (sp2 (rL Xe) Xe (oF Xe) m K)}:=⟨_, @λP w K mg base D Z=>go2 D KM 2 0 rfl rfl λhr hu hu1=>⟨_,(Xb (XM (Xq Vy (pv 1) (Xm (Xl K rfl) rfl Z.b_len PySem.boot_len (Xa (pv 0) Xd)) (Xs _))
   (Xb (Xr (Xh (Xi K rfl) (pv 0) (pv 1) (λ_ _=>rfl)))
   Xf)
   Xf)
  (Xb (Xo (i:=2) KM.nd rfl (Or.inl rfl) Xc)
  (Xb (Yw PassesOwn.never rfl (XD (K:=K) rfl (XC (Yn K rfl) (pv 0) X3 (XG Xc))) (Xw (i:=3) KM.nd rfl (Or.inl rfl))
   (Xb (Xo (i:=2) KM.nd rfl (Or.inl rfl) (Xn Yb (Xn XE (Xn XE (Xn XY (pv 2) Xc) (Xn Yb (pv 3) Xc)) Xc) Xc))
   Xf))
  (Xb (Xr (Xn Yb (Xn XE (pv 2) (Xn XY Xc (pv 1))) Xc))
  Xf)))),λv_0 v_1 a_0 a_1=>(Ye (XN (K:=K) (Kk qB (HN qB))) (Xt (EvS.ev (EvB.sh (Nb qB qB)))) (Yi K qS λa7 v8=>(Fh K (λO (x13:Option V×V)=>[]) (λs x13=>[some v_0,some v_1,some x13.2,x13.1]) (λS (g14:Int) x13=>(SC.add S K Xe x13.2 g14)) (λ_=>tg1 3) ((none),v8) (a7) (Ze (Ev.sh (ET qB (qp K) (qp K)))) rfl rfl (λ_ s=>(SC.i s s.r)) (λg15 x16 a17 v18=>(Yi K qS λa19 v20=>(YC ((some v18),v20) (a19) rfl rfl))) λg31 x32=>(Xt qM))))⟩⟩
noncomputable def EI:=BU.1
noncomputable abbrev LW (P:Program)(w:World)(K:PySem.W.Frag)(mg:Str->Option Value)(base:Heap):Prop:=Fn P w K mg base 1 "_law_cell" ["_law_script","_law_place"] (sp2 (rL Xe) Xe (oF Xe) EI K)
theorem B7:FnScope ["_law_cell_here","_law_k","_law_one","_law_two"] ["_law_cell_here","_law_k"] (Xj Mp):=⟨rfl,rfl,rfl,by decide+kernel,rfl,by decide+kernel,by decide+kernel⟩
noncomputable def Nd:{m:Int->Int->Rs Int // ∀{P:Program}{w:World}{K:PySem.W.Frag}{mg:Str->Option Value}{base:Heap} (D:Def K mg "_law_mix" Mp ["_law_cell_here","_law_k"]) (Z:Blt mg),Fn P w K mg base 1 "_law_mix" ["_law_cell_here","_law_k"] (sp2 Xe Xe (oF Xe) m K)}:=⟨_, @λP w K mg base D Z=>go2 D B7 2 0 rfl rfl λhr hu hu1=>⟨_,(Xb (Xo (i:=2) B7.nd rfl (Or.inl rfl) (Xn Yb (Xn J7 (Xn XE (Xn XE (Xn Yb (pv 0) Xc) (Xn XY Xc (pv 1))) Xc) Xc) Xc))
  (Xb (Xo (i:=3) B7.nd rfl (Or.inl rfl) (Xn Yb (Xn XE (Xn XE (Xn XY (pv 2) Xc) (Xn XY (Xn XY Xc (pv 1)) (pv 1))) Xc) Xc))
  (Xb (Xr (Xn K0 (pv 3) Xc))
  Xf))),λv_0 v_1 a_0 a_1=>(Yi K qS λa1 v2=>(Yi K qS λa15 v16=>(Xt qM)))⟩⟩
noncomputable def Ni:=Nd.1
noncomputable abbrev PH (P:Program)(w:World)(K:PySem.W.Frag)(mg:Str->Option Value)(base:Heap):Prop:=Fn P w K mg base 1 "_law_mix" ["_law_cell_here","_law_k"] (sp2 Xe Xe (oF Xe) Ni K)
theorem VT:FnScope ["_law_script","_law_place","_law_sizes","_law_cell_here","_law_left","_law_some","_law_k","_law_other"] ["_law_script","_law_place","_law_sizes"] (Xj Mf):=⟨rfl,rfl,rfl,by decide+kernel,rfl,by decide+kernel,by decide+kernel⟩
noncomputable def Nm:{m:(List Int)->Int->(List Int)->Rs (List Int) // ∀{P:Program}{w:World}{K:PySem.W.Frag}{mg:Str->Option Value}{base:Heap} (D:Def K mg "_law_row" Mf ["_law_script","_law_place","_law_sizes"]) (g_cell:LW P w K mg base) (g_mix:PH P w K mg base) (Z:Blt mg),Fn P w K mg base 2 "_law_row" ["_law_script","_law_place","_law_sizes"] (sp3 (rL Xe) Xe (rV Xe) (oL (oF Xe)) m K)}:=⟨_, @λP w K mg base D g_cell g_mix Z=>go3 D VT 5 1 rfl rfl λhr hu hu1=>⟨_,(Xb (Xo (i:=3) VT.nd rfl (Or.inl rfl) (XA g_cell hr (by decide) (Xa (pv 0) (Xa (pv 1) Xd))))
  (Xb (Xo (i:=4) VT.nd rfl (Or.inl rfl) (pv 3))
  (Xb (Xo (i:=5) VT.nd rfl (Or.inl rfl) (XF Xd))
  (Xb (Yw PassesOwn.never rfl (Yu rfl Z.b_range (Xa (Xm (Xl K rfl) rfl Z.b_len PySem.boot_len (Xa (pv 2) Xd)) Xd)) (Xw (i:=6) VT.nd rfl (Or.inl rfl))
   (Xb (XM (Xq Vy (pv 3) (Xn J7 Xc Xc) (Xs _))
    (Xb (XV (QB PySem.F.plainAttrs_list PySem.F.slot_list_append PySem.F.type_list_append X8 (pv 5) (Xa (Xn Yb (XA g_mix hr (by decide) (Xa (pv 3) (Xa (pv 6) Xd))) (Xh (Xi K rfl) (pv 2) (pv 6) (λ_ _=>rfl))) Xd)))
    Xf)
    (Xb (XM (Xq F9 (pv 4) Xc (Xs _))
     (Xb (XV (QB PySem.F.plainAttrs_list PySem.F.slot_list_append PySem.F.type_list_append X8 (pv 5) (Xa (Xn Yb (pv 4) (Xh (Xi K rfl) (pv 2) (pv 6) (λ_ _=>rfl))) Xd)))
     (Xb (Xo (i:=4) VT.nd rfl (Or.inl rfl) (Xn K0 (pv 4) (Xh (Xi K rfl) (pv 2) (pv 6) (λ_ _=>rfl))))
     Xf))
     (Xb (Xo (i:=7) VT.nd rfl (Or.inl rfl) (XA g_cell hr (by decide) (Xa (pv 0) (Xa (Xn Yb (Xn XE (Xn XE (pv 1) Xc) (pv 6)) Xc) Xd))))
     (Xb (XV (QB PySem.F.plainAttrs_list PySem.F.slot_list_append PySem.F.type_list_append X8 (pv 5) (Xa (Xn Yb (XA g_mix hr (by decide) (Xa (pv 7) (Xa (pv 6) Xd))) (Xh (Xi K rfl) (pv 2) (pv 6) (λ_ _=>rfl))) Xd)))
     Xf)))
    Xf))
   Xf))
  (Xb (Xr (pv 5))
  Xf))))),λv_0 v_1 v_2 a_0 a_1 a_2=>(Yi K qS λa1 v2=>(Yi K qS λa6 v7=>(Y6 K (o:=(oL (oF Xe))) 0 (UV (o:=(oF Xe))) λa8 v9 C10=>(Fh K (λO (x13:Option V×V×V×Option V×List Xx)=>[x13.2.2.2.2]) (λs x13=>[some v_0,some v_1,some v_2,some v2,some x13.2.2.1,some x13.2.1,x13.1,x13.2.2.2.1]) (λS (g14:(List Int)×Int) x13=>(SC.add (SC.addO S K (oL (oF Xe)) x13.2.1 g14.1 x13.2.2.2.2) K Xe x13.2.2.1 g14.2)) (λ_=>tg1 6) ((none),v9,v7,(none),C10) (a8,a6) qw rfl rfl (λ_ s=>(SC.i (SC.i s s.r) s.l.r)) (λg15 x16 a17 v18=>(ZR (λO (x24:V×V×Option V×List Xx)=>[x24.2.2.2]) (λs x24=>[some v_0,some v_1,some v_2,some v2,some x24.2.1,some x24.1,some v18,x24.2.2.1]) (λS (g25:(List Int)×Int) x24=>(SC.add (SC.addO S K (oL (oF Xe)) x24.1 g25.1 x24.2.2.2) K Xe x24.2.1 g25.2)) (YG (qt K) (EZ K qM λa35 C34=>(YC (x16.2.1,x16.2.2.1,(x16.2.2.2.1),C34) (a35,g15.2) rfl rfl)) (ZR (λO (x39:V×Option V×V×List Xx)=>[x39.2.2.2]) (λs x39=>[some v_0,some v_1,some v_2,some v2,some x39.1,some x39.2.2.1,some v18,x39.2.1]) (λS (g40:Int×(List Int)) x39=>(SC.addO (SC.add S K Xe x39.1 g40.1) K (oL (oF Xe)) x39.2.2.1 g40.2 x39.2.2.2)) (YG (qt K) (EZ K qM λa47 C46=>(Yi K qS λa48 v49=>(YC (v49,(x16.2.2.2.1),x16.2.1,C46) (a48,a47) rfl rfl))) (Yi K qS λa54 v55=>(EZ K qM λa74 C73=>(YC (x16.2.2.1,(some v55),x16.2.1,C73) (g15.2,a74) rfl rfl)))) λg76 x75=>(YC (x75.2.2.1,x75.1,(x75.2.1),x75.2.2.2) (g76.2,g76.1) rfl rfl))) λg78 x77=>(YC ((some v18),x77.1,x77.2.1,(x77.2.2.1),x77.2.2.2) (g78.1,g78.2) rfl rfl))) λg79 x80=>(Xt JK)))))⟩⟩
noncomputable def IF:=Nm.1
noncomputable abbrev IH (P:Program)(w:World)(K:PySem.W.Frag)(mg:Str->Option Value)(base:Heap):Prop:=Fn P w K mg base 2 "_law_row" ["_law_script","_law_place","_law_sizes"] (sp3 (rL Xe) Xe (rV Xe) (oL (oF Xe)) IF K)
theorem YJ:FnScope ["_law_lows","_law_signs","_law_strands","_law_seen","_law_walks","_law_start","_law_walk","_law_at","_law_k"] ["_law_lows","_law_signs","_law_strands"] (Xj Ky):=⟨rfl,rfl,rfl,by decide+kernel,rfl,by decide+kernel,by decide+kernel⟩
noncomputable def Kv:{m:(List Int)->(List Int)->Int->Rs (List (List Int)) // ∀{P:Program}{w:World}{K:PySem.W.Frag}{mg:Str->Option Value}{base:Heap} (D:Def K mg "_law_traced" Ky ["_law_lows","_law_signs","_law_strands"]) (Z:Blt mg),Fn P w K mg base 1 "_law_traced" ["_law_lows","_law_signs","_law_strands"] (sp3 (rV Xe) (rV Xe) Xe (oL (oL (oF Xe))) m K)}:=⟨_, @λP w K mg base D Z=>go3 D YJ 6 3 rfl rfl λhr hu hu1=>⟨_,(Xb (Xo (i:=3) YJ.nd rfl (Or.inl rfl) (Xn BL (XF (Xa Zf Xd)) (pv 2)))
  (Xb (Xo (i:=4) YJ.nd rfl (Or.inl rfl) (XF Xd))
  (Xb (Yw PassesOwn.never rfl (Yu rfl Z.b_range (Xa (pv 2) Xd)) (Xw (i:=5) YJ.nd rfl (Or.inl rfl))
   (Xb (XM (YQ (Yv (Xh (Xi K rfl) (pv 3) (pv 5) (λ_ _=>rfl))))
    (Xb (Xo (i:=6) YJ.nd rfl (Or.inl rfl) (XF Xd))
    (Xb (Xo (i:=7) YJ.nd rfl (Or.inl rfl) (pv 5))
    (Xb (DJ PassesOwn.never (YQ (Yv (Xh (Xi K rfl) (pv 3) (pv 7) (λ_ _=>rfl))))
     (Xb (Y4 Zf (Z8 (pv 3) (pv 7) YA))
     (Xb (Yw PassesOwn.never rfl (Yu rfl Z.b_range (Xa (Xm (Xl K rfl) rfl Z.b_len PySem.boot_len (Xa (pv 0) Xd)) Xd)) (Xw (i:=8) YJ.nd rfl (Or.inl rfl))
      (Xb (XM (Xq Ya (pv 7) (Xh (Xi K rfl) (pv 0) (pv 8) (λ_ _=>rfl)) (Xs _))
       (Xb (XV (QB PySem.F.plainAttrs_list PySem.F.slot_list_append PySem.F.type_list_append X8 (pv 6) (Xa (Xn XY (Xn XE (pv 8) Xc) (Xh (Xi K rfl) (pv 1) (pv 8) (λ_ _=>rfl))) Xd)))
       (Xb (Xo (i:=7) YJ.nd rfl (Or.inl rfl) (Xn XE (pv 7) Xc))
       Xf))
       (Xb (XM (Xq Ya (pv 7) (Xn XE (Xh (Xi K rfl) (pv 0) (pv 8) (λ_ _=>rfl)) Xc) (Xs _))
        (Xb (XV (QB PySem.F.plainAttrs_list PySem.F.slot_list_append PySem.F.type_list_append X8 (pv 6) (Xa (Xn XY (Yr XU (Xn XE (pv 8) Xc)) (Xh (Xi K rfl) (pv 1) (pv 8) (λ_ _=>rfl))) Xd)))
        (Xb (Xo (i:=7) YJ.nd rfl (Or.inl rfl) (Xn Zd (pv 7) Xc))
        Xf))
        Xf)
       Xf))
      Xf))
     Xf)))
    (Xb (XV (QB PySem.F.plainAttrs_list PySem.F.slot_list_append PySem.F.type_list_append X8 (pv 4) (Xa (pv 6) Xd)))
    Xf))))
    Xf)
   Xf))
  (Xb (Xr (pv 4))
  Xf)))),λv_0 v_1 v_2 a_0 a_1 a_2=>(Y6 K 1 qN λa1 v2 C3=>(Y6 K (o:=(oL (oL (oF Xe)))) 0 (UV (o:=(oL (oF Xe)))) λa9 v10 C11=>(Fh K (λO (x13:Option V×Option V×Option V×V×Option V×V×List Xx×List Xx)=>[x13.2.2.2.2.2.2.2,x13.2.2.2.2.2.2.1,[]]) (λs x13=>[some v_0,some v_1,some v_2,some x13.2.2.2.1,some x13.2.2.2.2.2.1,x13.1,x13.2.1,x13.2.2.1,x13.2.2.2.2.1]) (λS (g14:(List Bool)×(List (List Int))) x13=>(SC.addO (SC.addO S K (oL (oF Xy)) x13.2.2.2.1 g14.1 x13.2.2.2.2.2.2.1) K (oL (oL (oF Xe))) x13.2.2.2.2.2.1 g14.2 x13.2.2.2.2.2.2.2)) (λ_=>tg1 5) ((none),(none),(none),v2,(none),v10,C3,C11) (a1,a9) qw rfl rfl (λ_ s=>(SC.i (SC.i s s.l.r) s.r)) (λg15 x16 a17 v18=>(ZR (λO (x23:Option V×Option V×V×Option V×V×List Xx×List Xx)=>[x23.2.2.2.2.2.2,x23.2.2.2.2.2.1,[]]) (λs x23=>[some v_0,some v_1,some v_2,some x23.2.2.1,some x23.2.2.2.2.1,some v18,x23.1,x23.2.1,x23.2.2.2.1]) (λS (g24:(List Bool)×(List (List Int))) x23=>(SC.addO (SC.addO S K (oL (oF Xy)) x23.2.2.1 g24.1 x23.2.2.2.2.2.1) K (oL (oL (oF Xe))) x23.2.2.2.2.1 g24.2 x23.2.2.2.2.2.2)) (YG (qt K) (Y6 K (o:=(oL (oF Xe))) 2 (UV (o:=(oF Xe))) λa25 v26 C27=>(Yi K qS λa28 v29=>(LU (λO (x30:V×Option V×V×V×List Xx×List Xx)=>[x16.2.2.2.2.2.2.2,x30.2.2.2.2.1,x30.2.2.2.2.2]) (λs x30=>[some v_0,some v_1,some v_2,some x30.1,some x16.2.2.2.2.2.1,some v18,some x30.2.2.2.1,some x30.2.2.1,x30.2.1]) (λS (g31:(List Bool)×Int×(List Int)) x30=>(SC.addO (SC.add (SC.addO S K (oL (oF Xy)) x30.1 g31.1 x30.2.2.2.2.1) K Xe x30.2.2.1 g31.2.1) K (oL (oF Xe)) x30.2.2.2.1 g31.2.2 x30.2.2.2.2.2)) (a_2.natAbs+2) (x16.2.2.2.1,(x16.2.2.2.2.1),v29,v26,x16.2.2.2.2.2.2.1,C27) (g15.1,a28,a25) rfl rfl (λ_ s=>(SC.i (SC.i (SC.i s s.l.l.l.l.r) s.r) s.l.r)) (λg32 x33=>(qt K)) (λg32 x33=>(Vl K qM (λ_=>qB) λa39 C40=>(Fh K (λO (x43:Option V×V×V×List Xx)=>[x16.2.2.2.2.2.2.2,C40,x43.2.2.2]) (λs x43=>[some v_0,some v_1,some v_2,some x33.1,some x16.2.2.2.2.2.1,some v18,some x43.2.2.1,some x43.2.1,x43.1]) (λS (g44:Int×(List Int)) x43=>(SC.addO (SC.add S K Xe x43.2.1 g44.1) K (oL (oF Xe)) x43.2.2.1 g44.2 x43.2.2.2)) (λ_=>tg1 8) ((x33.2.1),x33.2.2.1,x33.2.2.2.1,x33.2.2.2.2.2) (g32.2.1,g32.2.2) qw rfl rfl (λ_ s=>(SC.i (SC.i s s.l.l.r) s.l.r)) (λg45 x46 a47 v48=>(ZR (λO (x54:V×V×List Xx)=>[x16.2.2.2.2.2.2.2,C40,x54.2.2]) (λs x54=>[some v_0,some v_1,some v_2,some x33.1,some x16.2.2.2.2.2.1,some v18,some x54.2.1,some x54.1,some v48]) (λS (g55:Int×(List Int)) x54=>(SC.addO (SC.add S K Xe x54.1 g55.1) K (oL (oF Xe)) x54.2.1 g55.2 x54.2.2)) (YG (qt K) (EZ K qM λa64 C63=>(Yi K qS λa65 v66=>(YC (v66,x46.2.2.1,C63) (a65,a64) rfl rfl))) (ZR (λO (x76:V×V×List Xx)=>[x16.2.2.2.2.2.2.2,C40,x76.2.2]) (λs x76=>[some v_0,some v_1,some v_2,some x33.1,some x16.2.2.2.2.2.1,some v18,some x76.2.1,some x76.1,some v48]) (λS (g77:Int×(List Int)) x76=>(SC.addO (SC.add S K Xe x76.1 g77.1) K (oL (oF Xe)) x76.2.1 g77.2 x76.2.2)) (YG (qt K) (EZ K qM λa87 C86=>(Yi K qS λa88 v89=>(YC (v89,x46.2.2.1,C86) (a88,a87) rfl rfl))) (YC (x46.2.1,x46.2.2.1,x46.2.2.2) (g45.1,g45.2) rfl rfl)) λg93 x92=>(YC (x92.1,x92.2.1,x92.2.2) (g93.1,g93.2) rfl rfl))) λg95 x94=>(YC ((some v48),x94.1,x94.2.1,x94.2.2) (g95.1,g95.2) rfl rfl))) λg96 x97=>(YC (x33.1,(x97.1),x97.2.1,x97.2.2.1,C40,x97.2.2.2) (a39,g96.1,g96.2) rfl rfl)))) λg99 x100=>(EZ K JK λa103 C102=>(YC ((some x100.2.2.2.1),(some x100.2.2.1),x100.1,(x100.2.1),x16.2.2.2.2.2.1,x100.2.2.2.2.1,C102) (g99.1,a103) rfl rfl))))) (YC ((x16.2.1),(x16.2.2.1),x16.2.2.2.1,(x16.2.2.2.2.1),x16.2.2.2.2.2.1,x16.2.2.2.2.2.2.1,x16.2.2.2.2.2.2.2) (g15.1,g15.2) rfl rfl)) λg105 x104=>(YC ((some v18),(x104.1),(x104.2.1),x104.2.2.1,(x104.2.2.2.1),x104.2.2.2.2.1,x104.2.2.2.2.2.1,x104.2.2.2.2.2.2) (g105.1,g105.2) rfl rfl))) λg106 x107=>(Xt JK))))⟩⟩
noncomputable def Gf:=Kv.1
noncomputable abbrev DX (P:Program)(w:World)(K:PySem.W.Frag)(mg:Str->Option Value)(base:Heap):Prop:=Fn P w K mg base 1 "_law_traced" ["_law_lows","_law_signs","_law_strands"] (sp3 (rV Xe) (rV Xe) Xe (oL (oL (oF Xe))) Gf K)
theorem X4:FnScope ["_law_walks","_law_signs","_law_some","_law_behind","_law_k","_law_one","_law_found","_law_sign","_law_far"] ["_law_walks","_law_signs","_law_some"] (Xj YV):=⟨rfl,rfl,rfl,by decide+kernel,rfl,by decide+kernel,by decide+kernel⟩
noncomputable def Q3:{m:(List (List Int))->(List Int)->(List Int)->Rs ((List (List Int))×(List (Int×Int))) // ∀{P:Program}{w:World}{K:PySem.W.Frag}{mg:Str->Option Value}{base:Heap} (D:Def K mg "_law_turn_back" YV ["_law_walks","_law_signs","_law_some"]) (Z:Blt mg),Fn P w K mg base 1 "_law_turn_back" ["_law_walks","_law_signs","_law_some"] (RD (oL (oL (oF Xe))) (rV Xe) (rV Xe) (oT2 (oL (oL (oF Xe))) (oL (oF (rP2 Xe Xe)))) m K)}:=⟨_, @λP w K mg base D Z=>by
 refine US D X4 (λvs H Q E h=>?_) (λf cdv A outer s H vs Q E hr h=>?_)
 ·obtain⟨v_0,v_1,v_2,a_0,a_1,a_2,b,rfl,_⟩:=h;rfl
 obtain⟨v_0,v_1,v_2,a_0,a_1,a_2,b,rfl,C_0,hw,h_0,h_1,h_2,hm,q⟩:=h
 have hu:=hu8 hr
 have hu1:=Uu hr
 refine⟨_,(Xb (Xo (i:=3) X4.nd rfl (Or.inl rfl) Ie)
  (Xb (Yw PassesOwn.never rfl (Yu rfl Z.b_range (Xa (Xm (Xl K rfl) rfl Z.b_len PySem.boot_len (Xa (pv 0) Xd)) Xd)) (Xw (i:=4) X4.nd rfl (Or.inl rfl))
   (Xb (XM (Xq Ya (Xh (Xi K rfl) (pv 2) (Xn XE Xc (pv 4)) (λ_ _=>rfl)) Xc (Xs _))
    (Xb (Y4 (GO K rfl (Xh (Xi K rfl) (pv 0) (pv 4) (λ_ _=>rfl)) (Yr XU Xc)) (Z8 (pv 0) (pv 4) YA))
    (Xb (Yw PassesOwn.never rfl (XD (K:=K) rfl (Xh (Xi K rfl) (pv 0) (pv 4) (λ_ _=>rfl))) (Xw (i:=5) X4.nd rfl (Or.inl rfl))
     (Xb (Ul hu1 (pv 3) (pv 5) Zf rfl)
     Xf))
    Xf))
    Xf)
   Xf))
  (Xb (Xo (i:=6) X4.nd rfl (Or.inl rfl) (XF Xd))
  (Xb (Yw PassesOwn.never rfl (Yu rfl Z.b_range (Xa (Xm (Xl K rfl) rfl Z.b_len PySem.boot_len (Xa (pv 1) Xd)) Xd)) (Xw (i:=4) X4.nd rfl (Or.inl rfl))
   (Xb (Xo (i:=7) X4.nd rfl (Or.inl rfl) (Xh (Xi K rfl) (pv 1) (pv 4) (λ_ _=>rfl)))
   (Xb (XM (Xq Ba (LO (EG hu1 (Xn XE (pv 4) Xc) (pv 3))) (LO (EG hu1 (Xn Zd (Yr XU (pv 4)) Xc) (pv 3))) (Xs _))
    (Xb (Xo (i:=7) X4.nd rfl (Or.inl rfl) (Yr XU (pv 7)))
    Xf)
    Xf)
   (Xb (XV (QB PySem.F.plainAttrs_list PySem.F.slot_list_append PySem.F.type_list_append X8 (pv 6) (Xa (XR (Xa (Xn XE (pv 4) Xc) (Xa (pv 7) Xd))) Xd)))
   Xf))))
  (Xb (Xo (i:=8) X4.nd rfl (Or.inr rfl) (Xh (Xi K rfl) (XF (Xa Xc (Xa Xc (Xa (Xn J7 Xc Xc) Xd)))) (Xh (Xi K rfl) (pv 2) (Yr XU Xc) (λ_ _=>rfl)) (λ_ _=>rfl)))
  (Xb (ZO 0 (Xj YV) ["_law_walks","_law_signs","_law_some","_law_behind","_law_k","_law_one","_law_found","_law_sign","_law_far"] ["_law_walk"] [(8,"_law_far")] rfl X4.nd rfl rfl (XD (K:=K) rfl (pv 0)) (Ys (by decide)) (λcl C s H ex E=>⟨Xw (i:=0) (show List.Nodup (["_law_walk","_law_far"]:List Str) by decide+kernel) rfl (Or.inl rfl),YW,(IN (sc:=(Ri BT (Xj YV))) (N0:=["_law_walk","_law_far"]) (tns:=["_law_one"]) (caps:=[(1,"_law_far")]) rfl (XD (K:=K) rfl (pv 0)) (Ys (by decide)) (λcl C s H ex E=>⟨Xw (i:=0) (show List.Nodup (["_law_one","_law_far"]:List Str) by decide+kernel) rfl (Or.inl rfl),YW,(Xn XY (pv 0) (pv 1))⟩))⟩))
  (Xb (Xr (XR (Xa (pv 0) (Xa (Zn (sc:=(Xj YV)) (N0:=["_law_walks","_law_signs","_law_some","_law_behind","_law_k","_law_one","_law_found","_law_sign","_law_far"]) (tns:=["_law_one","_law_sign"]) (caps:=[(8,"_law_far")]) rfl (XD (K:=K) rfl (pv 6)) (L5 (by decide) (by decide)) (λcl C s H ex E=>⟨MW K rfl rfl (Yf (Xw (i:=0) (show List.Nodup (["_law_one","_law_sign","_law_far"]:List Str) by decide+kernel) rfl (Or.inl rfl)) (Yf (Xw (i:=1) (show List.Nodup (["_law_one","_law_sign","_law_far"]:List Str) by decide+kernel) rfl (Or.inl rfl)) Qu)),YW,(XR (Xa (Xn XY (pv 0) (pv 2)) (Xa (pv 1) Xd)))⟩)) Xd))))
  Xf))))))),?_⟩
 refine RC (S:=(SC.add (SC.add (SC.addO SC.nil K (oL (oL (oF Xe))) v_0 a_0 C_0) K (rV Xe) v_1 a_1) K (rV Xe) v_2 a_2)) (σ:=[some v_0,some v_1,some v_2,none,none,none,none,none,none]) 3 0 (by decide) ?_ hw (SC.i (SC.i (SC.i SC.t h_0) h_1) h_2) hm q rfl
 exact(Y6 K (o:=(oD Xy)) 2 (NA (r:=Xy)) λa1 v2 C3=>(Fh K (λO (x6:Option V×V×Option V×V×List Xx×List Xx)=>[x6.2.2.2.2.1,[],x6.2.2.2.2.2]) (λs x6=>[some x6.2.1,some v_1,some v_2,some x6.2.2.2.1,x6.1,x6.2.2.1,none,none,none]) (λS (g7:(List (List Int))×(List (Int×Bool))) x6=>(SC.addO (SC.addO S K (oL (oL (oF Xe))) x6.2.1 g7.1 x6.2.2.2.2.1) K (oD Xy) x6.2.2.2.1 g7.2 x6.2.2.2.2.2)) (λ_=>tg1 4) ((none),v_0,(none),v2,C_0,C3) (a_0,a1) qw rfl rfl (λ_ s=>(SC.i (SC.i s s.l.l.l.r) s.r)) (λg8 x9 a10 v11=>(ZR (λO (x19:V×Option V×V×List Xx×List Xx)=>[x19.2.2.2.1,[],x19.2.2.2.2]) (λs x19=>[some x19.1,some v_1,some v_2,some x19.2.2.1,some v11,x19.2.1,none,none,none]) (λS (g20:(List (List Int))×(List (Int×Bool))) x19=>(SC.addO (SC.addO S K (oL (oL (oF Xe))) x19.1 g20.1 x19.2.2.2.1) K (oD Xy) x19.2.2.1 g20.2 x19.2.2.2.2)) (YG (qt K) (Vl K (G5 ql qB) (λ_=>qB) λa28 C29=>(Py K (λO (x30:Option V×V×List Xx)=>[C29,[],x30.2.2]) (λs x30=>[some x9.2.1,some v_1,some v_2,some x30.2.1,some v11,x30.1,none,none,none]) (λS (g31:(List (Int×Bool))) x30=>(SC.addO S K (oD Xy) x30.2.1 g31 x30.2.2)) (r:=Xe) qB (λ_=>tg1 5) ((x9.2.2.1),x9.2.2.2.1,x9.2.2.2.2.2) (g8.2) (λ_=>rfl) rfl rfl (λ_ s=>(SC.i s s.l.l.r)) (λg32 x33 a34 v35=>(Hg K qS qB λa38 C39=>(YC ((some v35),x33.2.1,C39) (a38) rfl rfl))) λg40 x41=>(YC (x9.2.1,(x41.1),x41.2.1,C29,x41.2.2) (a28,g40) rfl rfl))) (YC (x9.2.1,(x9.2.2.1),x9.2.2.2.1,x9.2.2.2.2.1,x9.2.2.2.2.2) (g8.1,g8.2) rfl rfl)) λg45 x44=>(YC ((some v11),x44.1,(x44.2.1),x44.2.2.1,x44.2.2.2.1,x44.2.2.2.2) (g45.1,g45.2) rfl rfl))) λg46 x47=>(Y6 K (o:=(oL (oF (rP2 Xe Xe)))) 1 (UV (o:=(oF (rP2 Xe Xe)))) λa48 v49 C50=>(Fh K (λO (x53:Option V×Option V×V×List Xx)=>[x47.2.2.2.2.1,x53.2.2.2,x47.2.2.2.2.2]) (λs x53=>[some x47.2.1,some v_1,some v_2,some x47.2.2.2.1,x53.1,x47.2.2.1,some x53.2.2.1,x53.2.1,none]) (λS (g54:(List (Int×Int))) x53=>(SC.addO S K (oL (oF (rP2 Xe Xe))) x53.2.2.1 g54 x53.2.2.2)) (λ_=>tg1 4) ((x47.1),(none),v49,C50) (a48) qw rfl rfl (λ_ s=>(SC.i s s.r)) (λg55 x56 a57 v58=>(Yi K qS λa59 v60=>(ZR (λO (x75:V)=>[x47.2.2.2.2.1,x56.2.2.2,x47.2.2.2.2.2]) (λs x75=>[some x47.2.1,some v_1,some v_2,some x47.2.2.2.1,some v58,x47.2.2.1,some x56.2.2.1,some x75,none]) (λS (g76:Int) x75=>(SC.add S K Xe x75 g76)) (YG (XN (K:=K) (GW (Fs qB qB) (Fs qB qB))) (Yi K qS λa77 v78=>(YC (v78) (a77) rfl rfl)) (YC (v60) (a59) rfl rfl)) λg81 x80=>(EZ K qM λa88 C87=>(YC ((some v58),(some x80),x56.2.2.1,C87) (a88) rfl rfl))))) λg89 x90=>(Yi K qS λa91 v92=>(Y6 K (o:=(oL (oL (oF Xe)))) 0 (E8 (K:=K) (o1:=(oL (oL (oF Xe)))) 0 rfl (λ_ s=>s.l.l.l.l.r) (YT (λ_=>tg1 0) qw (λC110 a111 v112=>(YT (λ_=>tg1 0) qw (λC114 a115 v116=>qM))))) λa107 v108 C109=>(Xt (Za JK λ_=>(E8 (K:=K) (o1:=(oL (oF (rP2 Xe Xe)))) 2 rfl (λ_ s=>s.l.l.r) (YT (λ_=>tg2 0 1) qw (λC120 a121 v122=>qM)))))))))))⟩
noncomputable def QY:=Q3.1
noncomputable abbrev UB (P:Program)(w:World)(K:PySem.W.Frag)(mg:Str->Option Value)(base:Heap):Prop:=Fn P w K mg base 1 "_law_turn_back" ["_law_walks","_law_signs","_law_some"] (RD (oL (oL (oF Xe))) (rV Xe) (rV Xe) (oT2 (oL (oL (oF Xe))) (oL (oF (rP2 Xe Xe)))) QY K)
theorem YI:FnScope ["_law_script","_law_place","_law_sizes","_law_some","_law_signs","_law_lows","_law_left","_law_strands","_law_k","_law_walks","_law_at","_law_passage"] ["_law_script","_law_place"] (Xj Kx):=⟨rfl,rfl,rfl,by decide+kernel,rfl,by decide+kernel,by decide+kernel⟩
noncomputable def Fq:{m:(List Int)->Int->Rs ((List (List Int))×(List (Int×Int))) // ∀{P:Program}{w:World}{K:PySem.W.Frag}{mg:Str->Option Value}{base:Heap} (D:Def K mg "_law_begun" Kx ["_law_script","_law_place"]) (g_row:IH P w K mg base) (g_traced:DX P w K mg base) (g_turn_back:UB P w K mg base) (Z:Blt mg),Fn P w K mg base 3 "_law_begun" ["_law_script","_law_place"] (sp2 (rL Xe) Xe (oT2 (oL (oL (oF Xe))) (oL (oF (rP2 Xe Xe)))) m K)}:=⟨_, @λP w K mg base D g_row g_traced g_turn_back Z=>go2 D YI 10 4 rfl rfl λhr hu hu1=>⟨_,(Xb (Xo (i:=2) YI.nd rfl (Or.inl rfl) (Xn Zr (Xn Zr (XF (Xa Xc (Xa Xc (Xa Xc (Xa Xc Xd))))) (Xn BL (XF (Xa Xc Xd)) Xc)) (Xn BL (XF (Xa Xc (Xa Xc (Xa Xc (Xa Xc (Xa Xc (Xa Xc Xd))))))) Xc)))
  (Xb (Xo (i:=3) YI.nd rfl (Or.inl rfl) (XA g_row hr (by decide) (Xa (pv 0) (Xa (pv 1) (Xa (Xn Zr (pv 2) (XF (Xa Xc Xd))) Xd)))))
  (Xb (Hu (i:=4) (j:=5) (k:=6) rfl YI.nd rfl rfl rfl (by decide) (by decide) (by decide) rfl rfl rfl (Xa (XF Xd) (Xa (XF Xd) (Xa (XF Xd) Xd XX) XX) XX) rfl)
  (Xb (Xo (i:=7) YI.nd rfl (Or.inl rfl) (Xn XE Xc (Xh (Xi K rfl) (pv 3) Xc (λ_ _=>rfl))))
  (Xb (Yw PassesOwn.never rfl (Yu rfl Z.b_range (Xa (Xh (Xi K rfl) (pv 3) Xc (λ_ _=>rfl)) Xd)) (Xw (i:=8) YI.nd rfl (Or.inl rfl))
   (Xb (XV (QB PySem.F.plainAttrs_list PySem.F.slot_list_append PySem.F.type_list_append X8 (pv 5) (Xa (Xn Yb (Xh (Xi K rfl) (pv 3) (Xn XE (Xn XY Xc (pv 8)) Xc) (λ_ _=>rfl)) (Xn Zd (pv 7) Xc)) Xd)))
   (Xb (XV (QB PySem.F.plainAttrs_list PySem.F.slot_list_append PySem.F.type_list_append X8 (pv 4) (Xa (Xn Zd (Xn XY Xc (Xh (Xi K rfl) (pv 3) (Xn XE (Xn XY Xc (pv 8)) Xc) (λ_ _=>rfl))) Xc) Xd)))
   (Xb (XV (QB PySem.F.plainAttrs_list PySem.F.slot_list_extend PySem.F.type_list_extend El (pv 6) (Xa (XF (Xa (Xn XE (pv 8) Xc) (Xa (Xn Zd (Yr XU (pv 8)) Xc) Xd))) Xd XX)))
   Xf))))
  (Xb (XM (PW.pt (BZ (Xq F9 (Xh (Xi K rfl) (pv 3) Xc (λ_ _=>rfl)) Xc (Xs _)) (F4 (Xq F9 (pv 7) Xc (Xs _)))))
   (Xb (Y4 (XC (Yn K rfl) (XF (Xa Xc (Xa Xc (Xa Xc Xd)))) X3 (XG (Xm (Xl K rfl) rfl Z.b_len PySem.boot_len (Xa (pv 5) Xd)))) (RK (pv 5) X3 (XG Xc)))
   Xf)
   Xf)
  (Xb (Xo (i:=9) YI.nd rfl (Or.inl rfl) (XA g_traced hr (by decide) (Xa (pv 5) (Xa (pv 4) (Xa (pv 7) Xd)))))
  (Xb (XM (Xq Ya (Xh (Xi K rfl) (pv 3) Xc (λ_ _=>rfl)) Xc (Xs _))
   (Xb (ZO 9 (Xj Kx) ["_law_script","_law_place","_law_sizes","_law_some","_law_signs","_law_lows","_law_left","_law_strands","_law_k","_law_walks","_law_at","_law_passage"] ["_law_k"] [] rfl YI.nd rfl rfl (Yu rfl Z.b_range (Xa (pv 7) Xd)) (Ys (by decide)) (λcl C s H ex E=>⟨Xw (i:=0) (show List.Nodup (["_law_k"]:List Str) by decide+kernel) rfl (Or.inl rfl),YW,(XF Xd)⟩))
   (Xb (Yw PassesOwn.never rfl (Yu rfl Z.b_range (Xa (Xn XY Xc (Xh (Xi K rfl) (pv 3) Xc (λ_ _=>rfl))) Xd)) (Xw (i:=8) YI.nd rfl (Or.inl rfl))
    (Xb (Xo (i:=10) YI.nd rfl (Or.inl rfl) (Xn XE (Xn XE (Xn XY Xc (Xn K0 (pv 8) Xc)) (Xn Yb (pv 8) Xc)) Xc))
    (Xb (Xo (i:=11) YI.nd rfl (Or.inl rfl) (QB PySem.F.plainAttrs_list PySem.F.slot_list_pop PySem.F.type_list_pop IJ (pv 6) (Xa (Xn Yb (Xh (Xi K rfl) (pv 3) (pv 10) (λ_ _=>rfl)) (Xm (Xl K rfl) rfl Z.b_len PySem.boot_len (Xa (pv 6) Xd))) Xd)))
    (Xb (XV (QB PySem.F.plainAttrs_list PySem.F.slot_list_append PySem.F.type_list_append X8 (Xh (Xi K rfl) (pv 9) (Xn Yb (Xh (Xi K rfl) (pv 3) (Xn XE (pv 10) Xc) (λ_ _=>rfl)) (pv 7)) (λ_ _=>rfl)) (Xa (pv 11) Xd)))
    Xf))))
   Xf))
   Xf)
  (Xb (Xr (XA g_turn_back hr (by decide) (Xa (pv 9) (Xa (pv 4) (Xa (pv 3) Xd)))))
  Xf))))))))),λv_0 v_1 a_0 a_1=>(Yi K qS λa1 v2=>(Yi K qS λa36 v37=>(H9 (K:=K) (o1:=(oF Xe)) (o2:=(oF Xe)) (o3:=(oF Xe)) 4 5 6 1 0 2 (Nat.le_of_ble_eq_true rfl) (Nat.le_of_ble_eq_true rfl) (Nat.le_of_ble_eq_true rfl) λv47 v48 v49 C50 C51 C52=>(Yi K qS λa53 v54=>(Fh K (λO (x62:Option V×V×V×V×List Xx×List Xx×List Xx)=>[x62.2.2.2.2.1,x62.2.2.2.2.2.1,x62.2.2.2.2.2.2,[]]) (λs x62=>[some v_0,some v_1,some v2,some v37,some x62.2.2.1,some x62.2.1,some x62.2.2.2.1,some v54,x62.1,none,none,none]) (λS (g63:(List Int)×(List Int)×(List Int)) x62=>(SC.addO (SC.addO (SC.addO S K (oL (oF Xe)) x62.2.1 g63.1 x62.2.2.2.2.1) K (oL (oF Xe)) x62.2.2.1 g63.2.1 x62.2.2.2.2.2.1) K (oL (oF Xe)) x62.2.2.2.1 g63.2.2 x62.2.2.2.2.2.2)) (λ_=>tg1 8) ((none),v48,v47,v49,C51,C50,C52) (([]:(List Int)),([]:(List Int)),([]:(List Int))) qw rfl rfl (λ_ s=>(SC.i (SC.i (SC.i s s.l.l.r) s.l.l.l.r) s.l.r)) (λg64 x65 a66 v67=>(EZ K qM λa80 C79=>(EZ K qM λa93 C92=>(Ss K qN λa106 C105=>(YC ((some v67),x65.2.1,x65.2.2.1,x65.2.2.2.1,C79,C92,C105) (a80,a93,a106) rfl rfl))))) λg107 x108=>(ZR (λO (x116:V×List Xx)=>[x116.2,x108.2.2.2.2.2.1,x108.2.2.2.2.2.2,[]]) (λs x116=>[some v_0,some v_1,some v2,some v37,some x108.2.2.1,some x116.1,some x108.2.2.2.1,some v54,x108.1,none,none,none]) (λS (g117:(List Int)) x116=>(SC.addO S K (oL (oF Xe)) x116.1 g117 x116.2)) (YG (qt K) (Iu (K:=K) 5 0 rfl rfl (λ_ s=>s.l.l.r) qN (λ_=>(qp K)) (λ_=>(qp K)) λa131 C132=>(YC (x108.2.1,C132) (a131) rfl rfl)) (YC (x108.2.1,x108.2.2.2.2.1) (g107.1) rfl rfl)) λg137 x136=>(Y6 K 3 qN λa138 v139 C140=>(ZR (λO (x150:V×Option V×Option V×Option V×Option V×List Xx)=>[x136.2,x108.2.2.2.2.2.1,[],x150.2.2.2.2.2]) (λs x150=>[some v_0,some v_1,some v2,some v37,some x108.2.2.1,some x136.1,x150.2.2.2.2.1,some v54,x150.2.1,some x150.1,x150.2.2.1,x150.2.2.2.1]) (λS (g151:(List (List Int))) x150=>(SC.addO S K (oL (oL (oF Xe))) x150.1 g151 x150.2.2.2.2.2)) (YG (qt K) (Y6 K (o:=(oL (oL (oF Xe)))) 3 (YT (λ_=>tg1 0) qw (λC156 a157 v158=>(UV (o:=(oF Xe))))) λa152 v153 C154=>(Fh K (λO (x165:Option V×Option V×Option V×V×V×List Xx×List Xx)=>[x136.2,x108.2.2.2.2.2.1,x165.2.2.2.2.2.1,x165.2.2.2.2.2.2]) (λs x165=>[some v_0,some v_1,some v2,some v37,some x108.2.2.1,some x136.1,some x165.2.2.2.1,some v54,x165.1,some x165.2.2.2.2.1,x165.2.1,x165.2.2.1]) (λS (g166:(List Int)×(List (List Int))) x165=>(SC.addO (SC.addO S K (oL (oF Xe)) x165.2.2.2.1 g166.1 x165.2.2.2.2.2.1) K (oL (oL (oF Xe))) x165.2.2.2.2.1 g166.2 x165.2.2.2.2.2.2)) (λ_=>tg1 8) ((x108.1),(none),(none),x108.2.2.2.1,v153,x108.2.2.2.2.2.2,C154) (g107.2.2,a152) qw rfl rfl (λ_ s=>(SC.i (SC.i s s.l.l.l.r) s.r)) (λg167 x168 a169 v170=>(Yi K qS λa171 v172=>(Sj K qB λa188 a189 v190 C191=>(Lb (K:=K) (r:=Xe) 9 3 rfl rfl (λ_ s=>s.l.l.l.l.r) qS qB λa203 C204=>(YC ((some v170),(some v172),(some v190),x168.2.2.2.1,x168.2.2.2.2.1,C191,C204) (a189,a203) rfl rfl))))) λg205 x206=>(E2 2 (YC (x206.2.2.2.2.1,(x206.1),(x206.2.1),(x206.2.2.1),(some x206.2.2.2.1),x206.2.2.2.2.2.2) (g205.2) rfl rfl)))) (E2 2 (YC (v139,(x108.1),(none),(none),(some x108.2.2.2.1),C140) (a138) rfl rfl))) λg209 x208=>(Ln (K:=K) (o:=(oL (oF Xe))) 1 rfl (λ_ s=>s.l.l.l.l.r) (IM (K:=K) (q:=(oL (oL (oF Xe)))) 9 3 rfl rfl (λ_ s=>s.l.r) qS qS))))))))))⟩⟩
noncomputable def F7:=Fq.1
noncomputable abbrev Ex (P:Program)(w:World)(K:PySem.W.Frag)(mg:Str->Option Value)(base:Heap):Prop:=Fn P w K mg base 3 "_law_begun" ["_law_script","_law_place"] (sp2 (rL Xe) Xe (oT2 (oL (oL (oF Xe))) (oL (oF (rP2 Xe Xe)))) F7 K)
theorem VB:FnScope ["_law_walks","_law_found","_law_at","_law_k"] ["_law_walks"] (Xj FW):=⟨rfl,rfl,rfl,by decide+kernel,rfl,by decide+kernel,by decide+kernel⟩
noncomputable def Fp:{m:(List (List Int))->Rs (List (Int×Int×Int×Int)) // ∀{P:Program}{w:World}{K:PySem.W.Frag}{mg:Str->Option Value}{base:Heap} (D:Def K mg "_law_pairs" FW ["_law_walks"]) (Z:Blt mg),Fn P w K mg base 1 "_law_pairs" ["_law_walks"] (sp1 (rV (rV Xe)) (oL (oF (rP4 Xe Xe Xe Xe))) m K)}:=⟨_, @λP w K mg base D Z=>go1 D VB 3 1 rfl rfl λhr hu hu1=>⟨_,(Xb (Xo (i:=1) VB.nd rfl (Or.inl rfl) (XF Xd))
  (Xb (Yw PassesOwn.never rfl (Yu rfl Z.b_range (Xa (Xm (Xl K rfl) rfl Z.b_len PySem.boot_len (Xa (pv 0) Xd)) Xd)) (Xw (i:=2) VB.nd rfl (Or.inl rfl))
   (Xb (Yw PassesOwn.never rfl (Yu rfl Z.b_range (Xa (Xn Zd (Xm (Xl K rfl) rfl Z.b_len PySem.boot_len (Xa (Xh (Xi K rfl) (pv 0) (pv 2) (λ_ _=>rfl)) Xd)) Xc) Xd)) (Xw (i:=3) VB.nd rfl (Or.inl rfl))
    (Xb (XV (QB PySem.F.plainAttrs_list PySem.F.slot_list_append PySem.F.type_list_append X8 (pv 1) (Xa (XR (Xa (pv 2) (Xa (pv 3) (Xa (Xh (Xi K rfl) (Xh (Xi K rfl) (pv 0) (pv 2) (λ_ _=>rfl)) (pv 3) (λ_ _=>rfl)) (Xa (Xh (Xi K rfl) (Xh (Xi K rfl) (pv 0) (pv 2) (λ_ _=>rfl)) (Xn XE (pv 3) Xc) (λ_ _=>rfl)) Xd))))) Xd)))
    Xf))
   Xf))
  (Xb (Xr (pv 1))
  Xf))),λv_0 a_0=>(Y6 K (o:=(oL (oF (rP4 Xe Xe Xe Xe)))) 0 (UV (o:=(oF (rP4 Xe Xe Xe Xe)))) λa1 v2 C3=>(Fh K (λO (x6:Option V×Option V×V×List Xx)=>[x6.2.2.2]) (λs x6=>[some v_0,some x6.2.2.1,x6.1,x6.2.1]) (λS (g7:(List (Int×Int×Int×Int))) x6=>(SC.addO S K (oL (oF (rP4 Xe Xe Xe Xe))) x6.2.2.1 g7 x6.2.2.2)) (λ_=>tg1 2) ((none),(none),v2,C3) (a1) qw rfl rfl (λ_ s=>(SC.i s s.r)) (λg8 x9 a10 v11=>(Fh K (λO (x18:Option V×V×List Xx)=>[x18.2.2]) (λs x18=>[some v_0,some x18.2.1,some v11,x18.1]) (λS (g19:(List (Int×Int×Int×Int))) x18=>(SC.addO S K (oL (oF (rP4 Xe Xe Xe Xe))) x18.2.1 g19 x18.2.2)) (λ_=>tg1 3) ((x9.2.1),x9.2.2.1,x9.2.2.2) (g8) qw rfl rfl (λ_ s=>(SC.i s s.l.r)) (λg20 x21 a22 v23=>(EZ K (EvS.ev (IQ qS qS qS qS)) λa40 C39=>(YC ((some v23),x21.2.1,C39) (a40) rfl rfl))) λg41 x42=>(YC ((some v11),(x42.1),x42.2.1,x42.2.2) (g41) rfl rfl))) λg44 x45=>(Xt JK)))⟩⟩
noncomputable def FZ:=Fp.1
noncomputable abbrev BX (P:Program)(w:World)(K:PySem.W.Frag)(mg:Str->Option Value)(base:Heap):Prop:=Fn P w K mg base 1 "_law_pairs" ["_law_walks"] (sp1 (rV (rV Xe)) (oL (oF (rP4 Xe Xe Xe Xe))) FZ K)
theorem YE:FnScope ["_law_signs","_law_top","_law_mid","_law_low","_law_a","_law_c","_law_b","_law_p","_law_q","_law_r"] ["_law_signs","_law_top","_law_mid","_law_low"] (Xj J4):=⟨rfl,rfl,rfl,by decide+kernel,rfl,by decide+kernel,by decide+kernel⟩
noncomputable def JM:{m:(List (Int×Int))->(Int×Int×Int×Int)->(Int×Int×Int×Int)->(Int×Int×Int×Int)->Rs Bool // ∀{P:Program}{w:World}{K:PySem.W.Frag}{mg:Str->Option Value}{base:Heap} (D:Def K mg "_law_straight" J4 ["_law_signs","_law_top","_law_mid","_law_low"]) (Z:Blt mg),Fn P w K mg base 1 "_law_straight" ["_law_signs","_law_top","_law_mid","_law_low"] (sp4 (rD Xe) (rP4 Xe Xe Xe Xe) (rP4 Xe Xe Xe Xe) (rP4 Xe Xe Xe Xe) (oF Xy) m K)}:=⟨_, @λP w K mg base D Z=>go4 D YE 6 0 rfl rfl λhr hu hu1=>⟨_,(Xb (Xo (i:=4) YE.nd rfl (Or.inl rfl) (Yr XU (Xm (BQ rfl) rfl Z.b_min PyProof.Rows.boot_min (Xa (Xh (Xg K rfl) (pv 2) Xc (λ_ _=>rfl)) (Xa (Xh (Xg K rfl) (pv 2) Xc (λ_ _=>rfl)) Xd)))))
  (Xb (Xo (i:=5) YE.nd rfl (Or.inl rfl) (Xm (E7 rfl) rfl Z.b_max PyProof.Rows.boot_max (Xa (Xh (Xg K rfl) (pv 2) Xc (λ_ _=>rfl)) (Xa (Xh (Xg K rfl) (pv 2) Xc (λ_ _=>rfl)) Xd))))
  (Xb (XM (PW.pt (Qa (Xq Qp (pv 4) (XC (YM K rfl) (pv 1) (XG Xc) X3) rfl) (Zp (Xq Uc (pv 5) (XC (YM K rfl) (pv 1) (XG Xc) X3) rfl))))
   (Xb (Xr Zf)
   Xf)
   Xf)
  (Xb (Xo (i:=6) YE.nd rfl (Or.inl rfl) (Xn Zd (Xn XE (Xh (Xg K rfl) (pv 1) Xc (λ_ _=>rfl)) (Xh (Xg K rfl) (pv 1) Xc (λ_ _=>rfl))) (pv 4)))
  (Xb (XM (Xq (QQ K rfl (GF eq_int) (Vs (by decide) hu)) (Xm (Y1 K rfl) rfl Z.b_sorted PyProof.Rows.boot_sorted (Xa (XF (Xa (Yr XU (Xh (Xg K rfl) (pv 3) Xc (λ_ _=>rfl))) (Xa (Yr XU (Xh (Xg K rfl) (pv 3) Xc (λ_ _=>rfl))) Xd))) Xd XX)) (Xm (Y1 K rfl) rfl Z.b_sorted PyProof.Rows.boot_sorted (Xa (XF (Xa (pv 6) (Xa (pv 5) Xd))) Xd XX)) (Xs _))
   (Xb (Xr Zf)
   Xf)
   Xf)
  (Xb (Xo (i:=7) YE.nd rfl (Or.inl rfl) (Xn Zd (Xn XY Xc (XL Qk rfl Z.b_int PyProof.Rows.boot_int (Xa (X1 Ya (Xh (Xg K rfl) (pv 1) Xc (λ_ _=>rfl)) (pv 4) (Xs _)) Xd))) Xc))
  (Xb (Xo (i:=8) YE.nd rfl (Or.inl rfl) (Xn Zd (Xn XY Xc (XL Qk rfl Z.b_int PyProof.Rows.boot_int (Xa (X1 Ya (Xh (Xg K rfl) (pv 2) Xc (λ_ _=>rfl)) (Yr XU (pv 4)) (Xs _)) Xd))) Xc))
  (Xb (Xo (i:=9) YE.nd rfl (Or.inl rfl) (Xn Zd (Xn XY Xc (XL Qk rfl Z.b_int PyProof.Rows.boot_int (Xa (X1 Ya (Xh (Xg K rfl) (pv 3) Xc (λ_ _=>rfl)) (Yr XU (pv 6)) (Xs _)) Xd))) Xc))
  (Xb (Xr (Z6 (X1 Ya (Xn XY (pv 7) (KC hu1 (pv 0) (pv 6) (λ_ _=>rfl))) (Xn XY (pv 8) (KC hu1 (pv 0) (pv 5) (λ_ _=>rfl))) (Xs _)) (Qn (X1 Ya (Xn XY (pv 8) (KC hu1 (pv 0) (pv 4) (λ_ _=>rfl))) (Xn XY (pv 9) (KC hu1 (pv 0) (pv 6) (λ_ _=>rfl))) (Xs _)))))
  Xf))))))))),λv_0 v_1 v_2 v_3 a_0 a_1 a_2 a_3=>(Yi K (r:=Xe) (EvB.sh (VQ (HI (QV qB) (KE qB)))) λa1 v2=>(Yi K (r:=Xe) (EvB.sh (EH (QV qB) (KE qB))) λa8 v9=>(Ye (Zl (XN (K:=K) (KP qB (Ym (ZY qB) (qp K) (qp K)))) (XN (K:=K) (V6 qB (Ym (ZY qB) (qp K) (qp K))))) (Xt qM) (Yi K (r:=Xe) (EvB.sh (VS (BS (QV qB) (KE qB)) qB)) λa29 v30=>(Ye (XN (K:=K) (VY (Ev.toB (Vz (Ev.ls (Vh (Yo (EvB.sh (VQ (QV qB))) (Yo (EvB.sh (VQ (KE qB))) qa)))))) (Ev.toB (Vz ql)))) (Xt qM) (Yi K (r:=Xe) (EvB.sh (VS (Qq qB (VJ (Vm (QV qB) qB))) qB)) λa58 v59=>(Yi K (r:=Xe) (EvB.sh (VS (Qq qB (VJ (Vm (QV qB) qB))) qB)) λa68 v69=>(Yi K (r:=Xe) (EvB.sh (VS (Qq qB (VJ (Vm (QV qB) qB))) qB)) λa79 v80=>(Xt (EvS.ev (EvB.sh (YZ (Vm (Qq qB (VC qB qB)) (Qq qB (VC qB qB))) (Vm (Qq qB (VC qB qB)) (Qq qB (VC qB qB)))))))))))))))⟩⟩
noncomputable def JQ:=JM.1
noncomputable abbrev U3 (P:Program)(w:World)(K:PySem.W.Frag)(mg:Str->Option Value)(base:Heap):Prop:=Fn P w K mg base 1 "_law_straight" ["_law_signs","_law_top","_law_mid","_law_low"] (sp4 (rD Xe) (rP4 Xe Xe Xe Xe) (rP4 Xe Xe Xe Xe) (rP4 Xe Xe Xe Xe) (oF Xy) JQ K)
theorem Zg:FnScope ["_law_drawing","_law_signs","_law_pairs_here","_law_found","_law_top","_law_mid","_law_low"] ["_law_drawing"] (Xj QG):=⟨rfl,rfl,rfl,by decide+kernel,rfl,by decide+kernel,by decide+kernel⟩
noncomputable def KI:{m:((List (List Int))×(List (Int×Int)))->Rs (List (List Mx)) // ∀{P:Program}{w:World}{K:PySem.W.Frag}{mg:Str->Option Value}{base:Heap} (D:Def K mg "_law_passes" QG ["_law_drawing"]) (g_pairs:BX P w K mg base) (g_straight:U3 P w K mg base) (Z:Blt mg),Fn P w K mg base 2 "_law_passes" ["_law_drawing"] (sp1 (rP2 (rV (rV Xe)) (rV (rP2 Xe Xe))) (oL (oF (rPL rMx))) m K)}:=⟨_, @λP w K mg base D g_pairs g_straight Z=>go1 D Zg 6 1 rfl rfl λhr hu hu1=>⟨_,(Xb (Xo (i:=1) Zg.nd rfl (Or.inl rfl) (XL (Zo K rfl rfl) rfl Z.b_dict PyProof.Rows.boot_dict (Xa (Xh (Xg K rfl) (pv 0) Xc (λ_ _=>rfl)) Xd)))
  (Xb (Xo (i:=2) Zg.nd rfl (Or.inl rfl) (XA g_pairs hr (by decide) (Xa (Xh (Xg K rfl) (pv 0) Xc (λ_ _=>rfl)) Xd)))
  (Xb (Xo (i:=3) Zg.nd rfl (Or.inl rfl) (XF Xd))
  (Xb (Yw PassesOwn.never rfl (XD (K:=K) rfl (Zn (sc:=(Xj QG)) (N0:=["_law_drawing","_law_signs","_law_pairs_here","_law_found","_law_top","_law_mid","_law_low"]) (tns:=["_law_one"]) (caps:=[]) rfl (XD (K:=K) rfl (pv 2)) (Ys (by decide)) (λcl C s H ex E=>⟨Xw (i:=0) (show List.Nodup (["_law_one"]:List Str) by decide+kernel) rfl (Or.inl rfl),(UH (Xq F9 (Xm (Qj K rfl rfl) rfl Z.b_min PyProof.Rows.boot_min (Xa (XC (YM K rfl) (pv 0) (XG Xc) X3) Xd)) Xc (Xs _))),(pv 0)⟩))) (Xw (i:=4) Zg.nd rfl (Or.inl rfl))
   (Xb (Yw PassesOwn.never rfl (XD (K:=K) rfl (Zn (sc:=(Xj QG)) (N0:=["_law_drawing","_law_signs","_law_pairs_here","_law_found","_law_top","_law_mid","_law_low"]) (tns:=["_law_one"]) (caps:=[]) rfl (XD (K:=K) rfl (pv 2)) (Ys (by decide)) (λcl C s H ex E=>⟨Xw (i:=0) (show List.Nodup (["_law_one"]:List Str) by decide+kernel) rfl (Or.inl rfl),(UH (Ct Vy Vy (Xm (Qj K rfl rfl) rfl Z.b_min PyProof.Rows.boot_min (Xa (XC (YM K rfl) (pv 0) (XG Xc) X3) Xd)) Xc (Xm (Um K rfl rfl) rfl Z.b_max PyProof.Rows.boot_max (Xa (XC (YM K rfl) (pv 0) (XG Xc) X3) Xd)))),(pv 0)⟩))) (Xw (i:=5) Zg.nd rfl (Or.inl rfl))
    (Xb (Yw PassesOwn.never rfl (XD (K:=K) rfl (Zn (sc:=(Xj QG)) (N0:=["_law_drawing","_law_signs","_law_pairs_here","_law_found","_law_top","_law_mid","_law_low"]) (tns:=["_law_one"]) (caps:=[]) rfl (XD (K:=K) rfl (pv 2)) (Ys (by decide)) (λcl C s H ex E=>⟨Xw (i:=0) (show List.Nodup (["_law_one"]:List Str) by decide+kernel) rfl (Or.inl rfl),(UH (Xq Vy (Xm (Um K rfl rfl) rfl Z.b_max PyProof.Rows.boot_max (Xa (XC (YM K rfl) (pv 0) (XG Xc) X3) Xd)) Xc (Xs _))),(pv 0)⟩))) (Xw (i:=6) Zg.nd rfl (Or.inl rfl))
     (Xb (XM (Yv (XA g_straight hr (by decide) (Xa (pv 1) (Xa (pv 4) (Xa (pv 5) (Xa (pv 6) Xd))))))
      (Xb (XV (QB PySem.F.plainAttrs_list PySem.F.slot_list_append PySem.F.type_list_append X8 (pv 3) (Xa (Xn (KJ K rfl) (Xn (KJ K rfl) (Xn (KJ K rfl) (XR (Xa XJ Xd)) (XC (YM K rfl) (pv 4) X3 (XG Xc))) (XC (YM K rfl) (pv 5) X3 (XG Xc))) (XC (YM K rfl) (pv 6) X3 (XG Xc))) Xd)))
      Xf)
      Xf)
     Xf))
    Xf))
   Xf))
  (Xb (Xr (pv 3))
  Xf))))),λv_0 a_0=>(Yi K (r:=(rD Xe)) (Ev.sh (VA ql)) λa1 v2=>(Yi K qS λa5 v6=>(Y6 K (o:=(oL (oF (rPL rMx)))) 0 (UV (o:=(oF (rPL rMx)))) λa10 v11 C12=>(Fh K (λO (x24:Option V×Option V×Option V×V×List Xx)=>[x24.2.2.2.2]) (λs x24=>[some v_0,some v2,some v6,some x24.2.2.2.1,x24.1,x24.2.1,x24.2.2.1]) (λS (g25:(List (List Mx))) x24=>(SC.addO S K (oL (oF (rPL rMx))) x24.2.2.2.1 g25 x24.2.2.2.2)) (λ_=>tg1 4) ((none),(none),(none),v11,C12) (a10) (Ze (Ev.sh (JF (λ_=>tg1 0) qw (λC13 a14 v15=>(XN (K:=K) (Lg (Qi (Ym (ZY qB) (qp K) (qp K))) qB))) (λC13 a14 v15=>qM)))) rfl rfl (λ_ s=>(SC.i s s.r)) (λg26 x27 a28 v29=>(Fh K (λO (x47:Option V×Option V×V×List Xx)=>[x47.2.2.2]) (λs x47=>[some v_0,some v2,some v6,some x47.2.2.1,some v29,x47.1,x47.2.1]) (λS (g48:(List (List Mx))) x47=>(SC.addO S K (oL (oF (rPL rMx))) x47.2.2.1 g48 x47.2.2.2)) (λ_=>tg1 5) ((x27.2.1),(x27.2.2.1),x27.2.2.2.1,x27.2.2.2.2) (g26) (Ze (Ev.sh (JF (λ_=>tg1 0) qw (λC30 a31 v32=>(XN (K:=K) (JD (Qi (Ym (ZY qB) (qp K) (qp K))) qB (KF (Ym (ZY qB) (qp K) (qp K)))))) (λC30 a31 v32=>qM)))) rfl rfl (λ_ s=>(SC.i s s.l.r)) (λg49 x50 a51 v52=>(Fh K (λO (x64:Option V×V×List Xx)=>[x64.2.2]) (λs x64=>[some v_0,some v2,some v6,some x64.2.1,some v29,some v52,x64.1]) (λS (g65:(List (List Mx))) x64=>(SC.addO S K (oL (oF (rPL rMx))) x64.2.1 g65 x64.2.2)) (λ_=>tg1 6) ((x50.2.1),x50.2.2.1,x50.2.2.2) (g49) (Ze (Ev.sh (JF (λ_=>tg1 0) qw (λC53 a54 v55=>(XN (K:=K) (Kk (KF (Ym (ZY qB) (qp K) (qp K))) qB))) (λC53 a54 v55=>qM)))) rfl rfl (λ_ s=>(SC.i s s.l.r)) (λg66 x67 a68 v69=>(ZR (λO (x76:V×List Xx)=>[x76.2]) (λs x76=>[some v_0,some v2,some v6,some x76.1,some v29,some v52,some v69]) (λS (g77:(List (List Mx))) x76=>(SC.addO S K (oL (oF (rPL rMx))) x76.1 g77 x76.2)) (YG (qt K) (EZ K (EvB.flat (K4 (K4 (K4 (Ev.toB (EvS.ev (ZZ (r:=rMx) qa))) (Gb (Ym (ZY qB) (qp K) (qp K)))) (Gb (Ym (ZY qB) (qp K) (qp K)))) (Gb (Ym (ZY qB) (qp K) (qp K))))) λa108 C107=>(YC (x67.2.1,C107) (a108) rfl rfl)) (YC (x67.2.1,x67.2.2) (g66) rfl rfl)) λg110 x109=>(YC ((some v69),x109.1,x109.2) (g110) rfl rfl))) λg111 x112=>(YC ((some v52),(x112.1),x112.2.1,x112.2.2) (g111) rfl rfl))) λg114 x115=>(YC ((some v29),(x115.1),(x115.2.1),x115.2.2.1,x115.2.2.2) (g114) rfl rfl))) λg117 x118=>(Xt JK)))))⟩⟩
noncomputable def Kz:=KI.1
noncomputable abbrev Cv (P:Program)(w:World)(K:PySem.W.Frag)(mg:Str->Option Value)(base:Heap):Prop:=Fn P w K mg base 2 "_law_passes" ["_law_drawing"] (sp1 (rP2 (rV (rV Xe)) (rV (rP2 Xe Xe))) (oL (oF (rPL rMx))) Kz K)
theorem Ez:FnScope ["_law_walks","_law_at","_law_k","_law_one","_law_two"] ["_law_walks","_law_at","_law_k","_law_one","_law_two"] (Xj KU):=⟨rfl,rfl,rfl,by decide+kernel,rfl,by decide+kernel,by decide+kernel⟩
noncomputable def Gh:{m:(List (List Int))->Int->Int->Int->Int->Rs (List (List Int)) // ∀{P:Program}{w:World}{K:PySem.W.Frag}{mg:Str->Option Value}{base:Heap} (D:Def K mg "_law_lay_in" KU ["_law_walks","_law_at","_law_k","_law_one","_law_two"]) (Z:Blt mg),Fn P w K mg base 1 "_law_lay_in" ["_law_walks","_law_at","_law_k","_law_one","_law_two"] (RB (oL (oL (oF Xe))) Xe Xe Xe Xe m K)}:=⟨_, @λP w K mg base D Z=>by
 refine US D Ez (λvs H Q E h=>?_) (λf cdv A outer s H vs Q E hr h=>?_)
 ·obtain⟨v_0,v_1,v_2,v_3,v_4,a_0,a_1,a_2,a_3,a_4,b,rfl,_⟩:=h;rfl
 obtain⟨v_0,v_1,v_2,v_3,v_4,a_0,a_1,a_2,a_3,a_4,b,rfl,C_0,hw,h_0,h_1,h_2,h_3,h_4,hm,q⟩:=h
 have hu:=hu8 hr
 have hu1:=Uu hr
 refine⟨_,(Xb (Y4 (Xn Zr (Xn Zr (XC (Yn K rfl) (Xh (Xi K rfl) (pv 0) (pv 1) (λ_ _=>rfl)) X3 (XG (pv 2))) (XF (Xa (pv 3) (Xa (pv 4) Xd)))) (XC (Yn K rfl) (Xh (Xi K rfl) (pv 0) (pv 1) (λ_ _=>rfl)) (XG (pv 2)) X3)) (Z8 (pv 0) (pv 1) YA))
  Xf),?_⟩
 refine EK (S:=(SC.add (SC.add (SC.add (SC.add (SC.addO SC.nil K (oL (oL (oF Xe))) v_0 a_0 C_0) K Xe v_1 a_1) K Xe v_2 a_2) K Xe v_3 a_3) K Xe v_4 a_4)) (σ:=[some v_0,some v_1,some v_2,some v_3,some v_4]) 1 0 (by decide) ?_ hw (SC.i (SC.i (SC.i (SC.i (SC.i SC.t h_0) h_1) h_2) h_3) h_4) hm q (λ_ _=>rfl)
 exact(Vl K qN (λ_=>qB) λa24 C25=>(Bz (K:=K) (q:=(oL (oL (oF Xe)))) 0 rfl (λ_ s=>s.r)))⟩
noncomputable def K2:=Gh.1
noncomputable abbrev Dz (P:Program)(w:World)(K:PySem.W.Frag)(mg:Str->Option Value)(base:Heap):Prop:=Fn P w K mg base 1 "_law_lay_in" ["_law_walks","_law_at","_law_k","_law_one","_law_two"] (RB (oL (oL (oF Xe))) Xe Xe Xe Xe K2 K)
theorem Bg:FnScope ["_law_walks","_law_at","_law_k"] ["_law_walks","_law_at","_law_k"] (Xj VZ):=⟨rfl,rfl,rfl,by decide+kernel,rfl,by decide+kernel,by decide+kernel⟩
noncomputable def UG:{m:(List (List Int))->Int->Int->Rs (List (List Int)) // ∀{P:Program}{w:World}{K:PySem.W.Frag}{mg:Str->Option Value}{base:Heap} (D:Def K mg "_law_cut_out" VZ ["_law_walks","_law_at","_law_k"]) (Z:Blt mg),Fn P w K mg base 1 "_law_cut_out" ["_law_walks","_law_at","_law_k"] (Rx (oL (oL (oF Xe))) Xe Xe m K)}:=⟨_, @λP w K mg base D Z=>by
 refine US D Bg (λvs H Q E h=>?_) (λf cdv A outer s H vs Q E hr h=>?_)
 ·obtain⟨v_0,v_1,v_2,a_0,a_1,a_2,b,rfl,_⟩:=h;rfl
 obtain⟨v_0,v_1,v_2,a_0,a_1,a_2,b,rfl,C_0,hw,h_0,h_1,h_2,hm,q⟩:=h
 have hu:=hu8 hr
 have hu1:=Uu hr
 refine⟨_,(Xb (Y4 (Xn Zr (XC (Yn K rfl) (Xh (Xi K rfl) (pv 0) (pv 1) (λ_ _=>rfl)) X3 (XG (pv 2))) (XC (Yn K rfl) (Xh (Xi K rfl) (pv 0) (pv 1) (λ_ _=>rfl)) (XG (Xn XE (pv 2) Xc)) X3)) (Z8 (pv 0) (pv 1) YA))
  Xf),?_⟩
 refine EK (S:=(SC.add (SC.add (SC.addO SC.nil K (oL (oL (oF Xe))) v_0 a_0 C_0) K Xe v_1 a_1) K Xe v_2 a_2)) (σ:=[some v_0,some v_1,some v_2]) 1 0 (by decide) ?_ hw (SC.i (SC.i (SC.i SC.t h_0) h_1) h_2) hm q (λ_ _=>rfl)
 exact(Vl K qN (λ_=>qB) λa19 C20=>(Bz (K:=K) (q:=(oL (oL (oF Xe)))) 0 rfl (λ_ s=>s.r)))⟩
noncomputable def Ua:=UG.1
noncomputable abbrev G0 (P:Program)(w:World)(K:PySem.W.Frag)(mg:Str->Option Value)(base:Heap):Prop:=Fn P w K mg base 1 "_law_cut_out" ["_law_walks","_law_at","_law_k"] (Rx (oL (oL (oF Xe))) Xe Xe Ua K)
theorem Vu:FnScope ["_law_drawing","_law_move","_law_walks","_law_signs","_law_cut","_law_one","_law_two","_law_sign","_law_at","_law_k"] ["_law_drawing","_law_move"] (Xj PK):=⟨rfl,rfl,rfl,by decide+kernel,rfl,by decide+kernel,by decide+kernel⟩
noncomputable def MH:{m:((List (List Int))×(List (Int×Int)))->(List Mx)->Rs ((List (List Int))×(List (Int×Int))) // ∀{P:Program}{w:World}{K:PySem.W.Frag}{mg:Str->Option Value}{base:Heap} (D:Def K mg "_law_do" PK ["_law_drawing","_law_move"]) (g_lay_in:Dz P w K mg base) (g_cut_out:G0 P w K mg base) (Z:Blt mg),Fn P w K mg base 2 "_law_do" ["_law_drawing","_law_move"] (sp2 (rP2 (rV (rV Xe)) (rV (rP2 Xe Xe))) (rPL rMx) (oT2 (oL (oL (oF Xe))) (oL (oF (rP2 Xe Xe)))) m K)}:=⟨_, @λP w K mg base D g_lay_in g_cut_out Z=>go2 D Vu 8 2 rfl rfl λhr hu hu1=>⟨_,(Xb (ZO 2 (Xj PK) ["_law_drawing","_law_move","_law_walks","_law_signs","_law_cut","_law_one","_law_two","_law_sign","_law_at","_law_k"] ["_law_walk"] [] rfl Vu.nd rfl rfl (XD (K:=K) rfl (Xh (Xg K rfl) (pv 0) Xc (λ_ _=>rfl))) (Ys (by decide)) (λcl C s H ex E=>⟨Xw (i:=0) (show List.Nodup (["_law_walk"]:List Str) by decide+kernel) rfl (Or.inl rfl),YW,(XL (X0 K rfl) rfl Z.b_list PyProof.Rows.boot_list (Xa (pv 0) Xd))⟩))
  (Xb (Xo (i:=3) Vu.nd rfl (Or.inl rfl) (XL (Zo K rfl rfl) rfl Z.b_dict PyProof.Rows.boot_dict (Xa (Xh (Xg K rfl) (pv 0) Xc (λ_ _=>rfl)) Xd)))
  (Xb (XM (PW.pt (BZ (Xq Ya (Xh (Xg K rfl) (pv 1) Xc (λ_ _=>rfl)) XJ (Xs _)) (F4 (Xq F9 (Xm (Xl K rfl) rfl Z.b_len PySem.boot_len (Xa (Xh (Xi K rfl) (pv 2) (Xh (Xg K rfl) (pv 1) Xc (λ_ _=>rfl)) (λ_ _=>rfl)) Xd)) Xc (Xs _)))))
   (Xb (Xo (i:=4) Vu.nd rfl (Or.inl rfl) (Xn Yb (Xh (Xg K rfl) (pv 1) Xc (λ_ _=>rfl)) (Xm (Xl K rfl) rfl Z.b_len PySem.boot_len (Xa (Xh (Xi K rfl) (pv 2) (Xh (Xg K rfl) (pv 1) Xc (λ_ _=>rfl)) (λ_ _=>rfl)) Xd))))
   (Xb (Y4 (Xn Zr (XC (Yn K rfl) (Xh (Xi K rfl) (pv 2) (Xh (Xg K rfl) (pv 1) Xc (λ_ _=>rfl)) (λ_ _=>rfl)) (XG (pv 4)) X3) (XC (Yn K rfl) (Xh (Xi K rfl) (pv 2) (Xh (Xg K rfl) (pv 1) Xc (λ_ _=>rfl)) (λ_ _=>rfl)) X3 (XG (pv 4)))) (Z8 (pv 2) (Xh (Xg K rfl) (pv 1) Xc (λ_ _=>rfl)) YA))
   Xf))
   Xf)
  (Xb (XM (Xq Ya (Xh (Xg K rfl) (pv 1) Xc (λ_ _=>rfl)) XJ (Xs _))
   (Xb (Xo (i:=5) Vu.nd rfl (Or.inl rfl) (Xn XY (Xh (Xg K rfl) (pv 1) Xc (λ_ _=>rfl)) (Xh (Xi K rfl) (XF (Xa (Yr XU Xc) (Xa Xc Xd))) (XL Qk rfl Z.b_int PyProof.Rows.boot_int (Xa (X1 Ya (Xh (Xg K rfl) (pv 1) Xc (λ_ _=>rfl)) XJ (Xs _)) Xd)) (λ_ _=>rfl))))
   (Xb (XV (XA g_lay_in hr (by decide) (Xa (pv 2) (Xa (Xh (Xg K rfl) (pv 1) Xc (λ_ _=>rfl)) (Xa (Xh (Xg K rfl) (pv 1) Xc (λ_ _=>rfl)) (Xa (pv 5) (Xa (Yr XU (pv 5)) Xd)))))))
   (Xb (Ul hu1 (pv 3) (Xh (Xg K rfl) (pv 1) Xc (λ_ _=>rfl)) (Xh (Xg K rfl) (pv 1) Xc (λ_ _=>rfl)) rfl)
   Xf)))
   Xf)
  (Xb (XM (Xq Ya (Xh (Xg K rfl) (pv 1) Xc (λ_ _=>rfl)) XJ (Xs _))
   (Xb (XV (KL (pv 3) (Xm HQ rfl Z.b_abs PyProof.Rows.boot_abs (Xa (Xh (Xi K rfl) (Xh (Xi K rfl) (pv 2) (Xh (Xg K rfl) (pv 1) Xc (λ_ _=>rfl)) (λ_ _=>rfl)) (Xh (Xg K rfl) (pv 1) Xc (λ_ _=>rfl)) (λ_ _=>rfl)) Xd)) ⟨rfl,rfl,rfl,rfl⟩))
   (Xb (XV (XA g_cut_out hr (by decide) (Xa (pv 2) (Xa (Xh (Xg K rfl) (pv 1) Xc (λ_ _=>rfl)) (Xa (Xh (Xg K rfl) (pv 1) Xc (λ_ _=>rfl)) Xd)))))
   Xf))
   Xf)
  (Xb (XM (Xq Ya (Xh (Xg K rfl) (pv 1) Xc (λ_ _=>rfl)) XJ (Xs _))
   (Xb (Hu (i:=5) (j:=6) (k:=7) rfl Vu.nd rfl rfl rfl (by decide) (by decide) (by decide) rfl rfl rfl (Xa (Xh (Xg K rfl) (pv 1) Xc (λ_ _=>rfl)) (Xa (Xh (Xg K rfl) (pv 1) Xc (λ_ _=>rfl)) (Xa (Xh (Xg K rfl) (pv 1) Xc (λ_ _=>rfl)) Xd))) rfl)
   (Xb (XV (XA g_lay_in hr (by decide) (Xa (pv 2) (Xa (Xh (Xg K rfl) (pv 1) Xc (λ_ _=>rfl)) (Xa (Xh (Xg K rfl) (pv 1) Xc (λ_ _=>rfl)) (Xa (pv 5) (Xa (pv 6) Xd)))))))
   (Xb (Ul hu1 (pv 3) (pv 5) (pv 7) rfl)
   (Xb (Ul hu1 (pv 3) (pv 6) (Yr XU (pv 7)) rfl)
   (Xb (XM (Yv (Xh (Xg K rfl) (pv 1) Xc (λ_ _=>rfl)))
    (Xb (Ls (i:=5) (j:=6) rfl Vu.nd rfl rfl (by decide) rfl rfl (Xa (pv 6) (Xa (pv 5) Xd)) rfl)
    Xf)
    Xf)
   (Xb (XV (XA g_lay_in hr (by decide) (Xa (pv 2) (Xa (Xh (Xg K rfl) (pv 1) Xc (λ_ _=>rfl)) (Xa (Xh (Xg K rfl) (pv 1) Xc (λ_ _=>rfl)) (Xa (Yr XU (pv 5)) (Xa (Yr XU (pv 6)) Xd)))))))
   Xf))))))
   Xf)
  (Xb (XM (Xq Ya (Xh (Xg K rfl) (pv 1) Xc (λ_ _=>rfl)) XJ (Xs _))
   (Xb (XV (KL (pv 3) (Xh (Xi K rfl) (Xh (Xi K rfl) (pv 2) (Xh (Xg K rfl) (pv 1) Xc (λ_ _=>rfl)) (λ_ _=>rfl)) (Xh (Xg K rfl) (pv 1) Xc (λ_ _=>rfl)) (λ_ _=>rfl)) ⟨rfl,rfl,rfl,rfl⟩))
   (Xb (XV (KL (pv 3) (Xh (Xi K rfl) (Xh (Xi K rfl) (pv 2) (Xh (Xg K rfl) (pv 1) Xc (λ_ _=>rfl)) (λ_ _=>rfl)) (Xn XE (Xh (Xg K rfl) (pv 1) Xc (λ_ _=>rfl)) Xc) (λ_ _=>rfl)) ⟨rfl,rfl,rfl,rfl⟩))
   (Xb (Yw PassesOwn.never rfl (XD (K:=K) rfl (GO K rfl (Xm (QE K rfl (Vs (by decide) hu)) rfl Z.b_sorted PyProof.Rows.boot_sorted (Xa (XF (Xa (XC (YM K rfl) (pv 1) (XG Xc) (XG Xc)) (Xa (XC (YM K rfl) (pv 1) (XG Xc) (XG Xc)) Xd))) Xd XX)) (Yr XU Xc))) (Ve rfl (Yf (Xw (i:=8) Vu.nd rfl (Or.inl rfl)) (Yf (Xw (i:=9) Vu.nd rfl (Or.inl rfl)) Qu)))
    (Xb (XV (XA g_cut_out hr (by decide) (Xa (pv 2) (Xa (pv 8) (Xa (pv 9) Xd)))))
    Xf))
   Xf)))
   Xf)
  (Xb (XM (Xq Ya (Xh (Xg K rfl) (pv 1) Xc (λ_ _=>rfl)) XJ (Xs _))
   (Xb (Yw PassesOwn.never rfl (XD (K:=K) rfl (XF (Xa (XC (YM K rfl) (pv 1) (XG Xc) (XG Xc)) (Xa (XC (YM K rfl) (pv 1) (XG Xc) (XG Xc)) (Xa (XC (YM K rfl) (pv 1) (XG Xc) (XG Xc)) Xd))))) (Ve rfl (Yf (Xw (i:=8) Vu.nd rfl (Or.inl rfl)) (Yf (Xw (i:=9) Vu.nd rfl (Or.inl rfl)) Qu)))
    (Xb (Ls (i:=5) (j:=6) rfl Vu.nd rfl rfl (by decide) rfl rfl (Xa (Xh (Xi K rfl) (Xh (Xi K rfl) (pv 2) (pv 8) (λ_ _=>rfl)) (pv 9) (λ_ _=>rfl)) (Xa (Xh (Xi K rfl) (Xh (Xi K rfl) (pv 2) (pv 8) (λ_ _=>rfl)) (Xn XE (pv 9) Xc) (λ_ _=>rfl)) Xd)) rfl)
    (Xb (Y4 (pv 6) (Z8 (Xh (Xi K rfl) (pv 2) (pv 8) (λ_ _=>rfl)) (pv 9) YA))
    (Xb (Y4 (pv 5) (Z8 (Xh (Xi K rfl) (pv 2) (pv 8) (λ_ _=>rfl)) (Xn XE (pv 9) Xc) YA))
    Xf))))
   Xf)
   Xf)
  (Xb (Xr (XR (Xa (pv 2) (Xa (Gn rfl rfl Z.b_sorted (pv 3) (Vs (by decide) hu)) Xd))))
  Xf))))))))),λv_0 v_1 a_0 a_1=>(Y6 K (o:=(oL (oL (oF Xe)))) 0 (YT (λ_=>tg1 0) qw (λC5 a6 v7=>qN)) λa1 v2 C3=>(Y6 K (o:=(oD Xe)) 1 (VA ql) λa10 v11 C12=>(ZR (λO (x27:Option V×V×List Xx)=>[x27.2.2,C12]) (λs x27=>[some v_0,some v_1,some x27.2.1,some v11,x27.1,none,none,none,none,none]) (λS (g28:(List (List Int))) x27=>(SC.addO S K (oL (oL (oF Xe))) x27.2.1 g28 x27.2.2)) (YG (qt K) (Yi K qS λa29 v30=>(Vl K qN (λ_=>qb) λa62 C63=>(YC ((some v30),v2,C63) (a62) rfl rfl))) (YC ((none),v2,C3) (a1) rfl rfl)) λg65 x64=>(ZR (λO (x71:Option V×V×V×List Xx×List Xx)=>[x71.2.2.2.2,x71.2.2.2.1]) (λs x71=>[some v_0,some v_1,some x71.2.2.1,some x71.2.1,x64.1,x71.1,none,none,none,none]) (λS (g72:(List (Int×Int))×(List (List Int))) x71=>(SC.addO (SC.addO S K (oD Xe) x71.2.1 g72.1 x71.2.2.2.1) K (oL (oL (oF Xe))) x71.2.2.1 g72.2 x71.2.2.2.2)) (YG (qt K) (Yi K qS λa73 v74=>(Ur (K:=K) (q:=(oL (oL (oF Xe)))) 2 0 rfl rfl (λ_ s=>s.l.r) qs qs qS qS λb101 C102=>(Hg K qs qb λa109 C110=>(YC ((some v74),v11,x64.2.1,C110,C102) (a109,b101) rfl rfl)))) (YC ((none),v11,x64.2.1,C12,x64.2.2) (a10,g65) rfl rfl)) λg112 x111=>(ZR (λO (x118:V×V×List Xx×List Xx)=>[x118.2.2.2,x118.2.2.1]) (λs x118=>[some v_0,some v_1,some x118.2.1,some x118.1,x64.1,x111.1,none,none,none,none]) (λS (g119:(List (Int×Int))×(List (List Int))) x118=>(SC.addO (SC.addO S K (oD Xe) x118.1 g119.1 x118.2.2.1) K (oL (oL (oF Xe))) x118.2.1 g119.2 x118.2.2.2)) (YG (qt K) (FD (K:=K) (r:=Xe) 3 1 rfl rfl (λ_ s=>s.l.r) qB λa130 C131=>(Fb (K:=K) (q:=(oL (oL (oF Xe)))) 2 0 rfl rfl (λ_ s=>s.l.r) qs qs λb138 C139=>(YC (x111.2.1,x111.2.2.1,C131,C139) (a130,b138) rfl rfl))) (YC (x111.2.1,x111.2.2.1,x111.2.2.2.1,x111.2.2.2.2) (g112.1,g112.2) rfl rfl)) λg141 x140=>(ZR (λO (x147:Option V×Option V×Option V×V×V×List Xx×List Xx)=>[x147.2.2.2.2.2.2,x147.2.2.2.2.2.1]) (λs x147=>[some v_0,some v_1,some x147.2.2.2.2.1,some x147.2.2.2.1,x64.1,x147.1,x147.2.1,x147.2.2.1,none,none]) (λS (g148:(List (Int×Int))×(List (List Int))) x147=>(SC.addO (SC.addO S K (oD Xe) x147.2.2.2.1 g148.1 x147.2.2.2.2.2.1) K (oL (oL (oF Xe))) x147.2.2.2.2.1 g148.2 x147.2.2.2.2.2.2)) (YG (qt K) (Md (K:=K) 5 6 7 qs qs qs λa155 a156 a157 v158 v159 v160=>(Ur (K:=K) (q:=(oL (oL (oF Xe)))) 2 0 rfl rfl (λ_ s=>s.l.l.l.r) qs qs qS qS λb169 C170=>(Hg K qS qB λa173 C174=>(Hg K qS qB λa178 C179=>(ZR (λO (x183:V×V)=>[C170,C179]) (λs x183=>[some v_0,some v_1,some x140.2.1,some x140.1,x64.1,some x183.1,some x183.2,some v160,none,none]) (λS (g184:Int×Int) x183=>(SC.add (SC.add S K Xe x183.1 g184.1) K Xe x183.2 g184.2)) (YG (qt K) (LZ (K:=K) 5 6 qS qS λa185 a186 v187 v188=>(YC (v187,v188) (a185,a186) rfl rfl)) (YC (v158,v159) (a155,a156) rfl rfl)) λg190 x189=>(Ur (K:=K) (q:=(oL (oL (oF Xe)))) 2 0 rfl rfl (λ_ s=>s.l.l.l.l.r) qs qs qS qS λb201 C202=>(YC ((some x189.1),(some x189.2),(some v160),x140.1,x140.2.1,C179,C202) (a178,b201) rfl rfl))))))) (YC ((x111.1),(none),(none),x140.1,x140.2.1,x140.2.2.1,x140.2.2.2) (g141.1,g141.2) rfl rfl)) λg204 x203=>(ZR (λO (x210:Option V×Option V×V×V×List Xx×List Xx)=>[x210.2.2.2.2.2,x210.2.2.2.2.1]) (λs x210=>[some v_0,some v_1,some x210.2.2.2.1,some x210.2.2.1,x64.1,x203.1,x203.2.1,x203.2.2.1,x210.1,x210.2.1]) (λS (g211:(List (Int×Int))×(List (List Int))) x210=>(SC.addO (SC.addO S K (oD Xe) x210.2.2.1 g211.1 x210.2.2.2.2.1) K (oL (oL (oF Xe))) x210.2.2.2.1 g211.2 x210.2.2.2.2.2)) (YG (qt K) (FD (K:=K) (r:=Xe) 3 1 rfl rfl (λ_ s=>s.l.r) qB λa221 C222=>(FD (K:=K) (r:=Xe) 3 1 rfl rfl (λ_ s=>s.r) qB λa234 C235=>(Fh K (λO (x255:Option V×Option V×V×List Xx)=>[x255.2.2.2,C235]) (λs x255=>[some v_0,some v_1,some x255.2.2.1,some x203.2.2.2.1,x64.1,x203.1,x203.2.1,x203.2.2.1,x255.1,x255.2.1]) (λS (g256:(List (List Int))) x255=>(SC.addO S K (oL (oL (oF Xe))) x255.2.2.1 g256 x255.2.2.2)) (λ_=>tg2 8 9) ((none),(none),x203.2.2.2.2.1,x203.2.2.2.2.2.2) (g204.2) (Ze (Ev.sh (G5 (Ev.ls (KZ (Ev.ls (Vh (Yo (EvB.sh (UL qB)) (Yo (EvB.sh (UL qB)) qa)))))) qB))) rfl rfl (λ_ s=>(SC.i s s.l.l.r)) (λg257 x258 a259 v260=>(Fb (K:=K) (q:=(oL (oL (oF Xe)))) 2 0 rfl rfl (λ_ s=>s.l.l.r) qS qS λb263 C264=>(YC ((some v260.1),(some v260.2),x258.2.2.1,C264) (b263) rfl rfl))) λg265 x266=>(YC ((x266.1),(x266.2.1),x203.2.2.2.1,x266.2.2.1,C235,x266.2.2.2) (a234,g265) rfl rfl)))) (YC ((none),(none),x203.2.2.2.1,x203.2.2.2.2.1,x203.2.2.2.2.2.1,x203.2.2.2.2.2.2) (g204.1,g204.2) rfl rfl)) λg269 x268=>(ZR (λO (x275:Option V×Option V×Option V×Option V×V×List Xx)=>[x275.2.2.2.2.2,x268.2.2.2.2.1]) (λs x275=>[some v_0,some v_1,some x275.2.2.2.2.1,some x268.2.2.1,x64.1,x275.2.2.1,x275.2.2.2.1,x203.2.2.1,x275.1,x275.2.1]) (λS (g276:(List (List Int))) x275=>(SC.addO S K (oL (oL (oF Xe))) x275.2.2.2.2.1 g276 x275.2.2.2.2.2)) (YG (qt K) (Fh K (λO (x299:Option V×Option V×Option V×Option V×V×List Xx)=>[x299.2.2.2.2.2,x268.2.2.2.2.1]) (λs x299=>[some v_0,some v_1,some x299.2.2.2.2.1,some x268.2.2.1,x64.1,x299.2.2.1,x299.2.2.2.1,x203.2.2.1,x299.1,x299.2.1]) (λS (g300:(List (List Int))) x299=>(SC.addO S K (oL (oL (oF Xe))) x299.2.2.2.2.1 g300 x299.2.2.2.2.2)) (λ_=>tg2 8 9) ((x268.1),(x268.2.1),(x203.1),(x203.2.1),x268.2.2.2.1,x268.2.2.2.2.2) (g269.2) (Ze (Ev.sh (Vh (Yo (EvB.sh (UL qB)) (Yo (EvB.sh (UL qB)) (Yo (EvB.sh (UL qB)) qa)))))) rfl rfl (λ_ s=>(SC.i s s.r)) (λg301 x302 a303 v304=>(LZ (K:=K) 5 6 qS qS λa315 a316 v317 v318=>(Jy (K:=K) (r:=Xe) 2 0 rfl rfl (λ_ s=>s.l.l.l.l.r) qS qB qB λa322 C323=>(Jy (K:=K) (r:=Xe) 2 0 rfl rfl (λ_ s=>s.r) qS qB qB λa331 C332=>(YC ((some v304.1),(some v304.2),(some v317),(some v318),x302.2.2.2.2.1,C332) (a331) rfl rfl))))) λg335 x336=>(YC ((x336.1),(x336.2.1),(x336.2.2.1),(x336.2.2.2.1),x336.2.2.2.2.1,x336.2.2.2.2.2) (g335) rfl rfl)) (YC ((x268.1),(x268.2.1),(x203.1),(x203.2.1),x268.2.2.2.1,x268.2.2.2.2.2) (g269.2) rfl rfl)) λg339 x338=>(Xt (Za JK λ_=>(Ha qB)))))))))))⟩⟩
noncomputable def FV:=MH.1
noncomputable abbrev PV (P:Program)(w:World)(K:PySem.W.Frag)(mg:Str->Option Value)(base:Heap):Prop:=Fn P w K mg base 2 "_law_do" ["_law_drawing","_law_move"] (sp2 (rP2 (rV (rV Xe)) (rV (rP2 Xe Xe))) (rPL rMx) (oT2 (oL (oL (oF Xe))) (oL (oF (rP2 Xe Xe)))) FV K)
theorem LE:FnScope ["_law_signs","_law_name"] ["_law_signs","_law_name"] (Xj M4):=⟨rfl,rfl,rfl,by decide+kernel,rfl,by decide+kernel,by decide+kernel⟩
noncomputable def Nt:{m:(List (Int×Int))->Int->Rs Int // ∀{P:Program}{w:World}{K:PySem.W.Frag}{mg:Str->Option Value}{base:Heap} (D:Def K mg "_law_new" M4 ["_law_signs","_law_name"]) (Z:Blt mg),Fn P w K mg base 1 "_law_new" ["_law_signs","_law_name"] (sp2 (rD Xe) Xe (oF Xe) m K)}:=⟨_, @λP w K mg base D Z=>go2 D LE 0 0 rfl rfl λhr hu hu1=>⟨_,(Xb (DJ PassesOwn.never (O5 (EG hu1 (pv 1) (pv 0)))
   (Xb (Xo (i:=1) LE.nd rfl (Or.inl rfl) (Xn XE (pv 1) Xc))
   Xf))
  (Xb (Xr (pv 1))
  Xf)),λv_0 v_1 a_0 a_1=>(LU (λO (x1:V)=>[]) (λs x1=>[some v_0,some x1]) (λS (g2:Int) x1=>(SC.add S K Xe x1 g2)) (a_0.length+2) (v_1) (a_1) rfl rfl (λ_ s=>(SC.i s s.r)) (λg3 x4=>(GI (K:=K) (Fs qB qB))) (λg3 x4=>(Yi K qS λa7 v8=>(YC (v8) (a7) rfl rfl))) λg11 x12=>(Xt qM))⟩⟩
noncomputable def NZ:=Nt.1
noncomputable abbrev M7 (P:Program)(w:World)(K:PySem.W.Frag)(mg:Str->Option Value)(base:Heap):Prop:=Fn P w K mg base 1 "_law_new" ["_law_signs","_law_name"] (sp2 (rD Xe) Xe (oF Xe) NZ K)
theorem Ja:FnScope ["_law_drawing","_law_some","_law_walks","_law_signs","_law_at","_law_k","_law_far","_law_name"] ["_law_drawing","_law_some"] (Xj Ed):=⟨rfl,rfl,rfl,by decide+kernel,rfl,by decide+kernel,by decide+kernel⟩
noncomputable def BJ:{m:((List (List Int))×(List (Int×Int)))->(List Int)->Rs (List Mx) // ∀{P:Program}{w:World}{K:PySem.W.Frag}{mg:Str->Option Value}{base:Heap} (D:Def K mg "_law_curl" Ed ["_law_drawing","_law_some"]) (g_new:M7 P w K mg base) (Z:Blt mg),Fn P w K mg base 2 "_law_curl" ["_law_drawing","_law_some"] (sp2 (rP2 (rV (rV Xe)) (rV (rP2 Xe Xe))) (rV Xe) (oF (rPL rMx)) m K)}:=⟨_, @λP w K mg base D g_new Z=>go2 D Ja 6 0 rfl rfl λhr hu hu1=>⟨_,(Xb (Y4 (pv 0) (Ve rfl (Yf (Xw (i:=2) Ja.nd rfl (Or.inl rfl)) (Yf (Xw (i:=3) Ja.nd rfl (Or.inl rfl)) Qu))))
  (Xb (Xo (i:=4) Ja.nd rfl (Or.inl rfl) (Xn Yb (Xh (Xi K rfl) (pv 1) Xc (λ_ _=>rfl)) (Xm (Xl K rfl) rfl Z.b_len PySem.boot_len (Xa (pv 2) Xd))))
  (Xb (Xo (i:=5) Ja.nd rfl (Or.inl rfl) (Xn Yb (Xh (Xi K rfl) (pv 1) Xc (λ_ _=>rfl)) (Xn XE (Xm (Xl K rfl) rfl Z.b_len PySem.boot_len (Xa (Xh (Xi K rfl) (pv 2) (pv 4) (λ_ _=>rfl)) Xd)) Xc)))
  (Xb (Xo (i:=6) Ja.nd rfl (Or.inl rfl) (Xh (Xi K rfl) (XF (Xa Xc (Xa Xc (Xa (Xn J7 Xc Xc) (Xa (Xn J7 Xc Xc) Xd))))) (Xn Yb (Xh (Xi K rfl) (pv 1) Xc (λ_ _=>rfl)) Xc) (λ_ _=>rfl)))
  (Xb (Xo (i:=7) Ja.nd rfl (Or.inl rfl) (XA g_new hr (by decide) (Xa (XL (Zo K rfl rfl) rfl Z.b_dict PyProof.Rows.boot_dict (Xa (pv 3) Xd)) (Xa (Xn XE Xc (Xn XY (Xh (Xi K rfl) (pv 1) Xc (λ_ _=>rfl)) (pv 6))) Xd))))
  (Xb (Xr (XR (Xa XJ (Xa (pv 4) (Xa (pv 5) (Xa (pv 7) (Xa (Xh (Xi K rfl) (XF (Xa XJ (Xa XJ Xd))) (Xh (Xi K rfl) (pv 1) Xc (λ_ _=>rfl)) (λ_ _=>rfl)) (Xa (Xn Zd (Xn XY Xc (Xh (Xi K rfl) (pv 1) Xc (λ_ _=>rfl))) Xc) Xd))))))))
  Xf)))))),λv_0 v_1 a_0 a_1=>(DH (K:=K) 2 3 qS λa1 v2 v3=>(Yi K qS λa4 v5=>(Yi K qS λa11 v12=>(Yi K qS λa22 v23=>(Yi K (r:=Xe) (EvB.sh (Ev.toB (Cz (Ev.toB (VA ql)) qB))) λa43 v44=>(Xt (EvB.flat (Ev.toB (EvS.ev (ZZ (r:=rMx) qa))))))))))⟩⟩
noncomputable def EJ:=BJ.1
noncomputable abbrev LG (P:Program)(w:World)(K:PySem.W.Frag)(mg:Str->Option Value)(base:Heap):Prop:=Fn P w K mg base 2 "_law_curl" ["_law_drawing","_law_some"] (sp2 (rP2 (rV (rV Xe)) (rV (rP2 Xe Xe))) (rV Xe) (oF (rPL rMx)) EJ K)
theorem ZC:FnScope ["_law_drawing","_law_some","_law_walks","_law_signs","_law_names","_law_over","_law_k","_law_under","_law_free","_law_far","_law_one","_law_two","_law_to"] ["_law_drawing","_law_some"] (Xj I9):=⟨rfl,rfl,rfl,by decide+kernel,rfl,by decide+kernel,by decide+kernel⟩
noncomputable def Ny:{m:((List (List Int))×(List (Int×Int)))->(List Int)->Rs (List Mx) // ∀{P:Program}{w:World}{K:PySem.W.Frag}{mg:Str->Option Value}{base:Heap} (D:Def K mg "_law_lay" I9 ["_law_drawing","_law_some"]) (g_new:M7 P w K mg base) (Z:Blt mg),Fn P w K mg base 2 "_law_lay" ["_law_drawing","_law_some"] (sp2 (rP2 (rV (rV Xe)) (rV (rP2 Xe Xe))) (rV Xe) (oF (rPL rMx)) m K)}:=⟨_, @λP w K mg base D g_new Z=>go2 D ZC 11 1 rfl rfl λhr hu hu1=>⟨_,(Xb (Y4 (pv 0) (Ve rfl (Yf (Xw (i:=2) ZC.nd rfl (Or.inl rfl)) (Yf (Xw (i:=3) ZC.nd rfl (Or.inl rfl)) Qu))))
  (Xb (Xo (i:=4) ZC.nd rfl (Or.inl rfl) (XL (Zo K rfl rfl) rfl Z.b_dict PyProof.Rows.boot_dict (Xa (pv 3) Xd)))
  (Xb (Xo (i:=5) ZC.nd rfl (Or.inl rfl) (Xn Yb (Xh (Xi K rfl) (pv 1) Xc (λ_ _=>rfl)) (Xm (Xl K rfl) rfl Z.b_len PySem.boot_len (Xa (pv 2) Xd))))
  (Xb (Xo (i:=6) ZC.nd rfl (Or.inr rfl) (Xn Yb (Xh (Xi K rfl) (pv 1) Xc (λ_ _=>rfl)) (Xn XE (Xm (Xl K rfl) rfl Z.b_len PySem.boot_len (Xa (Xh (Xi K rfl) (pv 2) (pv 5) (λ_ _=>rfl)) Xd)) Xc)))
  (Xb (Xo (i:=7) ZC.nd rfl (Or.inl rfl) (Xn Yb (Xh (Xi K rfl) (pv 1) Xc (λ_ _=>rfl)) (Xm (Xl K rfl) rfl Z.b_len PySem.boot_len (Xa (pv 2) Xd))))
  (Xb (Xo (i:=8) ZC.nd rfl (Or.inl rfl) (Go rfl rfl rfl Z.b_list Z.b_range (Xa (Xn XE (Xm (Xl K rfl) rfl Z.b_len PySem.boot_len (Xa (Xh (Xi K rfl) (pv 2) (pv 7) (λ_ _=>rfl)) Xd)) Xc) Xd)))
  (Xb (XM (Xq Ya (pv 7) (pv 5) (Xs _))
   (Xb (ZO 8 (Xj I9) ["_law_drawing","_law_some","_law_walks","_law_signs","_law_names","_law_over","_law_k","_law_under","_law_free","_law_far","_law_one","_law_two","_law_to"] ["_law_j"] [(6,"_law_k")] rfl ZC.nd rfl rfl (Yu rfl Z.b_range (Xa (Xn XE (Xm (Xl K rfl) rfl Z.b_len PySem.boot_len (Xa (Xh (Xi K rfl) (pv 2) (pv 5) (λ_ _=>rfl)) Xd)) Xc) Xd)) (Ys (by decide)) (λcl C s H ex E=>⟨Xw (i:=0) (show List.Nodup (["_law_j","_law_k"]:List Str) by decide+kernel) rfl (Or.inl rfl),(UH (Xq Ba (pv 0) (Xn XE (pv 1) Xc) (Xs _))),(pv 0)⟩))
   Xf)
   Xf)
  (Xb (Xo (i:=9) ZC.nd rfl (Or.inl rfl) (Xh (Xi K rfl) (XF (Xa Xc (Xa Xc (Xa (Xn J7 Xc Xc) (Xa (Xn J7 Xc Xc) Xd))))) (Xn Yb (Xh (Xi K rfl) (pv 1) Xc (λ_ _=>rfl)) Xc) (λ_ _=>rfl)))
  (Xb (Xo (i:=10) ZC.nd rfl (Or.inl rfl) (XA g_new hr (by decide) (Xa (pv 4) (Xa (Xn XE Xc (Xn XY (Xh (Xi K rfl) (pv 1) Xc (λ_ _=>rfl)) (pv 9))) Xd))))
  (Xb (Ul hu1 (pv 4) (pv 10) Xc rfl)
  (Xb (Xo (i:=11) ZC.nd rfl (Or.inl rfl) (XA g_new hr (by decide) (Xa (pv 4) (Xa (Xn XE Xc (Xh (Xi K rfl) (pv 1) Xc (λ_ _=>rfl))) Xd))))
  (Xb (Xo (i:=12) ZC.nd rfl (Or.inl rfl) (Xh (Xi K rfl) (pv 8) (Xn Yb (Xh (Xi K rfl) (pv 1) Xc (λ_ _=>rfl)) (Xm (Xl K rfl) rfl Z.b_len PySem.boot_len (Xa (pv 8) Xd))) (λ_ _=>rfl)))
  (Xb (Xr (XR (Xa XJ (Xa (pv 5) (Xa (pv 6) (Xa (pv 7) (Xa (pv 12) (Xa (pv 10) (Xa (pv 11) (Xa (X1 Ya (Xh (Xi K rfl) (pv 1) Xc (λ_ _=>rfl)) Xc (Xs _)) (Xa (Xn Zd (Xn XY Xc (Xh (Xi K rfl) (pv 1) Xc (λ_ _=>rfl))) Xc) Xd)))))))))))
  Xf))))))))))))),λv_0 v_1 a_0 a_1=>(DH (K:=K) 2 3 qS λa1 v2 v3=>(Y6 K (o:=(oD Xe)) 0 (VA ql) λa4 v5 C6=>(Yi K qS λa8 v9=>(Yi K qS λa15 v16=>(Yi K qS λa26 v27=>(Yi K (r:=(rV Xe)) (Ev.sh (Gk qB)) λa33 v34=>(ZR (λO (x44:V)=>[C6]) (λs x44=>[some v_0,some v_1,some v2,some v3,some v5,some v9,some v16,some v27,some x44,none,none,none,none]) (λS (g45:(List Int)) x44=>(SC.add S K (rV Xe) x44 g45)) (YG (qt K) (Yi K (r:=(rV Xe)) (Ev.sh (JF (λ_=>tg1 0) qw (λC54 a55 v56=>(qt K)) (λC54 a55 v56=>qM))) λa46 v47=>(YC (v47) (a46) rfl rfl)) (YC (v34) (a33) rfl rfl)) λg63 x62=>(Yi K qS λa64 v65=>(Yi K qS λa85 v86=>(Hg K qS qB λa98 C99=>(Yi K qS λa100 v101=>(Yi K qS λa109 v110=>(Xt (EvB.flat (Ev.toB (EvS.ev (ZZ (r:=rMx) qa)))))))))))))))))⟩⟩
noncomputable def Nl:=Ny.1
noncomputable abbrev OH (P:Program)(w:World)(K:PySem.W.Frag)(mg:Str->Option Value)(base:Heap):Prop:=Fn P w K mg base 2 "_law_lay" ["_law_drawing","_law_some"] (sp2 (rP2 (rV (rV Xe)) (rV (rP2 Xe Xe))) (rV Xe) (oF (rPL rMx)) Nl K)
theorem Vc:FnScope ["_law_script","_law_place","_law_drawing","_law_word","_law_some","_law_steps","_law_found","_law_move","_law_k","_law_behind"] ["_law_script","_law_place","_law_drawing","_law_word"] (Xj L4):=⟨rfl,rfl,rfl,by decide+kernel,rfl,by decide+kernel,by decide+kernel⟩
noncomputable def Ia:{m:(List Int)->Int->((List (List Int))×(List (Int×Int)))->Str->Rs (((List (List Int))×(List (Int×Int)))×(List Mx)) // ∀{P:Program}{w:World}{K:PySem.W.Frag}{mg:Str->Option Value}{base:Heap} (D:Def K mg "_law_set" L4 ["_law_script","_law_place","_law_drawing","_law_word"]) (g_row:IH P w K mg base) (g_curl:LG P w K mg base) (g_passes:Cv P w K mg base) (g_lay:OH P w K mg base) (g_do:PV P w K mg base) (Z:Blt mg),Fn P w K mg base 3 "_law_set" ["_law_script","_law_place","_law_drawing","_law_word"] (RI (rL Xe) Xe (rP2 (rV (rV Xe)) (rV (rP2 Xe Xe))) UZ (oF (rP2 (rP2 (rV (rV Xe)) (rV (rP2 Xe Xe))) (rPL rMx))) m K)}:=⟨_, @λP w K mg base D g_row g_curl g_passes g_lay g_do Z=>by
  refine US D Vc (λvs H Q E h=>?_) (λf cdv A outer s H vs Q E hr h=>?_)
  . obtain⟨v_0,v_1,v_2,v_3,a_0,a_1,a_2,a_3,b,rfl,_⟩:=h;rfl
  obtain⟨v_0,v_1,v_2,v_3,a_0,a_1,a_2,a_3,b,rfl,Cf,hw,h_0,h_1,h_2,h_3,hm,q⟩:=h
  have hu:=hu8 hr
  have hu1:=Uu hr
  apply Exists.intro
  apply And.intro
  case left=>
   refine' Xb ?zq1 ?zq2
   case zq1=>
    refine' Xo (i:=4) ?zq3 ?zq4 ?zq5 ?zq6
    case zq3=>
     exact Vc.nd
    case zq4=>
     exact rfl
    case zq5=>
     exact(Or.inl rfl)
    case zq6=>
     refine' XA g_row hr ?zq7 ?zq8
     case zq7=>
      exact(by decide)
     case zq8=>
      refine' Xa ?zq9 ?zq10
      case zq9=>
       exact(pv 0)
      case zq10=>
       refine' Xa ?zq11 ?zq12
       case zq11=>
        exact(pv 1)
       case zq12=>
        exact(Xa (XF (Xa Xc (Xa Xc (Xa Xc (Xa Xc (Xa Xc (Xa Xc (Xa Xc (Xa Xc (Xa Xc Xd)))))))))) Xd XX)
   case zq2=>
    refine' Xb ?zq13 ?zq14
    case zq13=>
     refine' XM ?zq15 ?zq16 ?zq17
     case zq15=>
      exact(Xq Ya (pv 3) XJ (Xs _))
     case zq16=>
      refine' Xb ?zq18 ?zq19
      case zq18=>
       refine' Xo (i:=5) ?zq20 ?zq21 ?zq22 ?zq23
       case zq20=>
        exact Vc.nd
       case zq21=>
        exact rfl
       case zq22=>
        exact(Or.inl rfl)
       case zq23=>
        exact(Xn XY (Xn Zd (Xh (Xi K rfl) (pv 4) Xc (λ_ _=>rfl)) Xc) (Xh (Xi K rfl) (XF (Xa Xc (Xa Xc (Xa (Xn XE (Xn J7 Xc Xc) Xc) Xd)))) (Xn Yb (Xh (Xi K rfl) (pv 4) Xc (λ_ _=>rfl)) Xc) (λ_ _=>rfl)))
      case zq19=>
       refine' Xb ?zq24 ?zq25
       case zq24=>
        refine' Xr ?zq26
        case zq26=>
         refine' XR ?zq27
         case zq27=>
          refine' Xa ?zq28 ?zq29
          case zq28=>
           exact(pv 2)
          case zq29=>
           refine' Xa ?zq30 ?zq31
           case zq30=>
            refine' XR ?zq32
            case zq32=>
             refine' Xa ?zq33 ?zq34
             case zq33=>
              exact XJ
             case zq34=>
              refine' Xa ?zq35 ?zq36
              case zq35=>
               exact(Xn Yb (Xh (Xi K rfl) (pv 4) Xc (λ_ _=>rfl)) (Xm (Xl K rfl) rfl Z.b_len PySem.boot_len (Xa (Xh (Xg K rfl) (pv 2) Xc (λ_ _=>rfl)) Xd)))
              case zq36=>
               exact(Xa (pv 5) Xd)
           case zq31=>
            exact Xd
       case zq25=>
        exact Xf
     case zq17=>
      exact Xf
    case zq14=>
     refine' Xb ?zq37 ?zq38
     case zq37=>
      refine' XM ?zq39 ?zq40 ?zq41
      case zq39=>
       exact(Xq Ya (pv 3) XJ (Xs _))
      case zq40=>
       refine' Xb ?zq42 ?zq43
       case zq42=>
        exact(Xo (i:=6) Vc.nd rfl (Or.inl rfl) (XA g_passes hr (by decide) (Xa (pv 2) Xd)))
       case zq43=>
        refine' Xb ?zq44 ?zq45
        case zq44=>
         refine' XM ?zq46 ?zq47 ?zq48
         case zq46=>
          exact(Xq F9 (Xm (Xl K rfl) rfl Z.b_len PySem.boot_len (Xa (pv 6) Xd)) Xc (Xs _))
         case zq47=>
          refine' Xb ?zq49 ?zq50
          case zq49=>
           refine' Xr ?zq51
           case zq51=>
            refine' XR ?zq52
            case zq52=>
             refine' Xa ?zq53 ?zq54
             case zq53=>
              exact(pv 2)
             case zq54=>
              refine' Xa ?zq55 ?zq56
              case zq55=>
               refine' Xh (Xi K rfl) ?zq57 ?zq58 (λ_ _=>rfl)
               case zq57=>
                exact(pv 6)
               case zq58=>
                exact(Xn Yb (Xh (Xi K rfl) (pv 4) Xc (λ_ _=>rfl)) (Xm (Xl K rfl) rfl Z.b_len PySem.boot_len (Xa (pv 6) Xd)))
              case zq56=>
               exact Xd
          case zq50=>
           exact Xf
         case zq48=>
          exact Xf
        case zq45=>
         exact Xf
      case zq41=>
       exact Xf
     case zq38=>
      refine' Xb ?zq59 ?zq60
      case zq59=>
       refine' XM ?zq61 ?zq62 ?zq63
       case zq61=>
        exact(Xq Ya (pv 3) XJ (Xs _))
       case zq62=>
        exact(Xb (Xr (XR (Xa (pv 2) (Xa (XA g_lay hr (by decide) (Xa (pv 2) (Xa (pv 4) Xd))) Xd))))
      Xf)
       case zq63=>
        exact Xf
      case zq60=>
       refine' Xb ?zq64 ?zq65
       case zq64=>
        refine' XM ?zq66 ?zq67 ?zq68
        case zq66=>
         exact(Xq Ya (pv 3) XJ (Xs _))
        case zq67=>
         refine' Xb ?zq69 ?zq70
         case zq69=>
          exact(Xo (i:=7) Vc.nd rfl (Or.inl rfl) (XA g_lay hr (by decide) (Xa (pv 2) (Xa (pv 4) Xd))))
         case zq70=>
          refine' Xb ?zq71 ?zq72
          case zq71=>
           refine' Xo (i:=8) ?zq73 ?zq74 ?zq75 ?zq76
           case zq73=>
            exact Vc.nd
           case zq74=>
            exact rfl
           case zq75=>
            exact(Or.inl rfl)
           case zq76=>
            exact(Xn XE (Xh (Xg K rfl) (pv 7) Xc (λ_ _=>rfl)) (Xn XY Xc (XL Qk rfl Z.b_int PyProof.Rows.boot_int (Xa (Z6 (X1 Ya (Xh (Xg K rfl) (pv 7) Xc (λ_ _=>rfl)) (Xh (Xg K rfl) (pv 7) Xc (λ_ _=>rfl)) (Xs _)) (Qn (X1 EU (Xh (Xg K rfl) (pv 7) Xc (λ_ _=>rfl)) (Xh (Xg K rfl) (pv 7) Xc (λ_ _=>rfl)) (Xs _)))) Xd))))
          case zq72=>
           refine' Xb ?zq77 ?zq78
           case zq77=>
            exact(Xo (i:=9) Vc.nd rfl (Or.inl rfl) (XA g_do hr (by decide) (Xa (pv 2) (Xa (pv 7) Xd))))
           case zq78=>
            refine' Xb ?zq79 ?zq80
            case zq79=>
             refine' Xr ?zq81
             case zq81=>
              refine' XR ?zq82
              case zq82=>
               refine' Xa ?zq83 ?zq84
               case zq83=>
                exact(pv 9)
               case zq84=>
                refine' Xa ?zq85 ?zq86
                case zq85=>
                 refine' XR ?zq87
                 case zq87=>
                  refine' Xa ?zq88 ?zq89
                  case zq88=>
                   exact XJ
                  case zq89=>
                   refine' Xa ?zq90 ?zq91
                   case zq90=>
                    exact(Xh (Xg K rfl) (pv 7) Xc (λ_ _=>rfl))
                   case zq91=>
                    exact(Xa (pv 8) (Xa (Xh (Xg K rfl) (pv 7) Xc (λ_ _=>rfl)) (Xa (Xh (Xg K rfl) (pv 7) Xc (λ_ _=>rfl)) Xd)))
                case zq86=>
                 exact Xd
            case zq80=>
             exact Xf
        case zq68=>
         exact Xf
       case zq65=>
        refine' Xb ?zq92 ?zq93
        case zq92=>
         exact(Xo (i:=7) Vc.nd rfl (Or.inl rfl) (XA g_curl hr (by decide) (Xa (pv 2) (Xa (pv 4) Xd))))
        case zq93=>
         refine' Xb ?zq94 ?zq95
         case zq94=>
          refine' XM ?zq96 ?zq97 ?zq98
          case zq96=>
           exact(Xq Ya (pv 3) XJ (Xs _))
          case zq97=>
           refine' Xb ?zq99 ?zq100
           case zq99=>
            refine' Xr ?zq101
            case zq101=>
             refine' XR ?zq102
             case zq102=>
              refine' Xa ?zq103 ?zq104
              case zq103=>
               exact(XA g_do hr (by decide) (Xa (pv 2) (Xa (pv 7) Xd)))
              case zq104=>
               exact(Xa (XR (Xa XJ (Xa (Xh (Xg K rfl) (pv 7) Xc (λ_ _=>rfl)) (Xa (Xh (Xg K rfl) (pv 7) Xc (λ_ _=>rfl)) Xd)))) Xd)
           case zq100=>
            exact Xf
          case zq98=>
           exact Xf
         case zq95=>
          exact(Xb (Xr (XR (Xa (pv 2) (Xa (pv 7) Xd))))
    Xf)
  refine LI (S:=(SC.add (SC.add (SC.add (SC.add SC.nil K (rL Xe) v_0 a_0) K Xe v_1 a_1) K (rP2 (rV (rV Xe)) (rV (rP2 Xe Xe))) v_2 a_2) K UZ v_3 a_3)) (σ:=[some v_0,some v_1,some v_2,some v_3,none,none,none,none,none,none]) 1 ?_ hw (SC.i (SC.i (SC.i (SC.i SC.t h_0) h_1) h_2) h_3) hm q rfl
  exact(Yi K qS λa1 v2=>(VN (qt K) (Yi K qS λa29 v30=>(Z1 (K:=K) 1 rfl (EvS.ev (Y9 qS (EvB.sh (Ev.toB (EvS.ev (ZZ (r:=rMx) qa)))))))) (Ml K (λO (x75:Option V)=>[[],Cf]) (λs x75=>[some v_0,some v_1,some v_2,some v_3,some v2,none,x75,none,none,none]) (λS (g76:Unit) x75=>S) (YG (qt K) (Yi K qS λa77 v78=>(Ee (qt K) (Z1 (K:=K) 1 rfl qM) (DF (YC ((some v78)) () rfl rfl)))) (DF (YC ((none)) () rfl rfl))) λg98 x97=>(VN (qt K) (Z1 (K:=K) 1 rfl qM) (VN (qt K) (Yi K qS λa110 v111=>(Yi K qS λa115 v116=>(Y6 K 0 qN λa136 v137 C138=>(Ln (K:=K) (o:=(oT2 (oL (oL (oF Xe))) (oL (oF (rP2 Xe Xe))))) 0 rfl (λ_ s=>s.r) (Z1 (K:=K) 1 rfl (EvS.ev (Y9 qS (EvB.sh (Ev.toB (EvS.ev (ZZ (r:=rMx) qa))))))))))) (Yi K qS λa166 v167=>(VN (qt K) (Z1 (K:=K) 1 rfl (EvS.ev (Y9 qS (EvB.sh (Ev.toB (EvS.ev (ZZ (r:=rMx) qa))))))) (Z1 (K:=K) 1 rfl qM))))))))⟩
noncomputable def CD:=Ia.1
noncomputable abbrev Oe (P:Program)(w:World)(K:PySem.W.Frag)(mg:Str->Option Value)(base:Heap):Prop:=Fn P w K mg base 3 "_law_set" ["_law_script","_law_place","_law_drawing","_law_word"] (RI (rL Xe) Xe (rP2 (rV (rV Xe)) (rV (rP2 Xe Xe))) UZ (oF (rP2 (rP2 (rV (rV Xe)) (rV (rP2 Xe Xe))) (rPL rMx))) CD K)
theorem QZ:FnScope ["_law_script","_law_words","_law_some","_law_drawing","_law_ahead","_law_move"] ["_law_script","_law_words"] (Xj BF):=⟨rfl,rfl,rfl,by decide+kernel,rfl,by decide+kernel,by decide+kernel⟩
noncomputable def BB:{m:(List Int)->(List Str)->Rs (((List (List Int))×(List (Int×Int)))×(List Mx)) // ∀{P:Program}{w:World}{K:PySem.W.Frag}{mg:Str->Option Value}{base:Heap} (D:Def K mg "_law_both" BF ["_law_script","_law_words"]) (g_row:IH P w K mg base) (g_begun:Ex P w K mg base) (g_set:Oe P w K mg base) (g_do:PV P w K mg base) (Z:Blt mg),Fn P w K mg base 4 "_law_both" ["_law_script","_law_words"] (R0 (rL Xe) (rV UZ) (oF (rP2 (rP2 (rV (rV Xe)) (rV (rP2 Xe Xe))) (rPL rMx))) m K)}:=⟨_, @λP w K mg base D g_row g_begun g_set g_do Z=>by
 refine US D QZ (λvs H Q E h=>?_) (λf cdv A outer s H vs Q E hr h=>?_)
 ·obtain⟨v_0,v_1,a_0,a_1,b,rfl,_⟩:=h;rfl
 obtain⟨v_0,v_1,a_0,a_1,b,rfl,Cf,hw,h_0,h_1,hm,q⟩:=h
 have hu:=hu8 hr
 have hu1:=Uu hr
 refine⟨_,(Xb (Xo (i:=2) QZ.nd rfl (Or.inl rfl) (XA g_row hr (by decide) (Xa (pv 0) (Xa Xc (Xa (XF (Xa Xc (Xa Xc (Xa Xc Xd)))) Xd XX)))))
  (Xb (Xo (i:=3) QZ.nd rfl (Or.inl rfl) (XA g_begun hr (by decide) (Xa (pv 0) (Xa Xc Xd))))
  (Xb (XM (Xq Ya (Xh (Xi K rfl) (pv 2) Xc (λ_ _=>rfl)) Xc (Xs _))
   (Xb (Xo (i:=4) QZ.nd rfl (Or.inl rfl) (Xh (Xi K rfl) (XF (Xa XJ (Xa XJ (Xa XJ (Xa XJ Xd))))) (Xn Yb (Xh (Xi K rfl) (pv 2) Xc (λ_ _=>rfl)) Xc) (λ_ _=>rfl)))
   (Xb (Y4 (XA g_set hr (by decide) (Xa (pv 0) (Xa Xc (Xa (pv 3) (Xa (pv 4) Xd))))) (Ve rfl (Yf (Xw (i:=3) QZ.nd rfl (Or.inl rfl)) (Yf (Xw (i:=5) QZ.nd rfl (Or.inl rfl)) Qu))))
   (Xb (Xo (i:=3) QZ.nd rfl (Or.inl rfl) (XA g_do hr (by decide) (Xa (pv 3) (Xa (pv 5) Xd))))
   Xf)))
   Xf)
  (Xb (Xr (XA g_set hr (by decide) (Xa (pv 0) (Xa Xc (Xa (pv 3) (Xa (Xh (Xi K rfl) (pv 1) (Xn Yb (Xh (Xi K rfl) (pv 2) Xc (λ_ _=>rfl)) (Xm (Xl K rfl) rfl Z.b_len PySem.boot_len (Xa (pv 1) Xd))) (λ_ _=>rfl)) Xd))))))
  Xf)))),?_⟩
 refine LI (S:=(SC.add (SC.add SC.nil K (rL Xe) v_0 a_0) K (rV UZ) v_1 a_1)) (σ:=[some v_0,some v_1,none,none,none,none]) 0 ?_ hw (SC.i (SC.i SC.t h_0) h_1) hm q rfl
 exact(Yi K qS λa1 v2=>(Yi K qS λa14 v15=>(ZR (λO (x24:Option V×V×Option V)=>[Cf]) (λs x24=>[some v_0,some v_1,some v2,some x24.2.1,x24.1,x24.2.2]) (λS (g25:((List (List Int))×(List (Int×Int)))) x24=>(SC.add S K (rP2 (rV (rV Xe)) (rV (rP2 Xe Xe))) x24.2.1 g25)) (YG (qt K) (Yi K qS λa26 v27=>(DH (K:=K) 3 5 (Ev.sh (GR qS qS qS qS)) λa48 v49 v50=>(Yi K qS λa51 v52=>(YC ((some v27),v52,(some v50)) (a51) rfl rfl)))) (YC ((none),v15,(none)) (a14) rfl rfl)) λg57 x56=>(Z1 (K:=K) 0 rfl (GR qS qS qS qS)))))⟩
noncomputable def EC:=BB.1
noncomputable abbrev Lx (P:Program)(w:World)(K:PySem.W.Frag)(mg:Str->Option Value)(base:Heap):Prop:=Fn P w K mg base 4 "_law_both" ["_law_script","_law_words"] (R0 (rL Xe) (rV UZ) (oF (rP2 (rP2 (rV (rV Xe)) (rV (rP2 Xe Xe))) (rPL rMx))) EC K)
theorem MT:FnScope ["_law_drawing"] ["_law_drawing"] (Xj DE):=⟨rfl,rfl,rfl,by decide+kernel,rfl,by decide+kernel,by decide+kernel⟩
noncomputable def HE:{m:((List (List Int))×(List (Int×Int)))->Rs ((List (List Int))×(List (Int×Int))) // ∀{P:Program}{w:World}{K:PySem.W.Frag}{mg:Str->Option Value}{base:Heap} (D:Def K mg "_law_copy" DE ["_law_drawing"]) (Z:Blt mg),Fn P w K mg base 1 "_law_copy" ["_law_drawing"] (sp1 (rP2 (rV (rV Xe)) (rV (rP2 Xe Xe))) (oT2 (oL (oL (oF Xe))) (oL (oF (rP2 Xe Xe)))) m K)}:=⟨_, @λP w K mg base D Z=>go1 D MT 0 0 rfl rfl λhr hu hu1=>⟨_,(Xb (Xr (XR (Xa (Zn (sc:=(Xj DE)) (N0:=["_law_drawing"]) (tns:=["_law_walk"]) (caps:=[]) rfl (XD (K:=K) rfl (Xh (Xg K rfl) (pv 0) Xc (λ_ _=>rfl))) (Ys (by decide)) (λcl C s H ex E=>⟨Xw (i:=0) (show List.Nodup (["_law_walk"]:List Str) by decide+kernel) rfl (Or.inl rfl),YW,(XL (X0 K rfl) rfl Z.b_list PyProof.Rows.boot_list (Xa (pv 0) Xd))⟩)) (Xa (XL (X0 K rfl) rfl Z.b_list PyProof.Rows.boot_list (Xa (Xh (Xg K rfl) (pv 0) Xc (λ_ _=>rfl)) Xd)) Xd))))
  Xf),λv_0 a_0=>(Xt (Za (YT (λ_=>tg1 0) qw (λC2 a3 v4=>qN)) λ_=>qN))⟩⟩
noncomputable def Eb:=HE.1
noncomputable abbrev Lz (P:Program)(w:World)(K:PySem.W.Frag)(mg:Str->Option Value)(base:Heap):Prop:=Fn P w K mg base 1 "_law_copy" ["_law_drawing"] (sp1 (rP2 (rV (rV Xe)) (rV (rP2 Xe Xe))) (oT2 (oL (oL (oF Xe))) (oL (oF (rP2 Xe Xe)))) Eb K)
theorem FG:FnScope ["_law_one"] ["_law_one"] (Xj JN):=⟨rfl,rfl,rfl,by decide+kernel,rfl,by decide+kernel,by decide+kernel⟩
noncomputable def J5:{m:Int->Rs Bool // ∀{P:Program}{w:World}{K:PySem.W.Frag}{mg:Str->Option Value}{base:Heap} (D:Def K mg "_law_is_whole" JN ["_law_one"]) (Z:Blt mg),Fn P w K mg base 1 "_law_is_whole" ["_law_one"] (sp1 Xe (oF Xy) m K)}:=⟨_, @λP w K mg base D Z=>go1 D FG 0 0 rfl rfl λhr hu hu1=>⟨_,(Xb (Xr (Z6 (Xm YD rfl Z.b_isinstance PyProof.Rows.boot_isinstance (Xa (pv 0) (Xa (Q2 (v:=V.ty "int") rfl Z.b_int PyProof.Rows.boot_int rfl) Xd))) (Qn (Pk (Xm YD rfl Z.b_isinstance PyProof.Rows.boot_isinstance (Xa (pv 0) (Xa (Q2 (v:=V.ty "bool") rfl Z.b_bool PyProof.Rows.boot_bool rfl) Xd)))))))
  Xf),λv_0 a_0=>(Xt (EvS.ev (EvB.sh (YZ (YS "int" true (QJ K "int") qB) (Dy (YS "bool" false (GE K) qB))))))⟩⟩
noncomputable def Ke:=J5.1
noncomputable abbrev Ks (P:Program)(w:World)(K:PySem.W.Frag)(mg:Str->Option Value)(base:Heap):Prop:=Fn P w K mg base 1 "_law_is_whole" ["_law_one"] (sp1 Xe (oF Xy) Ke K)
theorem Zb:FnScope ["_law_found","_law_walk","_law_one","_law_entry"] ["_law_found"] (Xj Qc):=⟨rfl,rfl,rfl,by decide+kernel,rfl,by decide+kernel,by decide+kernel⟩
noncomputable def Qs:{m:((List (List Int))×(List (Int×Int)))->Rs Bool // ∀{P:Program}{w:World}{K:PySem.W.Frag}{mg:Str->Option Value}{base:Heap} (D:Def K mg "_law_is_drawing" Qc ["_law_found"]) (g_is_whole:Ks P w K mg base) (Z:Blt mg),Fn P w K mg base 2 "_law_is_drawing" ["_law_found"] (sp1 (rP2 (rV (rV Xe)) (rV (rP2 Xe Xe))) (oF Xy) m K)}:=⟨_, @λP w K mg base D g_is_whole Z=>go1 D Zb 3 0 rfl rfl λhr hu hu1=>⟨_,(Xb (XM (PW.pt (Qa (YQ (Yv (Xm YD rfl Z.b_isinstance PyProof.Rows.boot_isinstance (Xa (pv 0) (Xa (Q2 (v:=V.ty "tuple") rfl Z.b_tuple PyProof.Rows.boot_tuple rfl) Xd))))) (Zp (Xq Ba (Xm (Xl K rfl) rfl Z.b_len PySem.boot_len (Xa (pv 0) Xd)) Xc (Xs _)))))
   (Xb (Xr Zf)
   Xf)
   Xf)
  (Xb (XM (PW.pt (Qa (YQ (Yv (Xm YD rfl Z.b_isinstance PyProof.Rows.boot_isinstance (Xa (Xh (Xg K rfl) (pv 0) Xc (λ_ _=>rfl)) (Xa (Q2 (v:=V.ty "list") rfl Z.b_list PyProof.Rows.boot_list rfl) Xd))))) (Zp (YQ (Yv (Xm YD rfl Z.b_isinstance PyProof.Rows.boot_isinstance (Xa (Xh (Xg K rfl) (pv 0) Xc (λ_ _=>rfl)) (Xa (Q2 (v:=V.ty "list") rfl Z.b_list PyProof.Rows.boot_list rfl) Xd))))))))
   (Xb (Xr Zf)
   Xf)
   Xf)
  (Xb (Yw PassesOwn.never rfl (XD (K:=K) rfl (Xh (Xg K rfl) (pv 0) Xc (λ_ _=>rfl))) (Xw (i:=1) Zb.nd rfl (Or.inl rfl))
   (Xb (XM (YQ (Yv (Xm YD rfl Z.b_isinstance PyProof.Rows.boot_isinstance (Xa (pv 1) (Xa (Q2 (v:=V.ty "list") rfl Z.b_list PyProof.Rows.boot_list rfl) Xd)))))
    (Xb (Xr Zf)
    Xf)
    Xf)
   (Xb (Yw PassesOwn.never rfl (XD (K:=K) rfl (pv 1)) (Xw (i:=2) Zb.nd rfl (Or.inl rfl))
    (Xb (XM (YQ (Yv (XA g_is_whole hr (by decide) (Xa (pv 2) Xd))))
     (Xb (Xr Zf)
     Xf)
     Xf)
    Xf))
   Xf)))
  (Xb (Yw PassesOwn.never rfl (XD (K:=K) rfl (Xh (Xg K rfl) (pv 0) Xc (λ_ _=>rfl))) (Xw (i:=3) Zb.nd rfl (Or.inl rfl))
   (Xb (XM (PW.pt (Qa (YQ (Yv (Xm YD rfl Z.b_isinstance PyProof.Rows.boot_isinstance (Xa (pv 3) (Xa (Q2 (v:=V.ty "tuple") rfl Z.b_tuple PyProof.Rows.boot_tuple rfl) Xd))))) (Zp (Xq Ba (Xm (Xl K rfl) rfl Z.b_len PySem.boot_len (Xa (pv 3) Xd)) Xc (Xs _)))))
    (Xb (Xr Zf)
    Xf)
    Xf)
   (Xb (XM (PW.pt (Qa (YQ (Yv (XA g_is_whole hr (by decide) (Xa (Xh (Xg K rfl) (pv 3) Xc (λ_ _=>rfl)) Xd)))) (Zp (YQ (Yv (XA g_is_whole hr (by decide) (Xa (Xh (Xg K rfl) (pv 3) Xc (λ_ _=>rfl)) Xd)))))))
    (Xb (Xr Zf)
    Xf)
    Xf)
   Xf)))
  (Xb (Xr Zf)
  Xf))))),λv_0 a_0=>(Ye (Zl (QS (GI (K:=K) (YS "tuple" true (QJ K "tuple") qB))) (XN (K:=K) (GW (BR qB) qB))) (Xt qM) (Ye (Zl (QS (GI (K:=K) (YS "list" true (QJ K "list") qB))) (QS (GI (K:=K) (YS "list" true (QJ K "list") qB)))) (Xt qM) (NB K (λO (x15:Option V×Option V)=>[]) (λs x15=>[some v_0,x15.1,x15.2,none]) (λS (g16:Unit) x15=>S) (λ_=>tg1 1) ((none),(none)) () qw rfl rfl (λ_ s=>s) (λg17 x18 a19 v20=>(VV (QS (GI (K:=K) (YS "list" true (QJ K "list") qB))) (Xt qM) (O2 K (λO (x24:Option V)=>[]) (λs x24=>[some v_0,some v20,x24,none]) (λS (g25:Unit) x24=>S) (λ_=>tg1 2) ((x18.2)) () qw rfl rfl (λ_ s=>s) (λg26 x27 a28 v29=>(VV (qt K) (Xt qM) (Dp (YC ((some v29)) () rfl rfl)))) λg36 x37=>(Dp (YC ((some v20),(x37)) () rfl rfl))))) λg41 x42=>(NB K (λO (x44:Option V)=>[]) (λs x44=>[some v_0,x42.1,x42.2,x44]) (λS (g45:Unit) x44=>S) (λ_=>tg1 3) ((none)) () qw rfl rfl (λ_ s=>s) (λg46 x47 a48 v49=>(VV (Zl (QS (GI (K:=K) (YS "tuple" true (QJ K "tuple") qB))) (qt K)) (Xt qM) (VV (qt K) (Xt qM) (Dp (YC ((some v49)) () rfl rfl))))) λg69 x70=>(Xt qM)))))⟩⟩
noncomputable def QD:=Qs.1
noncomputable abbrev J8 (P:Program)(w:World)(K:PySem.W.Frag)(mg:Str->Option Value)(base:Heap):Prop:=Fn P w K mg base 2 "_law_is_drawing" ["_law_found"] (sp1 (rP2 (rV (rV Xe)) (rV (rP2 Xe Xe))) (oF Xy) QD K)
theorem ZV:FnScope ["_law_drawing","_law_move","_law_due","_law_handed","_law_found","_law_walk","_law_longer","_law_again"] ["_law_drawing","_law_move"] (Xj Ga):=⟨rfl,rfl,rfl,by decide+kernel,rfl,by decide+kernel,by decide+kernel⟩
noncomputable def Fm:{m:((List (List Int))×(List (Int×Int)))->(List Mx)->Rs Bool // ∀{P:Program}{w:World}{K:PySem.W.Frag}{mg:Str->Option Value}{base:Heap} (D:Def K mg "_law_right" Ga ["_law_drawing","_law_move"]) (g_do:PV P w K mg base) (g_copy:Lz P w K mg base) (g_done:LH P w K mg base) (g_is_drawing:J8 P w K mg base) (Z:Blt mg),Fn P w K mg base 7 "_law_right" ["_law_drawing","_law_move"] (sp2 (rP2 (rV (rV Xe)) (rV (rP2 Xe Xe))) (rPL rMx) (oF Xy) m K)}:=⟨_, @λP w K mg base D g_do g_copy g_done g_is_drawing Z=>go2 D ZV 6 7 rfl rfl λhr hu hu1=>⟨_,(Xb (Xo (i:=2) ZV.nd rfl (Or.inl rfl) (XA g_do hr (by decide) (Xa (pv 0) (Xa (pv 1) Xd))))
  (Xb (Xo (i:=3) ZV.nd rfl (Or.inl rfl) (XA g_copy hr (by decide) (Xa (pv 0) Xd)))
  (Xb (Xo (i:=4) ZV.nd rfl (Or.inl rfl) (XA g_done hr (by decide) (Xa (pv 3) (Xa (pv 1) Xd))))
  (Xb (XM (PW.pt (Qa (YQ (Yv (XA g_is_drawing hr (by decide) (Xa (pv 4) Xd)))) (Qa (Xq (QQ K rfl (KN (GF (GF eq_int)) (GF (KN eq_int eq_int))) (Vs (by decide) hu)) (pv 4) (pv 2) (Xs _)) (Zp (Xq (QQ K rfl (KN (GF (GF eq_int)) (GF (KN eq_int eq_int))) (Vs (by decide) hu)) (pv 3) (pv 0) (Xs _))))))
   (Xb (Xr Zf)
   Xf)
   Xf)
  (Xb (Yw PassesOwn.never rfl (XD (K:=K) rfl (Xh (Xg K rfl) (pv 4) Xc (λ_ _=>rfl))) (Xw (i:=5) ZV.nd rfl (Or.inl rfl))
   (Xb (XV (QB PySem.F.plainAttrs_list PySem.F.slot_list_append PySem.F.type_list_append X8 (pv 5) (Xa Xc Xd)))
   Xf))
  (Xb (XV (QB PySem.F.plainAttrs_list PySem.F.slot_list_append PySem.F.type_list_append X8 (Xh (Xg K rfl) (pv 4) Xc (λ_ _=>rfl)) (Xa (XR (Xa Xc (Xa Xc Xd))) Xd)))
  (Xb (ZO 6 (Xj Ga) ["_law_drawing","_law_move","_law_due","_law_handed","_law_found","_law_walk","_law_longer","_law_again"] ["_law_walk"] [] rfl ZV.nd rfl rfl (XD (K:=K) rfl (Xh (Xg K rfl) (pv 2) Xc (λ_ _=>rfl))) (Ys (by decide)) (λcl C s H ex E=>⟨Xw (i:=0) (show List.Nodup (["_law_walk"]:List Str) by decide+kernel) rfl (Or.inl rfl),YW,(Xn Zr (pv 0) (XF (Xa Xc Xd)))⟩))
  (Xb (XM (PW.pt (Qa (Xq (QQ K rfl (KN (GF (GF eq_int)) (GF (KN eq_int eq_int))) (Vs (by decide) hu)) (pv 3) (pv 0) (Xs _)) (Zp (Xq (QQ K rfl (GF (GF eq_int)) (Vs (by decide) hu)) (Xh (Xg K rfl) (pv 4) Xc (λ_ _=>rfl)) (pv 6) (Xs _)))))
   (Xb (Xr Zf)
   Xf)
   Xf)
  (Xb (XV (QB PySem.F.plainAttrs_list PySem.F.slot_list_append PySem.F.type_list_append X8 (Xh (Xg K rfl) (pv 3) Xc (λ_ _=>rfl)) (Xa (XF Xd) Xd XX)))
  (Xb (Xo (i:=7) ZV.nd rfl (Or.inl rfl) (XA g_done hr (by decide) (Xa (XA g_copy hr (by decide) (Xa (pv 0) Xd)) (Xa (pv 1) Xd))))
  (Xb (Xr (Z6 (XA g_is_drawing hr (by decide) (Xa (pv 7) Xd)) (Qn (X1 (Na K rfl (KN (GF (GF eq_int)) (GF (KN eq_int eq_int))) (Vs (by decide) hu)) (pv 7) (pv 2) (Xs _)))))
  Xf))))))))))),λv_0 v_1 a_0 a_1=>(Yi K qS λa1 v2=>(Y6 K 1 qN λa6 v7 C8=>(Y6 K 0 qN λa11 v12 C13=>(Ye (qt K) (Xt qM) (Cq (K:=K) (o1:=(oL (oL (oF Xe)))) (o2:=(oL (oF (rP2 Xe Xe)))) 0 3 4 rfl (Nat.le_of_ble_eq_true rfl) (Nat.le_of_ble_eq_true rfl) (λ_ s=>s.r) λv26 v27 C28 C29=>(MU K 5 3 7 (EO 4 rfl (λ_ s=>s.l.l.l.r)) (Nat.le_of_ble_eq_true rfl) rfl (λ_ s=>s.l.r) λa32 C30 w31=>(O7 K 4 (OZ 4 rfl (λ_ s=>s.l.l.l.r)) rfl rfl (λ_ s=>s.l.r) qM λa37 C36=>(Yi K (r:=(rV (rV Xe))) (Ev.sh (YT (λ_=>tg1 0) qw (λC41 a42 v43=>qN))) λa38 v39=>(Ye (Zl (qt K) (XN (K:=K) (VY (MB (o:=(oL (oL (oF Xe)))) 3 (EO 4 rfl (λ_ s=>s.l.l.l.l.l.l.r)) rfl (λ_ s=>s.l.l.r)) qB))) (Xt qM) (Cq (K:=K) (o1:=(oL (oL (oF Xe)))) (o2:=(oL (oF (rP2 Xe Xe)))) 1 5 6 rfl (Nat.le_of_ble_eq_true rfl) (Nat.le_of_ble_eq_true rfl) (λ_ s=>s.l.l.l.l.l.l.l.l.r) λv56 v57 C58 C59=>(O7 K 5 (EO 3 rfl (λ_ s=>s.l.l.l.r)) rfl rfl (λ_ s=>s.l.r) (UV (o:=(oF Xe))) λa62 C61=>(Yi K qS λa63 v64=>(Xt qM)))))))))))))⟩⟩
noncomputable def Gi:=Fm.1
noncomputable abbrev Eo (P:Program)(w:World)(K:PySem.W.Frag)(mg:Str->Option Value)(base:Heap):Prop:=Fn P w K mg base 7 "_law_right" ["_law_drawing","_law_move"] (sp2 (rP2 (rV (rV Xe)) (rV (rP2 Xe Xe))) (rPL rMx) (oF Xy) Gi K)
theorem Hq:FnScope ["_law_script","_law_drawing","_law_move"] ["_law_script"] (Xj KS):=⟨rfl,rfl,rfl,by decide+kernel,rfl,by decide+kernel,by decide+kernel⟩
noncomputable def MD:{m:(List Int)->Rs Bool // ∀{P:Program}{w:World}{K:PySem.W.Frag}{mg:Str->Option Value}{base:Heap}{f:Addr}{fd:FuncData} (D:Fun K "law" "law" KS f fd) (g_both:Lx P w K mg base) (g_right:Eo P w K mg base) (Z:Blt mg),FnOk P w K mg base CX0 8 f fd ["_law_script"] (sp1 (rL Xe) (oF Xy) m K)}:=⟨_, @λP w K mg base f fd D g_both g_right Z=>goL D Hq 2 0 rfl rfl λhr hu hu1=>⟨_,(Xb (Y4 (XA g_both hr (by decide) (Xa (pv 0) (Xa (XF (Xa XJ (Xa XJ (Xa XJ Xd)))) Xd XX))) (Ve rfl (Yf (Xw (i:=1) Hq.nd rfl (Or.inl rfl)) (Yf (Xw (i:=2) Hq.nd rfl (Or.inl rfl)) Qu))))
  (Xb (Xr (XA g_right hr (by decide) (Xa (pv 1) (Xa (pv 2) Xd))))
  Xf)),λv_0 a_0=>(DH (K:=K) 1 2 (Ev.sh (BI qS qS)) λa11 v12 v13=>(Xt qN))⟩⟩
noncomputable def Ep:=MD.1
end My
namespace L2
open PySem
section
variable {α β γ ρ:Type}
theorem Rs.okb (a:α)(f:α->Rs β):(Rs.ok a).bind f=f a:=(Eq.refl (f a)).symm.symm
theorem Eg {f:α->Rs β}{h:α->β}:∀{as:List α},(∀a∈as,f a= .ok (h a))->Bq as f= .ok (as.map h)
 | [],_=>rfl
 |a::as,hf=>by
  show(f a).bind _=_
  rw[hf a (by simp),Rs.ok_bind,Eg λb hb=>hf b (by simp[hb])];rfl
theorem Qh {f:α->Rs β}{h:α->β}{as:List α}(hl:as.length<=sizeLine)(hf:∀a∈as,f a= .ok (h a)):P8 as f= .ok (as.map h):=by
 unfold P8;rw[Xp hl];exact Eg hf
theorem Hn {c:α->Rs Bool}{f:α->Rs β}{p:α->Bool}{h:α->β}:∀{as:List α},(∀a∈as,c a= .ok (p a))->(∀a∈as,p a=true->f a= .ok (h a))->DM as c f= .ok ((as.filter p).map h)
 | [],_,_=>rfl
 |a::as,hc,hf=>by
  show(c a).bind _=_
  rw[hc a (by simp),Rs.ok_bind]
  have ih:=Hn (as:=as) (λb hb=>hc b (by simp[hb])) λb hb=>hf b (by simp[hb])
  cases hp:p a with
  |false=>rw[if_neg (by simp),ih,List.filter_cons,hp];rfl
  |true=>rw[if_pos rfl,hf a (by simp) hp,Rs.ok_bind,ih,List.filter_cons,hp];rfl
theorem FE {c:α->Rs Bool}{f:α->Rs β}{p:α->Bool}{h:α->β}{as:List α}(hl:as.length<=sizeLine)(hc:∀a∈as,c a= .ok (p a))(hf:∀a∈as,p a=true->f a= .ok (h a)):P9 as c f= .ok ((as.filter p).map h):=by
 unfold P9;rw[Xp hl];exact Hn hc hf
theorem GG {f:γ->α->Rs γ}(P:Nat->γ->Prop):∀(as:List α) (k:Nat) (g:γ),P k g->(∀i a g,as[i]?=some a->P (k+i) g->∃g',f g a= .ok g'/\P (k+i+1) g')->∃g',forN as g f= .ok g'/\P (k+as.length) g'
 | [],k,g,h0,_=>⟨g,rfl,h0⟩
 |a::as,k,g,h0,hs=>by
  obtain⟨g1,e1,p1⟩:=hs 0 a g rfl h0
  obtain⟨g2,e2,p2⟩:=GG P as (k+1) g1 p1 λi b g hb hp=>by
   obtain⟨g',e',p'⟩:=hs (i+1) b g (by simpa using hb) (by rw[show k+(i+1)=k+1+i by omega];exact hp)
   exact⟨g',e',by rw[show k+1+i+1=k+(i+1)+1 by omega];exact p'⟩
  refine⟨g2,?_,by rw[List.length_cons,show k+(as.length+1)=k+1+as.length by omega];exact p2⟩
  show(f g a).bind _=_
  rw[e1,Rs.ok_bind];exact e2
theorem DK {f:γ->α->Rs γ}(P:Nat->γ->Prop){as:List α}{g:γ}(h0:P 0 g)(hs:∀i a g,as[i]?=some a->P i g->∃g',f g a= .ok g'/\P (i+1) g'):∃g',forN as g f= .ok g'/\P as.length g':=by
 have:=GG P as 0 g h0 (by simpa using hs)
 simpa using this
theorem VH {f:γ->α->Rs (Ctl ρ γ)}:∀{as:List α}{g:γ},(∀a∈as,f g a= .ok (.nx g))->forC as g f= .ok (.nx g)
 | [],_,_=>rfl
 |a::as,g,hf=>by
  show(f g a).bind _=_
  rw[hf a (by simp),Rs.ok_bind]
  exact VH λb hb=>hf b (by simp[hb])
theorem Ff {f:γ->α->Rs (Ctl ρ γ)}(P:Nat->γ->Prop):∀(as:List α) (k:Nat) (g:γ),P k g->(∀i a g,as[i]?=some a->P (k+i) g->∃g',f g a= .ok (.nx g')/\P (k+i+1) g')->∃g',forC as g f= .ok (.nx g')/\P (k+as.length) g'
 | [],k,g,h0,_=>⟨g,rfl,h0⟩
 |a::as,k,g,h0,hs=>by
  obtain⟨g1,e1,p1⟩:=hs 0 a g rfl h0
  obtain⟨g2,e2,p2⟩:=Ff P as (k+1) g1 p1 λi b g hb hp=>by
   obtain⟨g',e',p'⟩:=hs (i+1) b g (by simpa using hb) (by rw[show k+(i+1)=k+1+i by omega];exact hp)
   exact⟨g',e',by rw[show k+1+i+1=k+(i+1)+1 by omega];exact p'⟩
  refine⟨g2,?_,by rw[List.length_cons,show k+(as.length+1)=k+1+as.length by omega];exact p2⟩
  show(f g a).bind _=_
  rw[e1,Rs.ok_bind];exact e2
theorem HZ {f:γ->α->Rs (Ctl ρ γ)}(P:Nat->γ->Prop){as:List α}{g:γ}(h0:P 0 g)(hs:∀i a g,as[i]?=some a->P i g->∃g',f g a= .ok (.nx g')/\P (i+1) g'):∃g',forC as g f= .ok (.nx g')/\P as.length g':=by
 have:=Ff P as 0 g h0 (by simpa using hs)
 simpa using this
theorem Yc {a b:Int}(h:0<b):OM a b= .ok (a % b):=Xp h
theorem YR {a b:Int}(h1: -(2^64)<a)(h2:a<2^64):NG a b= .ok (a*b):=Xp (.inl ⟨h1,h2⟩)
theorem Qw {a b:Int}(h1: -(2^64)<b)(h2:b<2^64):NG a b= .ok (a*b):=Xp (.inr ⟨h1,h2⟩)
theorem BC {a b:Int}(h:0<b)(h2:b<2^250):RM a b= .ok (a/b):=Xp ⟨h,by
 have h3:b.natAbs<2^250:=by omega
 rcases Nat.eq_zero_or_pos b.natAbs with h0 |h0
 ·omega
 ·have:=(Nat.log2_lt (by omega)).mpr h3
  omega⟩
theorem Vi {a b:Int}(h0:0<=b)(h1:b<=1000000)(h2: -(2^64)<a)(h3:a<2^64):Rf a b= .ok (a^b.toNat):=Xp ⟨h0,h1,by omega⟩
theorem Zh {as:List α}{i:Nat}{a:α}(h:as[i]?=some a):atR as (i:Int)= .ok a:=by
 have hlt:=(List.getElem?_eq_some_iff.mp h).1
 unfold atR atI ixN
 rw[if_pos (by omega),if_pos (by omega)]
 simp[h]
theorem Qv {as:List α}{i:Int}{a:α}(h0:0<=i)(h:as[i.toNat]?=some a):atR as i= .ok a:=by
 have:i=(i.toNat:Int):=by omega
 rw[this];exact Zh h
theorem Qz {n:Nat}(h:n<2^62):Mu 0 (n:Int)= .ok ((List.range n).map λ(i:Nat)=>(i:Int)):=by
 unfold Mu
 rw[Xp (by omega)]
 unfold Jo
 congr 1
 rw[Int.sub_zero,Int.toNat_natCast]
 exact List.map_congr_left λi _=>by omega
theorem YH {n i:Nat}{a:Int}(h:((List.range n).map λ(i:Nat)=>(i:Int))[i]?=some a):a=(i:Int)/\i<n:=by
 have hlt:=(List.getElem?_eq_some_iff.mp h).1
 simp only[List.length_map,List.length_range] at hlt
 rw[List.getElem?_map,List.getElem?_range hlt] at h
 exact⟨(Option.some.inj h).symm,hlt⟩
theorem HD {n:Nat}{a:Int}(h:a∈(List.range n).map λ(i:Nat)=>(i:Int)):∃i:Nat,i<n/\a=(i:Int):=by
 obtain⟨i,hi,rfl⟩:=List.mem_map.mp h
 exact⟨i,List.mem_range.mp hi,rfl⟩
theorem Y3 {n:Nat}:((List.range n).map λ(i:Nat)=>(i:Int)).length=n:=by simp
theorem LQ {a:Bool}{b:Rs Bool}{c:Bool}(h:a=true->b= .ok c):Ms (.ok a) b= .ok (a&&c):=by
 cases a with
 |false=>rfl
 |true=>
  show(if true=true then b else Rs.ok false)=_
  rw[if_pos rfl,h rfl];rfl
theorem sz {n:Nat}(h:n<=100000):n<=sizeLine:=Nat.le_trans h (by decide)
theorem Fi {n:Nat}(h:n<=100000):n<sizeLine:=Nat.lt_of_le_of_lt h (by decide)
noncomputable def Ok (m:Rs β)(R:β->Prop):Prop:=∃ r,m= .ok r/\R r
theorem Ok.pure {R:β->Prop}{a:β}(h:R a):Ok (.ok a) R:=⟨a,rfl,h⟩
theorem Ok.bind {m:Rs α}{f:α->Rs β}{R:α->Prop}{T:β->Prop}(h:Ok m R)(hf:∀a,R a->Ok (f a) T):Ok (m.bind f) T:=by
 obtain⟨a,e,ha⟩:=h
 rw[e];exact hf a ha
theorem Ok.imp {m:Rs α}{R T:α->Prop}(h:Ok m R)(hf:∀a,R a->T a):Ok m T:=by
 obtain⟨a,e,ha⟩:=h
 exact⟨a,e,hf a ha⟩
theorem Ok.noE {m:Rs α}{R:α->Prop}(h:Ok m R):Ok (noE m) R:=by
 obtain⟨a,e,ha⟩:=h
 rw[e];exact⟨a,rfl,ha⟩
theorem Ok.chk {c:Prop}[Decidable c]{m:Rs α}{R:α->Prop}(hc:c)(h:Ok m R):Ok (chk c m) R:=by rw[Xp hc];exact h
theorem Ok.ite {b:Bool}{m n:Rs α}{R:α->Prop}(h1:b=true->Ok m R)(h2:b=false->Ok n R):Ok (if b=true then m else n) R:=by
 cases b with
 |true=>rw[if_pos rfl];exact h1 rfl
 |false=>rw[if_neg Bool.false_ne_true];exact h2 rfl
theorem Ok.forN {f:γ->α->Rs γ}(P:Nat->γ->Prop){as:List α}{g:γ}(h0:P 0 g)(hs:∀i a g,as[i]?=some a->P i g->Ok (f g a) (P (i+1))):Ok (forN as g f) (P as.length):=DK P h0 hs
theorem Ok.forC {f:γ->α->Rs (Ctl ρ γ)}(P:Nat->γ->Prop){as:List α}{g:γ}(h0:P 0 g)(hs:∀i a g,as[i]?=some a->P i g->∃g',f g a= .ok (.nx g')/\P (i+1) g'):Ok (forC as g f) (λc=>∃ g',c= .nx g'/\P as.length g'):=by
 obtain⟨g',e,h⟩:=HZ P h0 hs
 exact⟨_,e,g',rfl,h⟩
theorem JB {f:γ->Rs ρ}(g:γ):UY f (.nx g)=f g:=(Eq.refl (f g)).symm.symm
theorem B5 {f:γ->Rs ρ}(r:ρ):UY f (.ret r)= .ok r:=(Eq.refl (Rs.ok r)).symm.symm
theorem Xz (a:α):noE (Rs.ok a)= .ok a:=(Eq.refl (Rs.ok a)).symm.symm
theorem Ok.of {m:Rs α}{a:α}(h:m= .ok a):Ok m (λb=>b=a):=⟨a,h,rfl⟩
theorem Ok.eq {m:Rs α}{a:α}(h:Ok m (λb=>b=a)):m= .ok a:=by
 obtain⟨b,e,rfl⟩:=h
 exact e
theorem Lf {m:Rs α}{a:α}(h:m= .ok a):noE m= .ok a:=by rw[h];rfl
end
end L2
namespace My
open PySem L2
theorem Hh (ns:List Int){p:Int}(hp:0<=p):∃c,EI ns p= .ok c:=by
 unfold EI BU;dsimp only
 simp only[Rs.okb]
 by_cases h:p<(ns.length:Int)
 ·rw[decide_eq_true h,if_pos rfl]
  have hl:p.toNat<ns.length:=by omega
  exact⟨ns[p.toNat],Qv hp (by simp[hl])⟩
 ·rw[decide_eq_false h,if_neg Bool.false_ne_true]
  obtain⟨g,e,_⟩:=DK (as:=Kb ns none (some 63)) (g:=(5:Int)) (f:=λg15 a17=>(Rs.bind (Rs.bind (Rs.bind (Rs.bind (NG g15 48271) λx25=>(Rs.bind (OM a17 1000003) λx26=>(Rs.ok (x25+x26)))) λx27=>Rs.ok (x27+1)) λx29=>OM x29 2147483647) λa19=>(Rs.ok (a19)))) (λ_ _=>True) True.intro λi a g _ _=>by
   rw[Qw (by decide) (by decide),Rs.ok_bind,Yc (by decide),Rs.ok_bind,Rs.ok_bind,Rs.ok_bind,Yc (by decide),Rs.ok_bind]
   exact⟨_,rfl,True.intro⟩
  rw[e,Rs.ok_bind,YR (by decide) (by decide),Rs.ok_bind,Rs.ok_bind,Yc (by decide)]
  exact⟨_,rfl⟩
theorem Lv (c:Int){k:Int}(h0:0<=k)(h1:k<=100000):∃y,Ni c k= .ok y/\0<=y:=by
 unfold Ni Nd;dsimp only
 simp only[Rs.okb]
 have hm:0<=c % 2147483629/\c % 2147483629<2147483629:=⟨Int.emod_nonneg _ (by decide),Int.emod_lt_of_pos _ (by decide)⟩
 rw[Yc (by decide),Rs.ok_bind,YR (by decide) (by decide),Rs.ok_bind,Rs.ok_bind,Rs.ok_bind,Vi (by decide) (by decide) (by omega) (by omega),Rs.ok_bind,Yc (by decide),Rs.ok_bind]
 rw[Qw (by decide) (by decide),Rs.ok_bind,YR (by decide) (by decide),Rs.ok_bind,Qw (by omega) (by omega),Rs.ok_bind,Rs.ok_bind,Rs.ok_bind,Yc (by decide),Rs.ok_bind,BC (by decide) (by decide)]
 exact⟨_,rfl,Int.ediv_nonneg (Int.emod_nonneg _ (by decide)) (by decide)⟩
theorem Hj (ns:List Int){p:Int}(hp:0<=p)(sizes:List Int)(hl:sizes.length<=100000)(hs:∀x∈sizes,0<x/\x<2^250):
  Ok (IF ns p sizes) λr=>r.length=sizes.length/\∀(i:Nat) x s,r[i]?=some x->sizes[i]?=some s->0<=x/\x<s:=by
 obtain⟨c,ec⟩:=Hh ns hp
 unfold IF Nm;dsimp only
 simp only[Rs.okb]
 rw[ec,show noE (Rs.ok c)= .ok c from rfl,Rs.ok_bind,Qz (by omega),Rs.ok_bind,Vi (by decide) (by decide) (by decide) (by decide)]
 simp only[Rs.okb]
 have key:∀(i:Nat) (a:Int) (g:List Int×Int),((List.range sizes.length).map λ(i:Nat)=>(i:Int))[i]?=some a->(g.1.length=i/\∀(j:Nat) x s,g.1[j]?=some x->sizes[j]?=some s->0<=x/\x<s)->∀y z:Int,∀s,sizes[i]?=some s->0<=y/\y<s->((g.1++[y],z).1.length=i+1/\∀(j:Nat) x s,(g.1++[y],z).1[j]?=some x->sizes[j]?=some s->0<=x/\x<s):=by
  intro i a g ha ⟨hg,hq⟩ y z s hs1 hy
  refine⟨by simp[hg],λj x s' hx hs'=>?_⟩
  have hx:(g.1++[y])[j]?=some x:=hx
  rcases Nat.lt_trichotomy j i with hj |hj |hj
  ·rw[List.getElem?_append_left (by omega)] at hx;exact hq j x s' hx hs'
  ·subst hj
   rw[List.getElem?_append_right (by omega),hg,Nat.sub_self] at hx
   have:y=x:=by simpa using hx
   rw[hs1] at hs'
   cases hs'
   rw[←this];exact hy
  ·rw[List.getElem?_eq_none (by simp;omega)] at hx;cases hx
 refine Ok.bind (Ok.forN (λi (g:List Int×Int)=>g.1.length=i/\∀(j:Nat) x s,g.1[j]?=some x->sizes[j]?=some s->0<=x/\x<s) ⟨rfl,λj x s h _=>by simp at h⟩ λi a g ha hg=>?_) (T:=λ(r:List Int)=>r.length=sizes.length/\∀(i:Nat) x s,r[i]?=some x->sizes[i]?=some s->0<=x/\x<s) λg ⟨hg,hq⟩=>?_
 ·obtain⟨rfl,hi⟩:=YH ha
  have hsz:sizes[i]?=some sizes[i]:=by simp[hi]
  have hsp:=hs _ (List.getElem_mem hi)
  have hgl:g.1.length<sizeLine:=Fi (by have:=hg.1;omega)
  by_cases hc:c<10^(18:Int).toNat
  ·rw[decide_eq_true hc,if_pos rfl]
   obtain⟨y,ey,hy⟩:=Lv c (k:=(i:Int)) (by omega) (by omega)
   rw[ey,show noE (Rs.ok y)= .ok y from rfl,Rs.ok_bind,Zh hsz,Rs.ok_bind,Yc hsp.1,Rs.ok_bind,Xp hgl]
   exact⟨_,rfl,key i _ g ha hg _ _ _ hsz ⟨Int.emod_nonneg _ (by omega),Int.emod_lt_of_pos _ hsp.1⟩⟩
  ·rw[decide_eq_false hc,if_neg Bool.false_ne_true]
   by_cases hq:0<g.2
   ·rw[decide_eq_true hq,if_pos rfl,Zh hsz,Rs.ok_bind,Yc hsp.1,Rs.ok_bind,Xp hgl]
    simp only[Rs.okb]
    rw[BC hsp.1 hsp.2]
    exact⟨_,rfl,key i _ g ha hg _ _ _ hsz ⟨Int.emod_nonneg _ (by omega),Int.emod_lt_of_pos _ hsp.1⟩⟩
   ·rw[decide_eq_false hq,if_neg Bool.false_ne_true,Yc (by decide),Rs.ok_bind]
    obtain⟨c2,ec2⟩:=Hh ns (p:=(p+1+(i:Int)) % 63) (Int.emod_nonneg _ (by decide))
    obtain⟨y,ey,hy⟩:=Lv c2 (k:=(i:Int)) (by omega) (by omega)
    rw[ec2,show noE (Rs.ok c2)= .ok c2 from rfl,Rs.ok_bind,ey,show noE (Rs.ok y)= .ok y from rfl,Rs.ok_bind,Zh hsz,Rs.ok_bind,Yc hsp.1,Rs.ok_bind,Xp hgl]
    exact⟨_,rfl,key i _ g ha hg _ _ _ hsz ⟨Int.emod_nonneg _ (by omega),Int.emod_lt_of_pos _ hsp.1⟩⟩
 ·rw[Y3] at hg
  exact⟨g.1,rfl,hg,hq⟩
end My
namespace My
structure Col (n:Nat)(f:Nat->Nat->Nat):Prop where
 lt:∀a b,a<n->b<n->f a b<n
 r2:∀x y b,x<n->y<n->b<n->f x b=f y b->x=y
structure GoodF (n:Nat)(f:Nat->Nat->Nat):Prop extends Col n f where
 r1:∀a,a<n->f a a=a
 r3:∀a b c,a<n->b<n->c<n->f (f a b) c=f (f a c) (f b c)
theorem GoodF.congr {n:Nat}{f g:Nat->Nat->Nat}(h:GoodF n f)(e:∀a b,a<n->b<n->g a b=f a b):GoodF n g where
 lt a b ha hb:=by rw[e a b ha hb];exact h.lt a b ha hb
 r2 x y b hx hy hb q:=by rw[e x b hx hb,e y b hy hb] at q;exact h.r2 x y b hx hy hb q
 r1 a ha:=by rw[e a a ha ha];exact h.r1 a ha
 r3 a b c ha hb hc:=by
  rw[e a b ha hb,e a c ha hc,e b c hb hc,e _ c (h.lt a b ha hb) hc,e _ _ (h.lt a c ha hc) (h.lt b c hb hc)]
  exact h.r3 a b c ha hb hc
structure PermN (n:Nat)(p q:Nat->Nat):Prop where
 lt:∀a,a<n->p a<n
 qlt:∀a,a<n->q a<n
 pq:∀a,a<n->p (q a)=a
 qp:∀a,a<n->q (p a)=a
theorem PermN.good {n:Nat}{p q:Nat->Nat}{f:Nat->Nat->Nat}(h:PermN n p q)(g:GoodF n f):GoodF n (λx y=>p (f (q x) (q y))) where
 lt a b ha hb:=h.lt _ (g.lt _ _ (h.qlt a ha) (h.qlt b hb))
 r2 x y b hx hy hb e:=by
  have e1:q (p (f (q x) (q b)))=q (p (f (q y) (q b))):=congrArg q e
  rw[h.qp _ (g.lt _ _ (h.qlt x hx) (h.qlt b hb)),h.qp _ (g.lt _ _ (h.qlt y hy) (h.qlt b hb))] at e1
  have:=g.r2 _ _ _ (h.qlt x hx) (h.qlt y hy) (h.qlt b hb) e1
  rw[←h.pq x hx, ←h.pq y hy,this]
 r1 a ha:=by
  show p (f (q a) (q a))=a
  rw[g.r1 _ (h.qlt a ha),h.pq a ha]
 r3 a b c ha hb hc:=by
  have l1:=g.lt _ _ (h.qlt a ha) (h.qlt b hb)
  have l2:=g.lt _ _ (h.qlt a ha) (h.qlt c hc)
  have l3:=g.lt _ _ (h.qlt b hb) (h.qlt c hc)
  show p (f (q (p (f (q a) (q b)))) (q c))=p (f (q (p (f (q a) (q c)))) (q (p (f (q b) (q c)))))
  rw[h.qp _ l1,h.qp _ l2,h.qp _ l3,g.r3 _ _ _ (h.qlt a ha) (h.qlt b hb) (h.qlt c hc)]
end My
namespace My
open PySem L2
theorem YL {α:Type}{as:List α}{i:Nat}{a:α}(h:i<as.length):Vw as (i:Int) a= .ok (as.set i a):=by
 unfold Vw ixN
 rw[if_pos (by omega),if_pos (by omega)]
 simp
noncomputable def Ly (n:Nat)(sp:List Int)(p q:Nat->Nat):Prop:=PermN n p q/\sp=(List.range n).map λi=>((p i:Nat):Int)
theorem Ly.get {n:Nat}{sp:List Int}{p q:Nat->Nat}(h:Ly n sp p q){i:Nat}(hi:i<n):atR sp (i:Int)= .ok ((p i:Nat):Int):=Zh (by rw[h.2,List.getElem?_map,List.getElem?_range hi];rfl)
theorem OP {as:List Int}{i:Nat}(h:i<as.length)(hl:as.length<=100000):IL as (i:Int)= .ok (as[i],as.eraseIdx i):=by
 unfold IL
 rw[Xp (by omega)]
 have e:seqIndex? (i:Int) as.length=some i:=by
  unfold seqIndex?
  have h0:¬((i:Int)<0):=by omega
  simp[h0,h]
 rw[e]
 simp[h]
theorem Yt {α:Type}{r:List α}{k:Int}{n:Nat}(e:k=(n:Int))(h:n<r.length):atR r k= .ok r[n]:=by
 subst e;exact Zh (by simp[h])
theorem KO {γ:Type}{c:γ->Rs Bool}{f:γ->Rs γ}(P:γ->Prop)(μ:γ->Nat)(hs:∀g,P g->∃b,c g= .ok b/\(b=true->Ok (f g) λg'=>P g'/\μ g'<μ g)):∀(n:Nat) (g:γ),P g->μ g<n->Ok (V9 n g c f) λg'=>P g'/\c g'= .ok false
 |0,_,_,h=>by omega
 |n+1,g,hp,hm=>by
  obtain⟨b,hb,h⟩:=hs g hp
  show Ok ((c g).bind _) _
  rw[hb,Rs.okb]
  cases b with
  |false=>rw[if_neg Bool.false_ne_true];exact⟨g,rfl,hp,hb⟩
  |true=>
   rw[if_pos rfl]
   exact Ok.bind (h rfl) λg' h'=>KO P μ hs n g' h'.1 (by omega)
noncomputable def Sg (l:List (Int×Int)):Prop:=l.Pairwise (λx y=>x.1<y.1)/\∀e∈l,1<=e.1
noncomputable def kys (l:List (Int×Int)):List Int:=l.map (·.1)
theorem Sg.kn {l:List (Int×Int)}(h:Sg l):(kys l).Nodup:=by
 unfold kys
 exact List.Pairwise.map _ (λa b z e=>by omega) h.1
theorem IE {l:List (Int×Int)}(h:(kys l).Nodup):l.Nodup:=List.Pairwise.of_map _ (λa b z e=>z (congrArg _ e)) h
theorem Sg.rise {l:List (Int×Int)}(h:Sg l):l.Pairwise λx y=>ltP x y=true:=
 h.1.imp fun {a b} z=>by unfold ltP;rw[if_neg (by omega)];simpa using z
theorem Sg.sort {l:List (Int×Int)}(h:Sg l):Zk ltP l=l:=(Cl B8 (IE h.kn) (List.Perm.refl _) h.rise).symm
theorem OA {l:List (Int×Int)}(h:(kys l).Nodup)(h1:∀e∈l,1<=e.1):Sg (Zk ltP l):=by
 have hp:=YF ltP l
 have hk:(kys (Zk ltP l)).Nodup:=((List.Perm.map (λe:Int×Int=>e.1) hp).nodup_iff).mpr h
 refine⟨?_,λe he=>h1 e (hp.mem_iff.mp he)⟩
 have r:=JZ B8 (IE h)
 have hk2:(Zk ltP l).Pairwise λx y=>x.1≠y.1:=List.Pairwise.of_map (·.1) (λa b z=>z) hk
 refine(r.and hk2).imp fun {a b} z=>?_
 have z1:=z.1
 unfold ltP at z1
 rw[if_neg z.2] at z1
 simpa using z1
theorem Sg.sub {l m:List (Int×Int)}(h:Sg l)(s:m.Sublist l):Sg m:=⟨h.1.sublist s,λe he=>h.2 e (s.mem he)⟩
theorem Sg.del {l:List (Int×Int)}(h:Sg l)(k:Int):Sg (Gc l k):=h.sub List.filter_sublist
theorem JA {l:List (Int×Int)}{k v:Int}(h:k∉kys l):UW l k v=l++[(k,v)]:=by
 unfold UW
 rw[if_neg λz=>h ?_]
 obtain⟨e,he,z⟩:=List.any_eq_true.mp z
 exact List.mem_map.mpr ⟨e,he,by simpa using z⟩
theorem G4:∀{ps acc:List (Int×Int)},(kys (acc++ps)).Nodup->Bc acc ps=acc++ps
 | [],acc,_=>by simp[Bc]
 |p::ps,acc,h=>by
  have hn:p.1∉kys acc:=λz=>by
   unfold kys at h z
   rw[List.map_append,List.nodup_append] at h
   exact h.2.2 _ z p.1 (by simp) rfl
  have e:acc++p::ps=(acc++[p])++ps:=by simp
  show Bc (UW acc p.1 p.2) ps=_
  rw[JA hn,e]
  exact G4 (by rw[←e];exact h)
theorem Sg.dict {l:List (Int×Int)}(h:Sg l):Bc [] l=l:=G4 (acc:=[]) (by simpa using h.kn)
theorem JE {l:List (Int×Int)}{k:Int}:(QL l k).isSome=true↔k∈kys l:=by
 unfold QL kys
 rw[Option.isSome_map,List.find?_isSome]
 simp only[List.mem_map,decide_eq_true_eq]
theorem Ew {l:List (Int×Int)}{k:Int}(h:(QL l k).isSome=false):k∉kys l:=λz=>by rw[JE.mpr z] at h;cases h
theorem Ek {l:List (Int×Int)}{k v:Int}(h:Sg l)(hk:k∉kys l)(h1:1<=k):(kys (l++[(k,v)])).Nodup/\(∀e∈l++[(k,v)],1<=e.1)/\Sg (Zk ltP (l++[(k,v)])):=by
 have a:(kys (l++[(k,v)])).Nodup:=by
  unfold kys at hk⊢
  rw[List.map_append,List.nodup_append]
  refine⟨h.kn,by simp,λx hx y hy e=>hk ?_⟩
  have z:y=k:=by simpa using hy
  rw[←z, ←e]
  exact hx
 have b:∀e∈l++[(k,v)],1<=e.1:=λe he=>by
  rcases List.mem_append.mp he with he |he
  ·exact h.2 e he
  ·rw[List.mem_singleton.mp he];exact h1
 exact⟨a,b,OA a b⟩
theorem DC {l:List (Int×Int)}:(Zk ltP l).length=l.length:=(YF ltP l).length_eq
theorem DS {l:List (Int×Int)}{k:Int}:k∈kys (Zk ltP l)↔k∈kys l:=((YF ltP l).map (·.1)).mem_iff
theorem Ef {d:List (Int×Int)}{n:Int}:Ok (NZ d n) λk=>n<=k/\k∉kys d:=by
 unfold NZ Nt;dsimp only
 simp only[Rs.okb]
 refine Ok.bind (KO (λg=>n<=g) (λg=>(d.filter λe=>decide (g<=e.1)).length) (λg hg=>⟨_,rfl,λhb=>⟨_,rfl,by omega,?_⟩⟩) (d.length+2) n (Int.le_refl _) ?_) λg hg=>⟨_,rfl,hg.1,?_⟩
 ·obtain⟨e,he,ek⟩:=List.mem_map.mp (JE.mp hb)
  have s:(d.filter λe=>decide (g+1<=e.1)).Sublist ((d.filter λe=>decide (g<=e.1)).filter λe=>decide (g+1<=e.1)):=by
   rw[List.filter_filter]
   have:(λa:Int×Int=>decide (g+1<=a.1)&&decide (g<=a.1))=λe=>decide (g+1<=e.1):=by
    funext a;rw[Bool.eq_iff_iff];simp;omega
   rw[this];exact List.Sublist.refl _
  refine Nat.lt_of_le_of_lt s.length_le ?_
  refine Nat.lt_of_le_of_ne List.filter_sublist.length_le λz=>?_
  have:=List.length_filter_eq_length_iff.mp z e (List.mem_filter.mpr ⟨he,by simp;omega⟩)
  simp at this;omega
 ·exact Nat.lt_of_le_of_lt List.filter_sublist.length_le (by omega)
 ·have:=hg.2
  exact Ew (Rs.ok.inj this)
theorem ar0 {α:Type}{x0:α}{l:List α}:atR (x0::l) 0= .ok x0:=Qv (by decide) rfl
theorem ar1 {α:Type}{x0 x1:α}{l:List α}:atR (x0::x1::l) 1= .ok x1:=Qv (by decide) rfl
theorem ar2 {α:Type}{x0 x1 x2:α}{l:List α}:atR (x0::x1::x2::l) 2= .ok x2:=Qv (by decide) rfl
theorem ar3 {α:Type}{x0 x1 x2 x3:α}{l:List α}:atR (x0::x1::x2::x3::l) 3= .ok x3:=Qv (by decide) rfl
theorem ar4 {α:Type}{x0 x1 x2 x3 x4:α}{l:List α}:atR (x0::x1::x2::x3::x4::l) 4= .ok x4:=Qv (by decide) rfl
theorem ar5 {α:Type}{x0 x1 x2 x3 x4 x5:α}{l:List α}:atR (x0::x1::x2::x3::x4::x5::l) 5= .ok x5:=Qv (by decide) rfl
theorem ar6 {α:Type}{x0 x1 x2 x3 x4 x5 x6:α}{l:List α}:atR (x0::x1::x2::x3::x4::x5::x6::l) 6= .ok x6:=Qv (by decide) rfl
theorem ar7 {α:Type}{x0 x1 x2 x3 x4 x5 x6 x7:α}{l:List α}:atR (x0::x1::x2::x3::x4::x5::x6::x7::l) 7= .ok x7:=Qv (by decide) rfl
theorem ar8 {α:Type}{x0 x1 x2 x3 x4 x5 x6 x7 x8:α}{l:List α}:atR (x0::x1::x2::x3::x4::x5::x6::x7::x8::l) 8= .ok x8:=Qv (by decide) rfl
theorem QU:decide (("turn":Str)= "curl")=false:=rfl
theorem Jt:decide (("turn":Str)= "uncurl")=false:=rfl
theorem Kp:decide (("turn":Str)= "lay")=false:=rfl
theorem Vp:decide (("turn":Str)= "unlay")=false:=rfl
theorem QW:decide (("turn":Str)= "pass")=false:=rfl
theorem EY:decide (("turn":Str)= "turn")=true:=rfl
theorem ZP:decide (("curl":Str)= "turn")=false:=rfl
theorem ZN:decide (("curl":Str)= "uncurl")=false:=rfl
theorem J0:decide (("curl":Str)= "lay")=false:=rfl
theorem Qx:decide (("curl":Str)= "unlay")=false:=rfl
theorem ZK:decide (("curl":Str)= "pass")=false:=rfl
theorem LN:decide (("curl":Str)= "curl")=true:=rfl
theorem ZM:decide (("uncurl":Str)= "turn")=false:=rfl
theorem Jm:decide (("uncurl":Str)= "curl")=false:=rfl
theorem QC:decide (("uncurl":Str)= "lay")=false:=rfl
theorem Zw:decide (("uncurl":Str)= "unlay")=false:=rfl
theorem ZL:decide (("uncurl":Str)= "pass")=false:=rfl
theorem Ce:decide (("uncurl":Str)= "uncurl")=true:=rfl
theorem J3:decide (("lay":Str)= "turn")=false:=rfl
theorem Kt:decide (("lay":Str)= "curl")=false:=rfl
theorem GV:decide (("lay":Str)= "uncurl")=false:=rfl
theorem Fw:decide (("lay":Str)= "unlay")=false:=rfl
theorem Kd:decide (("lay":Str)= "pass")=false:=rfl
theorem Rk:decide (("lay":Str)= "lay")=true:=rfl
theorem QR:decide (("pass":Str)= "turn")=false:=rfl
theorem Uf:decide (("pass":Str)= "curl")=false:=rfl
theorem Jq:decide (("pass":Str)= "uncurl")=false:=rfl
theorem Kc:decide (("pass":Str)= "lay")=false:=rfl
theorem Vk:decide (("pass":Str)= "unlay")=false:=rfl
theorem OC:decide (("pass":Str)= "pass")=true:=rfl
theorem okf {α:Type}{m n:Rs α}:(if false=true then m else n)=n:=if_neg Bool.false_ne_true
theorem okt {α:Type}{m n:Rs α}:(if true=true then m else n)=m:=if_pos rfl
theorem LA {m:Rs Bool}:Ms (.ok false) m= .ok false:=rfl
theorem EB {m:Rs Bool}:Ms (.ok true) m=m:=rfl
theorem orF {m:Rs Bool}:orR (.ok false) m=m:=rfl
theorem orT {m:Rs Bool}:orR (.ok true) m= .ok true:=rfl
noncomputable def ins (w:List Int)(k:Nat)(p:List Int):List Int:=w.take k++p++w.drop k
noncomputable def Sf (w:List Int)(k:Nat):List Int:=w.take k++w.drop (k+2)
noncomputable def gw (ws:List (List Int))(i:Nat):List Int:=ws.getD i []
noncomputable def UU (ws:List (List Int))(i k:Nat)(p:List Int):List (List Int):=ws.set i (ins (gw ws i) k p)
noncomputable def Lw (ws:List (List Int))(i k:Nat):List (List Int):=ws.set i (Sf (gw ws i) k)
theorem Bw {ws:List (List Int)}{i:Nat}(h:i<ws.length):ws[i]?=some (gw ws i):=by simp[gw,h]
theorem Q9 {ws:List (List Int)}{i:Nat}(h:i<ws.length):atR ws (i:Int)= .ok (gw ws i):=Zh (Bw h)
theorem Zq {ws:List (List Int)}{i:Nat}(h:i<ws.length):gw ws i∈ws:=List.mem_of_getElem? (Bw h)
theorem Kr {α:Type}(as:List α){k:Nat}(h:k<=as.length):Kb as none (some (k:Int))=as.take k:=by
 unfold Kb
 rw[HT.sIx_nat,HT.sIx_none,Nat.min_eq_left h,List.drop_zero,Nat.sub_zero]
theorem ZD {α:Type}(as:List α){k:Nat}:Kb as (some (k:Int)) none=as.drop k:=by
 unfold Kb
 rw[HT.sIx_nat,HT.sIx_none]
 by_cases h:k<=as.length
 ·rw[Nat.min_eq_left h];exact List.take_of_length_le (by simp)
 ·rw[Nat.min_eq_right (by omega),Nat.sub_self,List.take_zero,List.drop_of_length_le (by omega)]
theorem Z3 {α:Type}{l:List α}(h:l.length<=100):P8 l (λa=>Rs.ok a)= .ok l:=by
 rw[Qh (h:=λa=>a) (sz (by omega)) λ_ _=>rfl,List.map_id']
section
variable {ws:List (List Int)}{i k:Nat}{p:List Int}
theorem GX (hw:ws.length<=10)(hi:i<ws.length)(hk:k<=(gw ws i).length)(hl:(gw ws i).length<=100)(hp:p.length<=10):QX ws (i:Int) (k:Int) p= .ok (UU ws i k p):=by
 unfold QX Q7;dsimp only
 simp only[Rs.okb]
 rw[Z3 (by omega)]
 simp only[Rs.okb,Q9 hi,Kr _ hk,ZD]
 rw[show Br ((gw ws i).take k) p= .ok ((gw ws i).take k++p) from Xp (sz (by simp;omega))]
 simp only[Rs.okb]
 rw[show Br ((gw ws i).take k++p) ((gw ws i).drop k)= .ok ((gw ws i).take k++p++(gw ws i).drop k) from Xp (sz (by simp;omega))]
 simp only[Rs.okb]
 rw[YL hi]
 rfl
theorem Uo {a b:Int}(hi:i<ws.length)(hk:k<=(gw ws i).length)(hl:(gw ws i).length<=100):K2 ws (i:Int) (k:Int) a b= .ok (UU ws i k [a,b]):=by
 unfold K2 Gh;dsimp only
 simp only[Rs.okb,Q9 hi,Kr _ hk,ZD]
 rw[Xp (show[a,b].length<=sizeLine from sz (by simp))]
 simp only[Rs.okb]
 rw[show Br ((gw ws i).take k) [a,b]= .ok ((gw ws i).take k++[a,b]) from Xp (sz (by simp;omega))]
 simp only[Rs.okb]
 rw[show Br ((gw ws i).take k++[a,b]) ((gw ws i).drop k)= .ok ((gw ws i).take k++[a,b]++(gw ws i).drop k) from Xp (sz (by simp;omega))]
 simp only[Rs.okb]
 rw[YL hi]
 rfl
theorem Bd (hw:ws.length<=10)(hi:i<ws.length)(hk:k<=(gw ws i).length)(hl:(gw ws i).length<=100):Zv ws (i:Int) (k:Int)= .ok (Lw ws i k):=by
 unfold Zv Zs;dsimp only
 simp only[Rs.okb]
 rw[Z3 (by omega)]
 simp only[Rs.okb,Q9 hi,Kr _ hk]
 rw[show(k:Int)+2=((k+2:Nat):Int) by omega,ZD,show Br ((gw ws i).take k) ((gw ws i).drop (k+2))= .ok ((gw ws i).take k++(gw ws i).drop (k+2)) from Xp (sz (by simp;omega))]
 simp only[Rs.okb]
 rw[YL hi]
 rfl
theorem Bb (hi:i<ws.length)(hk:k<=(gw ws i).length)(hl:(gw ws i).length<=100):Ua ws (i:Int) (k:Int)= .ok (Lw ws i k):=by
 unfold Ua UG;dsimp only
 simp only[Rs.okb,Q9 hi,Kr _ hk]
 rw[show(k:Int)+2=((k+2:Nat):Int) by omega,ZD,show Br ((gw ws i).take k) ((gw ws i).drop (k+2))= .ok ((gw ws i).take k++(gw ws i).drop (k+2)) from Xp (sz (by simp;omega))]
 simp only[Rs.okb]
 rw[YL hi]
 rfl
theorem Y0:(UU ws i k p).length=ws.length:=by simp[UU]
theorem Da (hi:i<ws.length):gw (UU ws i k p) i=ins (gw ws i) k p:=by simp[UU,gw,hi]
theorem BM {j:Nat}(h:j≠i):gw (UU ws i k p) j=gw ws j:=by
 unfold UU gw
 simp only[List.getD_eq_getElem?_getD]
 rw[List.getElem?_set_ne (Ne.symm h)]
theorem IT:(Lw ws i k).length=ws.length:=by simp[Lw]
theorem Uq {w:List Int}(h:k<=w.length):(ins w k p).length=w.length+p.length:=by simp[ins];omega
theorem Lo {w:List Int}{a b:Int}(h:k<=w.length):(ins w k [a,b])[k]?=some a/\(ins w k [a,b])[k+1]?=some b:=by
 unfold ins
 rw[List.append_assoc]
 constructor
 ·rw[List.getElem?_append_right (by simp;omega),List.length_take,Nat.min_eq_left h,Nat.sub_self];rfl
 ·rw[List.getElem?_append_right (by simp;omega),List.length_take,Nat.min_eq_left h,show k+1-k=1 by omega];rfl
end
structure Dr (n:Nat)(ws:List (List Int))(sg:List (Int×Int)):Prop where
 n3:n<=3
 ne:1<=ws.length
 lw:ws.length<=4
 ll:∀w∈ws,w.length<=30+4*n
 gs:Sg sg
 ls:sg.length<=6+2*n
 ky:∀w∈ws,∀p∈w,(p.natAbs:Int)∈kys sg
section
variable {n:Nat}{ws:List (List Int)}{sg:List (Int×Int)}
theorem Dr.l {i:Nat}(d:Dr n ws sg)(h:i<ws.length):(gw ws i).length<=42:=by
 have:=d.ll _ (Zq h);have:=d.n3;omega
theorem Dr.lw' (d:Dr n ws sg):ws.length<=10:=by have:=d.lw;omega
theorem Dr.fin (d:Dr n ws sg):chk (sg.length<64/\sg.Nodup) (Rs.ok (Zk ltP sg))= .ok sg:=by
 rw[Xp ⟨by have:=d.ls;have:=d.n3;omega,IE d.gs.kn⟩,d.gs.sort]
noncomputable def rot (w:List Int)(s:Int):List Int:=if w.length=0 then w else w.drop (s % (w.length:Int)).toNat++w.take (s % (w.length:Int)).toNat
theorem NS {w:List Int}{s:Int}(h:w.length≠0):∃c:Nat,s % (w.length:Int)=(c:Int)/\c<w.length/\rot w s=w.drop c++w.take c:=by
 have h1:=Int.emod_nonneg s (show(w.length:Int)≠0 by omega)
 have h2:=Int.emod_lt_of_pos s (show(0:Int)<(w.length:Int) by omega)
 refine⟨(s % (w.length:Int)).toNat,by omega,by omega,?_⟩
 unfold rot
 rw[if_neg h]
noncomputable def Fu (ws:List (List Int))(i:Nat)(s:Int):List (List Int):=ws.set i (rot (gw ws i) s)
theorem Om {i:Nat}(h:i<ws.length):ws.set i (gw ws i)=ws:=by
 apply List.ext_getElem?
 intro j
 by_cases e:i=j
 ·subst e;rw[List.getElem?_set_self h,Bw h]
 ·rw[List.getElem?_set_ne e]
theorem BE (d:Dr n ws sg){i:Nat}(hi:i<ws.length){s:Int}:FV (ws,sg) [.s "turn", .i i, .i s]= .ok (Fu ws i s,sg):=by
 have hl:=d.l hi
 unfold FV MH;dsimp only
 simp only[Rs.okb,decide_true,if_true,Bool.not_true,ar0,ar1,ar2,ar3,ar4,ar5,ar6,ar7,ar8,mxS,mxI,mxB,okf,okt,LA,EB,orF,orT,Xz,QU,Jt,Kp,Vp,QW,EY]
 rw[Z3 (by have:=d.lw';omega)]
 simp only[Rs.okb,Q9 hi,d.gs.dict]
 by_cases h:(gw ws i).length=0
 ·rw[show decide ((0:Int)<((gw ws i).length:Int))=false by rw[h];rfl]
  simp only[okf,Rs.okb]
  rw[d.fin]
  simp only[Rs.okb]
  unfold Fu rot
  rw[if_pos h,Om hi]
 ·obtain⟨c,ec,hc,er⟩:=NS (s:=s) h
  rw[show decide ((0:Int)<((gw ws i).length:Int))=true by simpa using Nat.pos_of_ne_zero h]
  simp only[okt,Rs.okb]
  rw[Yc (by omega)]
  simp only[Rs.okb]
  rw[ec,ZD,Kr _ (Nat.le_of_lt hc),show Br ((gw ws i).drop c) ((gw ws i).take c)= .ok (rot (gw ws i) s) from(Xp (sz (by simp;omega))).trans (by rw[er])]
  simp only[Rs.okb]
  rw[YL hi]
  simp only[Rs.okb]
  rw[d.fin]
  rfl
theorem JS {i:Nat}(hi:i<ws.length):V8 (ws,sg) (i:Int)= .ok true:=by
 unfold V8 UO;dsimp only
 simp only[Rs.okb]
 rw[if_pos (by simp)]
 simpa using hi
theorem BY (d:Dr n ws sg){i:Nat}(hi:i<ws.length){s:Int}:Ju (ws,sg) [.s "turn", .i i, .i s]= .ok (Fu ws i s,sg):=by
 have hl:=d.l hi
 unfold Ju Gq;dsimp only
 unfold YB Yk;dsimp only
 unfold KG VR;dsimp only
 unfold DN Ge;dsimp only
 unfold Je ZJ;dsimp only
 simp only[Rs.okb,decide_true,if_true,Bool.not_true,ar0,ar1,ar2,ar3,ar4,ar5,ar6,ar7,ar8,mxS,mxI,mxB,okf,okt,LA,EB,orF,orT,Xz,QU,Jt,Kp,Vp,QW,EY,JS hi]
 rw[Z3 (by have:=d.lw';omega)]
 simp only[Rs.okb,Q9 hi]
 by_cases h:(gw ws i).length=0
 ·rw[show decide (((gw ws i).length:Int)=0)=true by rw[h];rfl]
  simp only[okt,if_true,Rs.okb,Xz]
  rw[YL hi]
  simp only[Rs.okb,Xz]
  unfold Fu rot
  rw[if_pos h,List.length_eq_zero_iff.mp h]
 ·obtain⟨c,ec,hc,er⟩:=NS (s:=s) h
  rw[show decide (((gw ws i).length:Int)=0)=false by simpa using h]
  simp only[okf,Rs.okb]
  rw[Yc (by omega)]
  simp only[Rs.okb]
  rw[ec,ZD,Kr _ (Nat.le_of_lt hc),show Br ((gw ws i).drop c) ((gw ws i).take c)= .ok (rot (gw ws i) s) from(Xp (sz (by simp;omega))).trans (by rw[er])]
  simp only[Rs.okb,Xz]
  rw[YL hi]
  rfl
end
section
variable {n:Nat}{ws:List (List Int)}{sg:List (Int×Int)}
theorem Mr {i k:Nat}{x y:Int}(hi:i<ws.length)(hx:(gw ws i)[k]?=some x)(hy:(gw ws i)[k+1]?=some y):Uj (ws,sg) (i:Int) (k:Int)= .ok (some (x,y)):=by
 have h1:=(List.getElem?_eq_some_iff.mp hy).1
 unfold Uj Ut;dsimp only
 simp only[Rs.okb,JS hi,Xz,Bool.not_true,orF,Q9 hi]
 rw[if_pos (by simp),Rs.okb,Rs.okb,show decide ((k:Int)<((gw ws i).length:Int)-1)=true by simp;omega]
 simp only[Rs.okb,Bool.not_true,okf]
 rw[Zh hx,show(k:Int)+1=((k+1:Nat):Int) by omega,Zh hy]
 rfl
theorem CF {i k m:Nat}(hi:i<ws.length)(hk:k<=(gw ws i).length+m):Jg (ws,sg) (i:Int) (k:Int) (m:Int)= .ok true:=by
 unfold Jg V5;dsimp only
 simp only[Rs.okb,JS hi,Xz,EB,Q9 hi]
 rw[if_pos (by simp)]
 simp
 omega
theorem C9 {ns:List Int}(hl:sg.length<=30)(hn:ns.length<=2)(hd:(dd ns).length=ns.length)(h:∀x∈ns,1<=x/\x∉kys sg):Jl (ws,sg) ns= .ok true:=by
 unfold Jl Ui;dsimp only
 unfold UD Jc;dsimp only
 simp only[Rs.okb]
 rw[Qh (h:=λe:Int×Int=>e.1) (sz (by omega)) λ_ _=>rfl]
 simp only[Rs.okb,Xz,List.length_map]
 rw[Xp (by omega),hd,show decide ((40:Int)<(sg.length:Int)+(ns.length:Int))=false by simp;omega]
 simp only[Rs.okb,orF]
 rw[if_neg (by simp),Qh (h:=λ_=>true) (sz (by omega)) λa ha=>?_]
 ·simp only[Rs.okb]
  simp
 ·obtain⟨h1,h2⟩:=h a ha
  rw[show decide ((1:Int)<=a)=true by simpa using h1]
  simp only[EB]
  have h3:a∉sg.map λe=>e.1:=h2
  simp[h3]
noncomputable def ovw (o:Bool):Str:=if o=true then "over" else "under"
noncomputable def prc (c:Int)(o:Bool):List Int:=if o=true then[c,-c] else[-c,c]
noncomputable def FX (i k:Nat)(c:Int)(o:Bool)(s:Int):List Mx:=[.s "curl", .i i, .i k, .i c, .s (ovw o), .i s]
noncomputable def sgC (sg:List (Int×Int))(c s:Int):List (Int×Int):=Zk ltP (sg++[(c,s)])
theorem BO {c:Int}{o:Bool}:(prc c o).length=2:=by cases o<;> rfl
theorem Dr.fin' (d:Dr n ws sg){l:List (Int×Int)}(h:(kys l).Nodup)(hl:l.length<=40):chk (l.length<64/\l.Nodup) (Rs.ok (Zk ltP l))= .ok (Zk ltP l):=Xp ⟨by omega,IE h⟩
theorem Dg (d:Dr n ws sg){i k:Nat}{c s:Int}{o:Bool}(hi:i<ws.length)(hk:k<=(gw ws i).length)(hc:c∉kys sg)(h1:1<=c):FV (ws,sg) (FX i k c o s)= .ok (UU ws i k (prc c o),sgC sg c s):=by
 have hl:=d.l hi
 have h3:=d.n3
 have h4:=d.ls
 have hp:prc c o=[c*(if o=true then 1 else-1),-(c*(if o=true then 1 else-1))]:=by cases o<;> simp[prc]
 unfold FX
 unfold FV MH;dsimp only
 simp only[Rs.okb,decide_true,if_true,Bool.not_true,ar0,ar1,ar2,ar3,ar4,ar5,ar6,ar7,ar8,mxS,mxI,mxB,okf,okt,LA,EB,orF,orT,Xz,ZP,ZN,J0,Qx,ZK,LN]
 rw[Z3 (by have:=d.lw';omega),Xp (show[(-1:Int),1].length<=sizeLine from sz (by simp))]
 simp only[Rs.okb,d.gs.dict,JA hc]
 rw[show atR [(-1:Int),1] (if decide (ovw o=("over":Str))=true then 1 else 0)= .ok (if o=true then 1 else-1) by cases o<;> exact Qv (by decide) rfl]
 simp only[Rs.okb]
 rw[Qw (by split<;> decide) (by split<;> decide)]
 simp only[Rs.okb]
 rw[Uo hi hk (by omega)]
 simp only[Rs.okb,Xz]
 rw[Xp (Fi (by omega))]
 simp only[Rs.okb]
 rw[d.fin' (Ek d.gs hc h1).1 (by simp;omega),hp]
 rfl
theorem Hr (d:Dr n ws sg){i k:Nat}{c s:Int}{o:Bool}(hi:i<ws.length)(hk:k<=(gw ws i).length)(hc:c∉kys sg)(h1:1<=c)(hs:s=1∨s= -1):Ju (ws,sg) (FX i k c o s)= .ok (UU ws i k (prc c o),sgC sg c s):=by
 have hl:=d.l hi
 have h3:=d.n3
 have h4:=d.ls
 have e1:Jg (ws,sg) (i:Int) (k:Int) 0= .ok true:=CF (m:=0) hi hk
 have e2:Jl (ws,sg) [c]= .ok true:=C9 (by omega) (by simp) rfl λx hx=>by rw[List.mem_singleton.mp hx];exact⟨h1,hc⟩
 have e3:decide (ovw o∈[("over":Str),"under"])=true:=by cases o<;> rfl
 have e4:decide (s∈[(1:Int),-1])=true:=by rcases hs with rfl |rfl<;> rfl
 unfold FX
 unfold Ju Gq;dsimp only
 unfold YB Yk;dsimp only
 unfold KG VR;dsimp only
 unfold Vb Qm;dsimp only
 unfold Co K8;dsimp only
 simp only[Rs.okb,decide_true,if_true,Bool.not_true,ar0,ar1,ar2,ar3,ar4,ar5,ar6,ar7,ar8,mxS,mxI,mxB,okf,okt,LA,EB,orF,orT,Xz,ZP,ZN,J0,Qx,ZK,LN,Xp (show[c].length<=sizeLine from sz (by simp)),e1,e2,e3,e4]
 rw[show(if decide (ovw o=("over":Str))=true then chk ([c,-c].length<=sizeLine) (Rs.ok [c,-c]) else chk ([-c,c].length<=sizeLine) (Rs.ok [-c,c]))= .ok (prc c o) by cases o<;> exact Xp (sz (show 2<=100000 by decide))]
 simp only[Rs.okb]
 rw[GX d.lw' hi hk (by omega) (by rw[BO];omega),Xp (show[(c,s)].length<=sizeLine from sz (by simp))]
 simp only[Rs.okb,Xz]
 rw[show Br sg [(c,s)]= .ok (sg++[(c,s)]) from Xp (sz (by simp;omega))]
 simp only[Rs.okb]
 rw[d.fin' (Ek d.gs hc h1).1 (by simp;omega)]
 rfl
theorem QK {i k:Nat}{p w:List Int}(hi:i<ws.length)(h:w∈UU ws i k p):w∈ws∨w=ins (gw ws i) k p:=by
 unfold UU at h
 exact(List.mem_or_eq_of_mem_set h)
theorem FY {k:Nat}{p w:List Int}{x:Int}(h:x∈ins w k p):x∈w∨x∈p:=by
 unfold ins at h
 rcases List.mem_append.mp h with h |h
 ·rcases List.mem_append.mp h with h |h
  ·exact .inl (List.mem_of_mem_take h)
  ·exact .inr h
 ·exact .inl (List.mem_of_mem_drop h)
theorem NV {c x:Int}{o:Bool}(h1:1<=c)(h:x∈prc c o):(x.natAbs:Int)=c:=by
 unfold prc at h
 split at h<;> simp at h<;> omega
theorem Nc {c s k:Int}:k∈kys (sgC sg c s)↔k∈kys sg∨k=c:=by
 unfold sgC
 rw[DS]
 unfold kys
 simp
theorem Dr.curl (d:Dr n ws sg)(hn:n<=2){i k:Nat}{c s:Int}{o:Bool}(hi:i<ws.length)(hk:k<=(gw ws i).length)(hc:c∉kys sg)(h1:1<=c):Dr (n+1) (UU ws i k (prc c o)) (sgC sg c s) where
 n3:=by omega
 ne:=by rw[Y0];exact d.ne
 lw:=by rw[Y0];exact d.lw
 ll:=λw hw=>by
  rcases QK hi hw with h |rfl
  ·have:=d.ll w h;omega
  ·have:=d.ll _ (Zq hi);rw[Uq hk,BO];omega
 gs:=(Ek d.gs hc h1).2.2
 ls:=by unfold sgC;rw[DC];have:=d.ls;simp;omega
 ky:=λw hw p hp=>by
  rw[Nc]
  rcases QK hi hw with h |rfl
  ·exact .inl (d.ky w h p hp)
  ·rcases FY hp with h |h
   ·exact .inl (d.ky _ (Zq hi) p h)
   ·exact .inr (NV h1 h)
theorem E1 (d:Dr n ws sg){i k:Nat}{x:Int}(hi:i<ws.length)(hx:(gw ws i)[k]?=some x)(hy:(gw ws i)[k+1]?=some (-x)):FV (ws,sg) [.s "uncurl", .i i, .i k]= .ok (Lw ws i k,Gc sg (x.natAbs:Int)):=by
 have hl:=d.l hi
 have h3:=d.n3
 have h4:=d.ls
 have hk:=(List.getElem?_eq_some_iff.mp hy).1
 have hm:(x.natAbs:Int)∈kys sg:=d.ky _ (Zq hi) x (List.mem_of_getElem? hx)
 unfold FV MH;dsimp only
 simp only[Rs.okb,decide_true,if_true,Bool.not_true,ar0,ar1,ar2,ar3,ar4,ar5,ar6,ar7,ar8,mxS,mxI,mxB,okf,okt,LA,EB,orF,orT,Xz,ZM,Jm,QC,Zw,ZL,Ce]
 rw[Z3 (by have:=d.lw';omega)]
 simp only[Rs.okb,d.gs.dict,Q9 hi]
 rw[Zh hx]
 simp only[Rs.okb]
 rw[Xp (JE.mpr hm),Bb hi (by omega) (by omega)]
 simp only[Rs.okb,Xz]
 have hs:=d.gs.del (x.natAbs:Int)
 have hle:(Gc sg (x.natAbs:Int)).length<=sg.length:=List.filter_sublist.length_le
 rw[d.fin' hs.kn (by omega),hs.sort]
 rfl
theorem Dj (d:Dr n ws sg){i k:Nat}{x:Int}(hi:i<ws.length)(hx:(gw ws i)[k]?=some x)(hy:(gw ws i)[k+1]?=some (-x)):Ju (ws,sg) [.s "uncurl", .i i, .i k]= .ok (Lw ws i k,Gc sg (x.natAbs:Int)):=by
 have hl:=d.l hi
 have h3:=d.n3
 have h4:=d.ls
 have hk:=(List.getElem?_eq_some_iff.mp hy).1
 unfold Ju Gq;dsimp only
 unfold YB Yk;dsimp only
 unfold KG VR;dsimp only
 unfold QM Zu;dsimp only
 unfold Gw Uv;dsimp only
 unfold Qy Zi;dsimp only
 simp only[Rs.okb,decide_true,if_true,Bool.not_true,ar0,ar1,ar2,ar3,ar4,ar5,ar6,ar7,ar8,mxS,mxI,mxB,okf,okt,LA,EB,orF,orT,Xz,ZM,Jm,QC,Zw,ZL,Ce,Mr hi hx hy,Option.isSome,Pw,Bd d.lw' hi (show k<=(gw ws i).length by omega) (show(gw ws i).length<=100 by omega)]
 rw[show decide (x= - -x)=true by simp]
 simp only[Rs.okb,Xz,Bool.not_true,okf]
 rw[FE (p:=λe=>decide (e.1≠(x.natAbs:Int))) (h:=λe=>e) (sz (by omega)) (λe he=>?_) λ_ _ _=>rfl,List.map_id']
 ·rfl
 ·have:=d.gs.2 e he
  congr 1
  rw[Bool.eq_iff_iff]
  simp
  omega
end
section
variable {n:Nat}{ws:List (List Int)}{sg:List (Int×Int)}
noncomputable def und (a b:Int)(c:Bool):List Int:=if c=true then[-b,-a] else[-a,-b]
noncomputable def PM (i k j l:Nat)(a b:Int)(c:Bool)(s:Int):List Mx:=[.s "lay", .i i, .i k, .i j, .i l, .i a, .i b, .b c, .i s]
noncomputable def P6 (ws:List (List Int))(i k j l:Nat)(a b:Int)(c:Bool):List (List Int):=UU (UU ws i k [a,b]) j l (und a b c)
noncomputable def sgL (sg:List (Int×Int))(a b s:Int):List (Int×Int):=Zk ltP (sg++[(a,s),(b,-s)])
structure LayOk (n:Nat)(ws:List (List Int))(sg:List (Int×Int))(i k j l:Nat)(a b s:Int):Prop where
 d:Dr n ws sg
 hi:i<ws.length
 hk:k<=(gw ws i).length
 hj:j<ws.length
 hl:l<=(gw ws j).length+if j=i then 2 else 0
 hne:j=i->l≠k+1
 ha:1<=a/\a∉kys sg
 hb:1<=b/\b∉kys sg
 ab:a≠b
 hs:s=1∨s= -1
variable {i k j l:Nat}{a b s:Int}{c:Bool}
theorem LayOk.hl' (h:LayOk n ws sg i k j l a b s):l<=(gw (UU ws i k [a,b]) j).length:=by
 have:=h.hl
 by_cases e:j=i
 ·rw[if_pos e] at this
  subst e
  rw[Da h.hi,Uq h.hk]
  simp;omega
 ·rw[if_neg e] at this
  rw[BM e];omega
theorem LayOk.ll (h:LayOk n ws sg i k j l a b s):(gw (UU ws i k [a,b]) j).length<=44:=by
 by_cases e:j=i
 ·subst e
  rw[Da h.hi,Uq h.hk]
  have:=h.d.l h.hi
  simp;omega
 ·rw[BM e];have:=h.d.l h.hj;omega
theorem LayOk.kn (h:LayOk n ws sg i k j l a b s):(kys (sg++[(a,s),(b,-s)])).Nodup/\(∀e∈sg++[(a,s),(b,-s)],1<=e.1)/\b∉kys (sg++[(a,s)]):=by
 have hn:=h.d.gs.kn
 have h1:=h.ha.2
 have h2:=h.hb.2
 have h3:=h.ab
 unfold kys at hn h1 h2⊢
 refine⟨?_,λe he=>?_,?_⟩
 ·rw[List.map_append,List.nodup_append]
  refine⟨hn,by simp[h3],λx hx y hy e=>?_⟩
  subst e
  have:x=a∨x=b:=by simpa using hy
  rcases this with rfl |rfl
  ·exact h1 hx
  ·exact h2 hx
 ·rcases List.mem_append.mp he with he |he
  ·exact h.d.gs.2 e he
  ·have:e=(a,s)∨e=(b,-s):=by simpa using he
   rcases this with rfl |rfl
   ·exact h.ha.1
   ·exact h.hb.1
 ·simp only[List.map_append,List.mem_append,not_or]
  exact⟨h2,by simpa using Ne.symm h3⟩
theorem ND:(und a b c).length=2:=by cases c<;> rfl
theorem Ov (h:LayOk n ws sg i k j l a b s):FV (ws,sg) (PM i k j l a b c s)= .ok (P6 ws i k j l a b c,sgL sg a b s):=by
 have hl:=h.d.l h.hi
 have h3:=h.d.n3
 have h4:=h.d.ls
 have hk:=h.kn
 unfold PM
 unfold FV MH;dsimp only
 simp only[Rs.okb,decide_true,if_true,Bool.not_true,ar0,ar1,ar2,ar3,ar4,ar5,ar6,ar7,ar8,mxS,mxI,mxB,okf,okt,LA,EB,orF,orT,Xz,J3,Kt,GV,Fw,Kd,Rk]
 rw[Z3 (by have:=h.d.lw';omega)]
 simp only[Rs.okb,h.d.gs.dict]
 rw[Uo h.hi h.hk (by omega)]
 simp only[Rs.okb,Xz]
 rw[JA h.ha.2,JA hk.2.2,Xp (Fi (by omega)),Xp (Fi (by simp;omega))]
 have e:(if c=true then Rs.ok (b,a) else Rs.ok (a,b))=Rs.ok (if c=true then(b,a) else(a,b)):=by cases c<;> rfl
 rw[e]
 simp only[Rs.okb]
 rw[Uo (by rw[Y0];exact h.hj) h.hl' (by have:=h.ll;omega)]
 simp only[Rs.okb,Xz]
 rw[List.append_assoc]
 rw[h.d.fin' (l:=sg++([(a,s)]++[(b,-s)])) hk.1 (by simp;omega)]
 cases c<;> rfl
theorem Dr.lay (h:LayOk n ws sg i k j l a b s)(hn:n<=2):Dr (n+1) (P6 ws i k j l a b c) (sgL sg a b s) where
 n3:=by omega
 ne:=by unfold P6;rw[Y0,Y0];exact h.d.ne
 lw:=by unfold P6;rw[Y0,Y0];exact h.d.lw
 ll:=λw hw=>by
  have k1:∀w∈UU ws i k [a,b],w.length<=30+4*n+2:=λw hw=>by
   rcases QK h.hi hw with z |rfl
   ·have:=h.d.ll w z;omega
   ·have:=h.d.ll _ (Zq h.hi);rw[Uq h.hk];simp;omega
  have hj':j<(UU ws i k [a,b]).length:=by rw[Y0];exact h.hj
  rcases QK hj' hw with z |rfl
  ·have:=k1 w z;omega
  ·have:=k1 _ (Zq hj');rw[Uq h.hl',ND];omega
 gs:=OA h.kn.1 h.kn.2.1
 ls:=by unfold sgL;rw[DC];have:=h.d.ls;simp;omega
 ky:=λw hw p hp=>by
  have kk:∀q:Int,q∈kys (sgL sg a b s)↔q∈kys sg∨q=a∨q=b:=λq=>by
   unfold sgL
   rw[DS]
   unfold kys
   simp
  rw[kk]
  have h1:=h.ha.1
  have h2:=h.hb.1
  have k1:∀w∈UU ws i k [a,b],∀p∈w,(p.natAbs:Int)∈kys sg∨(p.natAbs:Int)=a∨(p.natAbs:Int)=b:=λw hw p hp=>by
   rcases QK h.hi hw with z |rfl
   ·exact .inl (h.d.ky w z p hp)
   ·rcases FY hp with z |z
    ·exact .inl (h.d.ky _ (Zq h.hi) p z)
    ·have:p=a∨p=b:=by simpa using z
     rcases this with rfl |rfl
     ·exact .inr (.inl (by omega))
     ·exact .inr (.inr (by omega))
  have hj':j<(UU ws i k [a,b]).length:=by rw[Y0];exact h.hj
  rcases QK hj' hw with z |rfl
  ·exact k1 w z p hp
  ·rcases FY hp with z |z
   ·exact k1 _ (Zq hj') p z
   ·have:p= -a∨p= -b:=by unfold und at z;split at z<;> simp at z<;> omega
    rcases this with rfl |rfl
    ·exact .inr (.inl (by omega))
    ·exact .inr (.inr (by omega))
end
section
variable {n:Nat}{ws:List (List Int)}{sg:List (Int×Int)}
noncomputable def swp (w:List Int)(k:Nat):List Int:=(w.set k (w.getD (k+1) 0)).set (k+1) (w.getD k 0)
noncomputable def swW (ws:List (List Int))(i k:Nat):List (List Int):=ws.set i (swp (gw ws i) k)
noncomputable def At2 (ws:List (List Int))(i k:Nat):Prop:=i<ws.length/\k+1<(gw ws i).length
theorem FI {i k:Nat}:(swW ws i k).length=ws.length:=by simp[swW]
theorem E9 {w:List Int}{k:Nat}:(swp w k).length=w.length:=by simp[swp]
theorem Oo {i k j:Nat}:(gw (swW ws i k) j).length=(gw ws j).length:=by
 unfold swW gw
 simp only[List.getD_eq_getElem?_getD]
 by_cases e:i=j
 ·subst e
  by_cases h:i<ws.length
  ·rw[List.getElem?_set_self h];simp[E9,h]
  ·rw[List.getElem?_eq_none (by simp;omega),List.getElem?_eq_none (by omega)]
 ·rw[List.getElem?_set_ne e]
theorem At2.sw {i k j l:Nat}(h:At2 ws j l):At2 (swW ws i k) j l:=⟨by rw[FI];exact h.1,by rw[Oo];exact h.2⟩
theorem Pu {i k:Nat}(h:At2 ws i k):((atR ws (i:Int)).bind λx=>atR x (k:Int))= .ok ((gw ws i).getD k 0)/\((atR ws (i:Int)).bind λx=>atR x ((k:Int)+1))= .ok ((gw ws i).getD (k+1) 0):=by
 obtain⟨hi,hk⟩:=h
 rw[Q9 hi,Rs.okb,Rs.okb,show(k:Int)+1=((k+1:Nat):Int) by omega]
 exact⟨Zh (by simp[Nat.lt_of_succ_lt hk]),Zh (by simp[hk])⟩
theorem Op {i k:Nat}{x y:Int}(h:At2 ws i k):((atR ws (i:Int)).bind λr=>(Vw r (k:Int) x).bind λr'=>(Vw ws (i:Int) r').bind λw=>(atR w (i:Int)).bind λr2=>(Vw r2 ((k:Int)+1) y).bind λr3=>(Vw w (i:Int) r3).bind λz=>Rs.ok z)= .ok (ws.set i (((gw ws i).set k x).set (k+1) y)):=by
 obtain⟨hi,hk⟩:=h
 rw[Q9 hi]
 simp only[Rs.okb]
 rw[YL (by omega)]
 simp only[Rs.okb]
 rw[YL hi]
 simp only[Rs.okb]
 rw[Zh (as:=ws.set i ((gw ws i).set k x)) (List.getElem?_set_self hi)]
 simp only[Rs.okb]
 rw[show(k:Int)+1=((k+1:Nat):Int) by omega,YL (by simp;omega)]
 simp only[Rs.okb]
 rw[YL (by simp;exact hi)]
 simp only[Rs.okb,List.set_set]
noncomputable def On (i k j l u v:Nat):List Mx:=[.s "pass", .i i, .i k, .i j, .i l, .i u, .i v]
noncomputable def MJ (ws:List (List Int))(i k j l u v:Nat):List (List Int):=swW (swW (swW ws i k) j l) u v
variable {i k j l u v:Nat}
theorem RY {f:List (List Int)->Int×Int->Rs (List (List Int))}(hf:∀{ws:List (List Int)}{i k:Nat},At2 ws i k->f ws ((i:Int),(k:Int))= .ok (swW ws i k))(h1:At2 ws i k)(h2:At2 ws j l)(h3:At2 ws u v):
  forN [((i:Int),(k:Int)),((j:Int),(l:Int)),((u:Int),(v:Int))] ws f= .ok (MJ ws i k j l u v):=by
 unfold forN
 rw[hf h1,Rs.okb]
 unfold forN
 rw[hf h2.sw,Rs.okb]
 unfold forN
 rw[hf h3.sw.sw,Rs.okb]
 rfl
theorem Rl {l:List Mx}{lo hi a b:Int}(h:¬(HT.sIx l.length 0 (some lo)=0/\HT.sIx l.length l.length (some hi)=l.length))(e:Kb l (some lo) (some hi)=[.i a, .i b]):(chk (¬(HT.sIx l.length 0 (some lo)=0/\HT.sIx l.length l.length (some hi)=l.length)) (Rs.ok (Kb l (some lo) (some hi)))).bind mx2= .ok (a,b):=by
 rw[Xp h,e];rfl
theorem Mi (d:Dr n ws sg)(h1:At2 ws i k)(h2:At2 ws j l)(h3:At2 ws u v):FV (ws,sg) (On i k j l u v)= .ok (MJ ws i k j l u v,sg):=by
 unfold On
 unfold FV MH;dsimp only
 simp only[Rs.okb,decide_true,if_true,Bool.not_true,ar0,ar1,ar2,ar3,ar4,ar5,ar6,ar7,ar8,mxS,mxI,mxB,okf,okt,LA,EB,orF,orT,Xz,QR,Uf,Jq,Kc,Vk,OC]
 rw[Z3 (by have:=d.lw';omega)]
 simp only[Rs.okb,d.gs.dict]
 rw[Rl (l:=[Mx.s "pass", .i i, .i k, .i j, .i l, .i u, .i v]) (lo:=1) (hi:=3) (a:=i) (b:=k) (show ¬(HT.sIx 7 0 (some 1)=0/\HT.sIx 7 7 (some 3)=7) by decide) rfl,Rl (l:=[Mx.s "pass", .i i, .i k, .i j, .i l, .i u, .i v]) (lo:=3) (hi:=5) (a:=j) (b:=l) (show ¬(HT.sIx 7 0 (some 3)=0/\HT.sIx 7 7 (some 5)=7) by decide) rfl,Rl (l:=[Mx.s "pass", .i i, .i k, .i j, .i l, .i u, .i v]) (lo:=5) (hi:=7) (a:=u) (b:=v) (show ¬(HT.sIx 7 0 (some 5)=0/\HT.sIx 7 7 (some 7)=7) by decide) rfl]
 simp only[Rs.okb]
 rw[Xp (show[((i:Int),(k:Int)),((j:Int),(l:Int)),((u:Int),(v:Int))].length<=sizeLine from sz (by simp))]
 simp only[Rs.okb]
 rw[RY (fun {ws i k} h=>?_) h1 h2 h3]
 ·simp only[Rs.okb]
  rw[d.fin]
  rfl
 ·obtain⟨e1,e2⟩:=Pu h
  simp only
  rw[e1,e2]
  simp only[Rs.okb]
  exact Op h
theorem MI {w:List Int}{k:Nat}{x:Int}(hk:k+1<w.length)(h:x∈swp w k):x∈w:=by
 unfold swp at h
 rcases List.mem_or_eq_of_mem_set h with h |h
 ·rcases List.mem_or_eq_of_mem_set h with h |h
  ·exact h
  ·rw[h];exact List.mem_of_getElem? (i:=k+1) (by simp[hk])
 ·rw[h];exact List.mem_of_getElem? (i:=k) (by simp[Nat.lt_of_succ_lt hk])
theorem Dr.sw (d:Dr n ws sg)(h:At2 ws i k):Dr n (swW ws i k) sg where
 n3:=d.n3
 ne:=by rw[FI];exact d.ne
 lw:=by rw[FI];exact d.lw
 ll:=λw hw=>by
  rcases List.mem_or_eq_of_mem_set hw with z |rfl
  ·exact d.ll w z
  ·rw[E9];exact d.ll _ (Zq h.1)
 gs:=d.gs
 ls:=d.ls
 ky:=λw hw p hp=>by
  rcases List.mem_or_eq_of_mem_set hw with z |rfl
  ·exact d.ky w z p hp
  ·exact d.ky _ (Zq h.1) p (MI h.2 hp)
theorem Dr.pass (d:Dr n ws sg)(h1:At2 ws i k)(h2:At2 ws j l)(h3:At2 ws u v):Dr n (MJ ws i k j l u v) sg:=((d.sw h1).sw h2.sw).sw h3.sw.sw
theorem Dr.turn (d:Dr n ws sg)(hi:i<ws.length){s:Int}:Dr n (Fu ws i s) sg:=by
 have hr:∀x,x∈rot (gw ws i) s->x∈gw ws i:=λx hx=>by
  unfold rot at hx
  split at hx
  ·exact hx
  ·rcases List.mem_append.mp hx with z |z
   ·exact List.mem_of_mem_drop z
   ·exact List.mem_of_mem_take z
 have hl:(rot (gw ws i) s).length=(gw ws i).length:=by
  by_cases h:(gw ws i).length=0
  ·unfold rot;rw[if_pos h]
  ·obtain⟨c,_,hc,e⟩:=NS (s:=s) h
   rw[e];simp;omega
 exact⟨d.n3,by unfold Fu;simpa using d.ne,by unfold Fu;simpa using d.lw,λw hw=>by
  rcases List.mem_or_eq_of_mem_set hw with z |rfl
  ·exact d.ll w z
  ·rw[hl];exact d.ll _ (Zq hi),d.gs,d.ls,λw hw p hp=>by
  rcases List.mem_or_eq_of_mem_set hw with z |rfl
  ·exact d.ky w z p hp
  ·exact d.ky _ (Zq hi) p (hr p hp)⟩
end
noncomputable abbrev Q4:=Int×Int×Int×Int
section
variable {n:Nat}{ws:List (List Int)}{sg:List (Int×Int)}
structure PQ (ws:List (List Int))(q:Q4):Prop where
 ex:∃i k:Nat,q.1=(i:Int)/\q.2.1=(k:Int)/\i<ws.length/\(gw ws i)[k]?=some q.2.2.1/\(gw ws i)[k+1]?=some q.2.2.2
theorem c4 {x y z w:Int}:chk (¬(HT.sIx [x,y,z,w].length 0 (some 2)=0/\HT.sIx [x,y,z,w].length [x,y,z,w].length none=[x,y,z,w].length)) (Rs.ok (Kb [x,y,z,w] (some 2) none))= .ok [z,w]:=Xp (show ¬(HT.sIx 4 0 (some 2)=0/\HT.sIx 4 4 none=4) by decide)
theorem d4 {x y z w:Int}:chk (¬(HT.sIx [x,y,z,w].length 0 none=0/\HT.sIx [x,y,z,w].length [x,y,z,w].length (some 2)=[x,y,z,w].length)) (Rs.ok (Kb [x,y,z,w] none (some 2)))= .ok [x,y]:=Xp (show ¬(HT.sIx 4 0 none=0/\HT.sIx 4 4 (some 2)=4) by decide)
theorem Sx {x y:Int}:Sc [x,y]= .ok (min x y):=Xp (by simp)
theorem Sz {x y:Int}:R1 [x,y]= .ok (max x y):=Xp (by simp)
theorem big {m:Nat}(h:m<=10000000):m<sizeLine:=Nat.lt_of_le_of_lt h (by decide)
theorem IX (w:List Int):Mu 0 ((w.length:Int)-1)= .ok ((List.range (w.length-1)).map λ(i:Nat)=>(i:Int))∨1000<w.length:=by
 by_cases h:1000<w.length
 ·exact .inr h
 ·left
  by_cases h0:w.length=0
  ·rw[h0];rfl
  ·rw[show(w.length:Int)-1=((w.length-1:Nat):Int) by omega]
   exact Qz (by omega)
theorem Ig (d:Dr n ws sg):Ok (FZ ws) λl=>l.length<=168/\∀q∈l,PQ ws q:=by
 unfold FZ Fp;dsimp only
 simp only[Rs.okb]
 rw[Qz (by have:=d.lw;omega)]
 simp only[Rs.okb]
 refine Ok.bind (Ok.forN (λi (g:List Q4)=>g.length<=42*i/\∀q∈g,PQ ws q) ⟨Nat.le_refl _,λq hq=>by cases hq⟩ λi a g ha hg=>?_) λg hg=>?_
 ·obtain⟨rfl,hi⟩:=YH ha
  have hl:=d.l hi
  have h4:=d.lw
  simp only[Q9 hi,Rs.okb]
  rcases IX (gw ws i) with e |e
  ·rw[e]
   simp only[Rs.okb]
   refine Ok.bind (Ok.forN (λk (q:List Q4)=>q.length<=42*i+k/\∀x∈q,PQ ws x) ⟨by have:=hg.1;omega,hg.2⟩ λk b q hb hq=>?_) λq hq=>?_
   ·obtain⟨rfl,hk⟩:=YH hb
    have z1:(gw ws i)[k]?=some ((gw ws i).getD k 0):=by simp[show k<(gw ws i).length by omega]
    have z2:(gw ws i)[k+1]?=some ((gw ws i).getD (k+1) 0):=by simp[show k+1<(gw ws i).length by omega]
    rw[Zh z1,show(k:Int)+1=((k+1:Nat):Int) by omega,Zh z2]
    simp only[Rs.okb]
    rw[Xp (Fi (by have:=hq.1;omega))]
    refine⟨_,rfl,by have:=hq.1;simp;omega,λx hx=>?_⟩
    rcases List.mem_append.mp hx with hx |hx
    ·exact hq.2 x hx
    ·rw[List.mem_singleton.mp hx]
     exact⟨i,k,rfl,rfl,hi,z1,z2⟩
   ·rw[Y3] at hq
    exact⟨_,rfl,by have:=hq.1;omega,hq.2⟩
  ·omega
 ·rw[Y3] at hg
  have:=d.lw
  exact⟨_,rfl,by have:=hg.1;omega,hg.2⟩
noncomputable def sv (sg:List (Int×Int))(k:Int):Int:=(QL sg k).getD 0
theorem EM {k:Int}(h:k∈kys sg):BA sg k= .ok (sv sg k):=by
 have:=JE.mpr h
 unfold BA sv
 cases e:QL sg k with
 |none=>rw[e] at this;cases this
 |some v=>rfl
noncomputable def pa (q:Q4):Int:=-(min q.2.2.1 q.2.2.2)
noncomputable def pc (q:Q4):Int:=max q.2.2.1 q.2.2.2
noncomputable def pb (p q:Q4):Int:=p.2.2.1+p.2.2.2-pa q
noncomputable def ord (x y:Int):Int:=if x=y then 1 else-1
theorem Ea {x y:Int}:((NG 2 (if decide (x=y)=true then 1 else 0)).bind λz=>Rs.ok (z-1))= .ok (ord x y):=by
 unfold ord
 by_cases h:x=y
 ·rw[if_pos h,show decide (x=y)=true by simpa using h];rfl
 ·rw[if_neg h,show decide (x=y)=false by simpa using h];rfl
structure StC (sg:List (Int×Int))(p q r:Q4):Prop where
 a1:pa q∈[p.2.2.1,p.2.2.2]
 c1:pc q∉ [p.2.2.1,p.2.2.2]
 so:ZU [-r.2.2.1,-r.2.2.2]=ZU [pb p q,pc q]
 e1:ord p.2.2.1 (pa q)*sv sg (pb p q)=ord q.2.2.1 (-(pa q))*sv sg (pc q)
 e2:ord q.2.2.1 (-(pa q))*sv sg (pa q)=ord r.2.2.1 (-(pb p q))*sv sg (pb p q)
theorem Mq {x y z:Int}:NG (ord x y) z= .ok (ord x y*z):=YR (by unfold ord;split<;> decide) (by unfold ord;split<;> decide)
theorem FK {p q r:Q4}(ka:pa q∈kys sg)(kc:pc q∈kys sg)(kb:pa q∈[p.2.2.1,p.2.2.2]->pb p q∈kys sg):Ok (JQ sg p q r) λb=>b=true->StC sg p q r:=by
 unfold JQ JM;dsimp only
 simp only[Rs.okb,c4]
 rw[show-(min q.2.2.1 q.2.2.2)=pa q from rfl,show max q.2.2.1 q.2.2.2=pc q from rfl,show p.2.2.1+p.2.2.2-pa q=pb p q from rfl]
 by_cases h1:pa q∈[p.2.2.1,p.2.2.2]
 ·rw[show decide (pa q∈[p.2.2.1,p.2.2.2])=true by simpa using h1]
  simp only[Bool.not_true,orF,Rs.okb]
  by_cases h2:pc q∈[p.2.2.1,p.2.2.2]
  ·rw[show decide (pc q∈[p.2.2.1,p.2.2.2])=true by simpa using h2]
   exact⟨false,rfl,λz=>by cases z⟩
  ·rw[show decide (pc q∈[p.2.2.1,p.2.2.2])=false by simpa using h2,okf,Xp (show[-r.2.2.1,-r.2.2.2].length<=sizeLine from sz (by simp)),Xp (show[pb p q,pc q].length<=sizeLine from sz (by simp))]
   simp only[Rs.okb]
   rw[Xp (show[-r.2.2.1,-r.2.2.2].length<64 by simp),Xp (show[pb p q,pc q].length<64 by simp)]
   simp only[Rs.okb]
   by_cases h3:ZU [-r.2.2.1,-r.2.2.2]=ZU [pb p q,pc q]
   ·rw[show decide (ZU [-r.2.2.1,-r.2.2.2]=ZU [pb p q,pc q])=true by simpa using h3]
    simp only[Bool.not_true,okf]
    rw[Ea,Rs.okb,Ea,Rs.okb,Ea,Rs.okb,EM ka,EM kc,EM (kb h1)]
    simp only[Rs.okb,Mq]
    rw[LQ (c:=decide (ord q.2.2.1 (-(pa q))*sv sg (pa q)=ord r.2.2.1 (-(pb p q))*sv sg (pb p q))) λ_=>rfl]
    refine⟨_,rfl,λz=>?_⟩
    simp only[Bool.and_eq_true,decide_eq_true_eq] at z
    exact⟨h1,h2,h3,z.1,z.2⟩
   ·rw[show decide (ZU [-r.2.2.1,-r.2.2.2]=ZU [pb p q,pc q])=false by simpa using h3]
    exact⟨false,rfl,λz=>by cases z⟩
 ·rw[show decide (pa q∈[p.2.2.1,p.2.2.2])=false by simpa using h1]
  exact⟨false,rfl,λz=>by cases z⟩
structure PassC (ws:List (List Int))(sg:List (Int×Int))(p q r:Q4):Prop where
 hp:PQ ws p
 hq:PQ ws q
 hr:PQ ws r
 p0:0<min p.2.2.1 p.2.2.2
 q0:min q.2.2.1 q.2.2.2<0/\0<max q.2.2.1 q.2.2.2
 st:StC sg p q r
noncomputable def Eu (p q r:Q4):List Mx:=[.s "pass", .i p.1, .i p.2.1, .i q.1, .i q.2.1, .i r.1, .i r.2.1]
theorem Ll (d:Dr n ws sg){q:Q4}(h:PQ ws q):(q.2.2.1.natAbs:Int)∈kys sg/\(q.2.2.2.natAbs:Int)∈kys sg:=by
 obtain⟨i,k,_,_,hi,z1,z2⟩:=h.ex
 exact⟨d.ky _ (Zq hi) _ (List.mem_of_getElem? z1),d.ky _ (Zq hi) _ (List.mem_of_getElem? z2)⟩
theorem Ei (d:Dr n ws sg){p q:Q4}(hp:PQ ws p)(hq:PQ ws q)(p0:0<min p.2.2.1 p.2.2.2)(q0:min q.2.2.1 q.2.2.2<0/\0<max q.2.2.1 q.2.2.2):pa q∈kys sg/\pc q∈kys sg/\(pa q∈[p.2.2.1,p.2.2.2]->pb p q∈kys sg):=by
 obtain⟨k1,k2⟩:=Ll d hp
 obtain⟨k3,k4⟩:=Ll d hq
 have a:∀{x y:Int},(x.natAbs:Int)∈kys sg->y=(x.natAbs:Int)->y∈kys sg:=λh e=>e▸h
 unfold pa pc pb pa
 refine⟨?_,?_,λh=>?_⟩
 ·rcases Int.le_total q.2.2.1 q.2.2.2 with z |z
  ·exact a k3 (by omega)
  ·exact a k4 (by omega)
 ·rcases Int.le_total q.2.2.1 q.2.2.2 with z |z
  ·exact a k4 (by omega)
  ·exact a k3 (by omega)
 ·have: -(min q.2.2.1 q.2.2.2)=p.2.2.1∨ -(min q.2.2.1 q.2.2.2)=p.2.2.2:=by simpa using h
  rcases this with z |z
  ·exact a k2 (by omega)
  ·exact a k1 (by omega)
noncomputable def PG (ws:List (List Int))(sg:List (Int×Int))(n:Nat)(l:List (List Mx)):Prop:=l.length<=n/\∀m∈l,∃p q r,m=Eu p q r/\PassC ws sg p q r
theorem PG.mono {n m:Nat}{l:List (List Mx)}(h:PG ws sg n l)(z:n<=m):PG ws sg m l:=⟨Nat.le_trans h.1 z,h.2⟩
theorem Ey {l:List Q4}{c:Q4->Rs Bool}{f:Q4->Rs Q4}(p:Q4->Bool)(hl:l.length<=168)(hc:∀a,c a= .ok (p a))(hf:∀a,f a= .ok a):∃m:List Q4,P9 l c f= .ok m/\m.length<=168/\∀a∈m,a∈l/\p a=true:=
 ⟨l.filter p,by rw[FE (p:=p) (h:=λe=>e) (sz (by omega)) (λa _=>hc a) λa _ _=>hf a,List.map_id'],Nat.le_trans (List.length_filter_le ..) hl,λ_ ha=>List.mem_filter.mp ha⟩
theorem BH (d:Dr n ws sg):Ok (Kz (ws,sg)) (PG ws sg 5000000):=by
 obtain⟨l,el,hl,hq⟩:=Ig d
 unfold Kz KI;dsimp only
 simp only[Rs.okb,d.gs.dict,el,Xz,c4,d4,Sx,Sz]
 obtain⟨l1,e1,n1,h1⟩:=Ey (c:=λa14=>Rs.ok (decide ((0:Int)<min a14.2.2.1 a14.2.2.2))) (f:=λa14=>Rs.ok a14) (λa14=>decide ((0:Int)<min a14.2.2.1 a14.2.2.2)) hl (λ_=>rfl) λ_=>rfl
 obtain⟨l2,e2,n2,h2⟩:=Ey (c:=λa31=>if decide (min a31.2.2.1 a31.2.2.2<0)=true then Rs.ok (decide (0<max a31.2.2.1 a31.2.2.2)) else Rs.ok false) (f:=Rs.ok) (λa31=>decide (min a31.2.2.1 a31.2.2.2<0)&&decide (0<max a31.2.2.1 a31.2.2.2)) hl (λa=>by cases decide (min a.2.2.1 a.2.2.2<0)<;> rfl) λ_=>rfl
 obtain⟨l3,e3,n3,h3⟩:=Ey (c:=λa54=>Rs.ok (decide (max a54.2.2.1 a54.2.2.2<0))) (f:=Rs.ok) (λa54=>decide (max a54.2.2.1 a54.2.2.2<0)) hl (λ_=>rfl) λ_=>rfl
 rw[e1,Rs.okb,e2,e3]
 refine Ok.bind (Ok.forN (λi g=>PG ws sg (28224*i) g) ⟨Nat.le_refl _,λm hm=>by cases hm⟩ λi p g hp hg=>?_) λg hg=>⟨g,rfl,hg.mono (by omega)⟩
 have hp:=h1 p (List.mem_of_getElem? hp)
 have i1:i<l1.length:=(List.getElem?_eq_some_iff.mp ‹_›).1
 rw[Rs.okb]
 refine Ok.bind (Ok.forN (λj g=>PG ws sg (28224*i+168*j) g) (hg.mono (Nat.le_refl _)) λj q g hq' hg=>?_) λg hg=>⟨g,rfl,hg.mono (by omega)⟩
 have j1:j<l2.length:=(List.getElem?_eq_some_iff.mp hq').1
 have hq':=h2 q (List.mem_of_getElem? hq')
 rw[Rs.okb]
 refine Ok.bind (Ok.forN (λk g=>PG ws sg (28224*i+168*j+k) g) (hg.mono (Nat.le_refl _)) λk r g hr hg=>?_) λg hg=>⟨g,rfl,hg.mono (by omega)⟩
 have k1:k<l3.length:=(List.getElem?_eq_some_iff.mp hr).1
 have hr:=h3 r (List.mem_of_getElem? hr)
 have p0:0<min p.2.2.1 p.2.2.2:=by simpa using hp.2
 have q0:min q.2.2.1 q.2.2.2<0/\0<max q.2.2.1 q.2.2.2:=by simpa using hq'.2
 obtain⟨ka,kc,kb⟩:=Ei d (hq p hp.1) (hq q hq'.1) p0 q0
 obtain⟨b,eb,hb⟩:=FK (r:=r) ka kc kb
 rw[eb,Xz,Rs.okb]
 cases b with
 |false=>exact⟨g,rfl,hg.mono (by omega)⟩
 |true=>
  have zz:∀{n:Nat},n<=5000000->n<sizeLine:=λh=>Nat.lt_of_le_of_lt h (by decide)
  simp only[if_true,List.length_cons,List.length_nil,List.map_cons,List.map_nil,List.length_append]
  rw[Xp (sz (by omega)),Rs.okb,Xp ⟨by omega,sz (by simp)⟩,Rs.okb,Xp ⟨by omega,sz (by simp)⟩,Rs.okb,Xp ⟨by omega,sz (by simp)⟩,Rs.okb,Xp (zz (by have:=hg.1;omega))]
  refine⟨_,rfl,by have:=hg.1;simp;omega,λm hm=>?_⟩
  rcases List.mem_append.mp hm with hm |hm
  ·exact hg.2 m hm
  ·rw[List.mem_singleton.mp hm]
   exact⟨p,q,r,rfl,hq p hp.1,hq q hq'.1,hq r hr.1,p0,q0,hb rfl⟩
end
theorem mem_set {α:Type}:∀{l:List α}{j:Nat}{v x:α},x∈l.set j v->x∈l∨x=v
 | [],_,_,_,h=>by simp at h
 |a::r,0,v,x,h=>by
  rw[List.set_cons_zero] at h
  rcases List.mem_cons.mp h with h |h
  ·exact .inr h
  ·exact .inl (List.mem_cons_of_mem _ h)
 |a::r,j+1,v,x,h=>by
  rw[List.set_cons_succ] at h
  rcases List.mem_cons.mp h with h |h
  ·exact .inl (by rw[h];exact List.mem_cons_self)
  ·rcases mem_set h with h |h
   ·exact .inl (List.mem_cons_of_mem _ h)
   ·exact .inr h
theorem G8:∀{l:List Bool}{j:Nat},l[j]?=some false->(l.set j true).count false+1=l.count false
 | [],_,e=>by simp at e
 |a::r,0,e=>by
  have e':a=false:=by simpa using e
  subst e';simp
 |a::r,j+1,e=>by
  have e':r[j]?=some false:=by simpa using e
  have ih:=G8 e'
  rw[List.set_cons_succ,List.count_cons,List.count_cons]
  omega
noncomputable def Wp (m:Nat)(w:List Int):Prop:=∀ x∈w,1<=x.natAbs/\x.natAbs<=m
structure Wk (m:Nat)(ws:List (List Int)):Prop where
 ne:1<=ws.length
 lw:ws.length<=4
 ll:∀w∈ws,w.length<=30
 wp:∀w∈ws,Wp m w
theorem Wp.app {m:Nat}{w:List Int}{x:Int}(h:Wp m w)(h1:1<=x.natAbs)(h2:x.natAbs<=m):Wp m (w++[x]):=λy hy=>by
 rcases List.mem_append.mp hy with hy |hy
 ·exact h y hy
 ·rw[List.mem_singleton.mp hy];exact⟨h1,h2⟩
theorem LD {k s:Int}(h:s=1∨s= -1):(k*s).natAbs=k.natAbs:=by rcases h with rfl |rfl<;> omega
theorem Hc {lows sgs:List Int}{m S:Nat}(h1:lows.length=m)(h2:sgs.length=m)(hm:m<=6)(hS:2<=S)(hS4:S<=4)(hl:∀x∈lows,0<=x/\x+1<(S:Int))(hs:∀x∈sgs,x=1∨x= -1):Ok (Gf lows sgs (S:Int)) (Wk m):=by
 unfold Gf Kv;dsimp only
 simp only[Rs.okb]
 rw[Xp (show[false].length<=sizeLine from sz (by simp)),Rs.okb,show Lp [false] (S:Int)= .ok (List.replicate S false) from ?_]
 rotate_left
 ·unfold Lp
  rw[Xp ⟨by omega,by omega,sz (by simp;omega)⟩,Int.toNat_natCast]
  congr 1
  clear hS hS4 hl
  induction S with
  |zero=>rfl
  |succ n ih=>rw[List.replicate_succ,List.flatten_cons,ih,List.replicate_succ];rfl
 rw[Rs.okb,Qz (by omega),Rs.okb]
 refine Ok.bind (Ok.forN (λi (g:List Bool×List (List Int))=>g.1.length=S/\g.2.length<=i/\(i=0->g.1[0]?=some false)/\(0<i->1<=g.2.length)/\∀w∈g.2,w.length<=30/\Wp m w) ⟨by simp,Nat.le_refl _,λ_=>by rw[List.getElem?_replicate,if_pos (by omega)],λh=>by omega,λw hw=>by cases hw⟩ λi a g ha hg=>?_) λg hg=>?_
 ·obtain⟨rfl,hi⟩:=YH ha
  obtain⟨g1,g2,g3,g4,g5⟩:=hg
  have hi1:i<g.1.length:=by omega
  rw[Yt (n:=i) rfl hi1]
  simp only[Rs.okb]
  cases hb:g.1[i] with
  |true=>
   simp only[Bool.not_true,okf,Rs.okb]
   refine⟨_,rfl,g1,by show g.2.length<=_;omega,λh=>by omega,λ_=>g4 ?_,g5⟩
   rcases Nat.eq_zero_or_pos i with z |z
   ·subst z
    have:=g3 rfl
    rw[List.getElem?_eq_getElem hi1,hb] at this
    cases this
   ·exact z
  |false=>
   simp only[Bool.not_false,if_true]
   refine Ok.bind (R:=λg':List Bool×List (List Int)=>g'.1.length=S/\g'.2.length<=i+1/\1<=g'.2.length/\∀w∈g'.2,w.length<=30/\Wp m w) (Ok.bind (KO (λg':List Bool×Int×List Int=>g'.1.length=S/\0<=g'.2.1/\g'.2.1<(S:Int)/\g'.2.2.length+6*g'.1.count false<=24/\Wp m g'.2.2) (λg'=>g'.1.count false) (λg' hg'=>?_) _ (g.1,(i:Int),[]) ⟨g1,by show(0:Int)<=(i:Int);omega,by show(i:Int)<(S:Int);omega,by
    have:g.1.count false<=g.1.length:=List.count_le_length
    show 0+6*g.1.count false<=24
    omega,λx hx=>by cases hx⟩ ?_) λg' hg'=>?_) λg' hg'=>?_
   ·obtain⟨w1,w2,w3,w4,w5⟩:=hg'
    obtain⟨p,hp⟩:∃p:Nat,g'.2.1=(p:Int):=⟨g'.2.1.toNat,by omega⟩
    have hpl:p<g'.1.length:=by omega
    rw[Yt hp hpl]
    refine⟨_,rfl,λhf=>?_⟩
    have hf':g'.1[p]=false:=by simpa using hf
    have hct:=G8 (show g'.1[p]?=some false by simp[hpl,hf'])
    rw[hp,YL hpl]
    simp only[Rs.okb]
    rw[Qz (by omega)]
    simp only[Rs.okb]
    refine Ok.bind (Ok.forN (λk (h:Int×List Int)=>0<=h.1/\h.1<(S:Int)/\h.2.length<=g'.2.2.length+k/\Wp m h.2) ⟨by show(0:Int)<=(p:Int);omega,by show(p:Int)<(S:Int);omega,Nat.le_refl _,w5⟩ λk b h hb' hh=>?_) λh hh=>?_
    ·obtain⟨rfl,hk⟩:=YH hb'
     obtain⟨e1,e2,e3,e4⟩:=hh
     have hk2:k<sgs.length:=by omega
     have hlo:=hl _ (List.getElem_mem hk)
     have hsg:=hs _ (List.getElem_mem hk2)
     rw[Yt (r:=lows) (n:=k) rfl hk]
     simp only[Rs.okb]
     rw[Yt (r:=sgs) (n:=k) rfl hk2]
     simp only[Rs.okb]
     rw[Qw (a:=(k:Int)+1) (by omega) (by omega),Qw (a:=-((k:Int)+1)) (by omega) (by omega)]
     simp only[Rs.okb]
     have hlen:h.2.length<sizeLine:=Fi (by omega)
     rw[Xp hlen,Xp hlen]
     have a1:=LD (k:=(k:Int)+1) hsg
     have a2:=LD (k:=-((k:Int)+1)) hsg
     generalize lows[k]=low at*
     by_cases c1:h.1=low
     ·rw[if_pos (decide_eq_true c1)]
      simp only[Rs.okb]
      exact⟨_,rfl,by show 0<=h.1+1;omega,by show h.1+1<_;omega,by simp;omega,e4.app (by omega) (by omega)⟩
     ·rw[if_neg (by rw[decide_eq_false c1];exact Bool.false_ne_true)]
      by_cases c2:h.1=low+1
      ·rw[if_pos (decide_eq_true c2)]
       simp only[Rs.okb]
       exact⟨_,rfl,by show 0<=h.1-1;omega,by show h.1-1<_;omega,by simp;omega,e4.app (by omega) (by omega)⟩
      ·rw[if_neg (by rw[decide_eq_false c2];exact Bool.false_ne_true)]
       simp only[Rs.okb]
       exact⟨_,rfl,e1,e2,by show h.2.length<=_;omega,e4⟩
    ·rw[Y3] at hh
     obtain⟨e1,e2,e3,e4⟩:=hh
     refine⟨_,rfl,⟨by show(g'.1.set p true).length=S;rw[List.length_set];exact w1,e1,e2,?_,e4⟩,?_⟩
     ·show h.2.length+6*(g'.1.set p true).count false<=24
      omega
     ·show(g'.1.set p true).count false<g'.1.count false
      omega
   ·have:g.1.count false<=g.1.length:=List.count_le_length
    show g.1.count false<(S:Int).natAbs+2
    omega
   ·obtain⟨⟨w1,w2,w3,w4,w5⟩,-⟩:=hg'
    rw[Xp (Fi (by omega))]
    refine⟨_,rfl,w1,by simp;omega,by simp,λw hw=>?_⟩
    rcases List.mem_append.mp hw with hw |hw
    ·exact g5 w hw
    ·rw[List.mem_singleton.mp hw];exact⟨by omega,w5⟩
   ·exact⟨_,rfl,hg'.1,hg'.2.1,λh=>by omega,λ_=>hg'.2.2.1,hg'.2.2.2⟩
 ·obtain⟨g1,g2,g3,g4,g5⟩:=hg
  rw[Y3] at g2 g4
  exact⟨_,rfl,g4 (by omega),by omega,λw hw=>(g5 w hw).1,λw hw=>(g5 w hw).2⟩
theorem MR {α:Type}{l:List (Int×α)}{k:Int}{v:α}:(UW l k v).length<=l.length+1:=by
 unfold UW
 split
 ·simp
 ·simp
theorem L6 {x f:Int}(h:0<f):((x*f).natAbs:Int)=(x.natAbs:Int)*f:=by
 rw[Int.natAbs_mul,Int.natCast_mul]
 congr 1
 omega
theorem Fg {ws:List (List Int)}{sgs r:List Int}{m:Nat}(w:Wk m ws)(h2:sgs.length=m)(hm:m<=6)(hr:20<=r.length)(hf:∃j:Nat,j<3/\atR r (-1)= .ok (j:Int)):Ok (QY ws sgs r) λd=>Dr 0 d.1 d.2:=by
 unfold QY Q3;dsimp only
 simp only[Rs.okb]
 have hw4:=w.lw
 rw[Qz (by omega),Rs.okb]
 refine Ok.bind (Ok.forN (λi (g:List (List Int)×List (Int×Bool))=>Wk m g.1/\g.1.length=ws.length/\g.2.length<=30*i) ⟨w,rfl,Nat.le_refl _⟩ λi a g ha hg=>?_) λg hg=>?_
 ·obtain⟨rfl,hi⟩:=YH ha
  obtain⟨g1,g2,g3⟩:=hg
  rw[Yt (r:=r) (n:=4+i) (by omega) (by omega)]
  simp only[Rs.okb]
  refine Ok.bind (R:=λg':List (List Int)×List (Int×Bool)=>Wk m g'.1/\g'.1.length=ws.length/\g'.2.length<=30*(i+1)) (Ok.ite (λ_=>?_) λ_=>⟨_,rfl,g1,g2,by show g.2.length<=_;omega⟩) λg' hg'=>⟨_,rfl,hg'⟩
  have hi2:i<g.1.length:=by omega
  have hl:=g1.ll _ (List.getElem_mem hi2)
  rw[Yt (r:=g.1) (n:=i) rfl hi2]
  simp only[Rs.okb]
  rw[Xp trivial,Rs.okb,YL hi2]
  simp only[Rs.okb]
  rw[Yt (r:=g.1.set i _) (n:=i) rfl (by simpa using hi2),List.getElem_set_self]
  simp only[Rs.okb]
  refine Ok.bind (Ok.forN (λk (h:List (Int×Bool))=>h.length<=30*i+k) g3 λk b h hb hh=>?_) λh hh=>?_
  ·rw[Xp (Fi (by
    have:=(List.getElem?_eq_some_iff.mp hb).1
    rw[List.length_reverse] at this
    omega))]
   exact⟨_,rfl,Nat.le_trans MR (by omega)⟩
  ·rw[List.length_reverse] at hh
   have hmem:∀{w':List Int},w'∈g.1.set i g.1[i].reverse->w'∈g.1∨w'=g.1[i].reverse:=mem_set
   refine⟨_,rfl,⟨by rw[List.length_set];exact g1.ne,by rw[List.length_set];exact g1.lw,λw' hw'=>?_,λw' hw'=>?_⟩,by rw[List.length_set];exact g2,by show h.length<=_;omega⟩
   ·rcases hmem hw' with z |z
    ·exact g1.ll _ z
    ·rw[z,List.length_reverse];exact hl
   ·rcases hmem hw' with z |z
    ·exact g1.wp _ z
    ·rw[z]
     exact λx hx=>g1.wp _ (List.getElem_mem hi2) x (List.mem_reverse.mp hx)
 obtain⟨g1,g2,-⟩:=hg
 generalize g.1=vs at g1 g2
 rw[Qz (by omega),Rs.okb]
 refine Ok.bind (Ok.forN (λi (l:List (Int×Int))=>kys l=(List.range i).map λ(k:Nat)=>(k:Int)+1) rfl λi a l ha hl=>?_) λl hl=>?_
 ·obtain⟨rfl,hi⟩:=YH ha
  rw[Yt (r:=sgs) (n:=i) rfl hi]
  simp only[Rs.okb]
  have e:∀s:Int,kys (l++[((i:Int)+1,s)])=(List.range (i+1)).map λ(k:Nat)=>(k:Int)+1:=λs=>by
   unfold kys at hl⊢
   rw[List.map_append,hl,List.range_succ,List.map_append]
   rfl
  have hll:l.length=i:=by
   have:=congrArg List.length hl
   simpa[kys] using this
  refine Ok.bind (R:=λ_=>True) (Ok.ite (λ_=>⟨_,rfl,trivial⟩) λ_=>⟨_,rfl,trivial⟩) λs _=>?_
  rw[Xp (Fi (by omega))]
  exact⟨_,rfl,e s⟩
 rw[Y3] at hl
 obtain⟨j,hj,ej⟩:=hf
 rw[Vi (by decide) (by decide) (by decide) (by decide)]
 simp only[Rs.okb]
 rw[Xp (sz (by simp)),Rs.okb,ej,Rs.okb]
 have hfar:∃f:Int,atR [(1:Int),7,10^(9:Int).toNat] (j:Int)= .ok f/\0<f/\f<2^64:=by
  rcases(show j=0∨j=1∨j=2 by omega) with rfl |rfl |rfl
  ·exact⟨1,ar0,by decide,by decide⟩
  ·exact⟨7,ar1,by decide,by decide⟩
  ·exact⟨_,ar2,by decide,by decide⟩
 obtain⟨f,ef,f0,f1⟩:=hfar
 rw[ef,Rs.okb]
 rw[Qh (h:=λw=>w.map λx=>x*f) (sz (by omega)) λw' hw'=>Qh (h:=λx=>x*f) (sz (by have:=g1.ll _ hw';omega)) λx _=>Qw (by omega) f1,Rs.okb]
 have hll:l.length=m:=by
  have:=congrArg List.length hl
  simp[kys] at this
  omega
 rw[Qh (h:=λe:Int×Int=>(e.1*f,e.2)) (sz (by omega)) λe _=>by rw[Qw (by omega) f1,Rs.okb],Rs.okb]
 have hk:kys (l.map λe:Int×Int=>(e.1*f,e.2))=(List.range sgs.length).map λ(k:Nat)=>((k:Int)+1)*f:=by
  unfold kys at hl⊢
  rw[List.map_map,show((λx:Int×Int=>x.1)∘λe:Int×Int=>(e.1*f,e.2))=(λx=>x*f)∘λx:Int×Int=>x.1 from rfl, ←List.map_map,hl,List.map_map]
  rfl
 refine⟨_,rfl,by omega,by show 1<=(vs.map _).length;rw[List.length_map];exact g1.ne,by show(vs.map _).length<=4;rw[List.length_map];exact g1.lw,λw' hw'=>?_,⟨?_,λe he=>?_⟩,by show(l.map _).length<=_;rw[List.length_map];omega,λw' hw' x hx=>?_⟩
 ·obtain⟨v,hv,rfl⟩:=List.mem_map.mp hw'
  rw[List.length_map]
  exact g1.ll _ hv
 ·have:((l.map λe:Int×Int=>(e.1*f,e.2)).map λx:Int×Int=>x.1).Pairwise (· < ·):=by
   rw[show(l.map λe:Int×Int=>(e.1*f,e.2)).map (λx:Int×Int=>x.1)=_ from hk,List.pairwise_map]
   exact List.pairwise_lt_range.imp fun {a b} h=>Int.mul_lt_mul_of_pos_right (by omega) f0
  exact List.pairwise_map.mp this
 ·have:e.1∈kys (l.map λe:Int×Int=>(e.1*f,e.2)):=List.mem_map_of_mem he
  rw[hk] at this
  obtain⟨k,_,e1⟩:=List.mem_map.mp this
  rw[←e1]
  have:=Int.mul_le_mul_of_nonneg_right (show(1:Int)<=(k:Int)+1 by omega) (Int.le_of_lt f0)
  omega
 ·obtain⟨v,hv,rfl⟩:=List.mem_map.mp hw'
  obtain⟨y,hy,rfl⟩:=List.mem_map.mp hx
  have h:=g1.wp _ hv y hy
  show _∈kys (l.map _)
  rw[hk,L6 f0]
  exact List.mem_map.mpr ⟨y.natAbs-1,List.mem_range.mpr (by omega),by congr 1;omega⟩
theorem MV {r:List Int}{n:Nat}(h:r.length=n+1):atR r (-1)= .ok (r[n]'(by omega)):=by
 unfold atR atI ixN
 rw[if_neg (by omega),if_pos (by omega)]
 simp only[h,Option.bind_some,show(-1+((n+1:Nat):Int)).toNat=n by omega]
 rw[List.getElem?_eq_getElem (by omega)]
theorem RL {l:List Int}(h:l.length<=6):(spl l none (some 3) (Kb [0,1,0] none (some (l.length:Int)))).length=l.length/\(Kb [(0:Int),1,0] none (some (l.length:Int))).length<=3/\∀x∈spl l none (some 3) (Kb [0,1,0] none (some (l.length:Int))),x∈l∨x=0∨x=1:=by
 unfold spl Kb
 rw[HT.sIx_none,HT.sIx_none,HT.sIx_nat,show HT.sIx l.length l.length (some 3)=min 3 l.length from HT.sIx_nat _ _ 3]
 refine⟨?_,?_,λx hx=>?_⟩
 ·simp;omega
 ·simp;omega
 ·rcases List.mem_append.mp hx with hx |hx
  ·rcases List.mem_append.mp hx with hx |hx
   ·exact .inl (List.mem_of_mem_take hx)
   ·have:=List.mem_of_mem_take hx
    simp at this
    omega
  ·exact .inl (List.mem_of_mem_drop hx)
theorem LS {l:List Int}{n:Nat}(h:l.length*n<=1000)(hn:n<=1000):Lp l (n:Int)= .ok (List.replicate n l).flatten:=by
 unfold Lp
 rw[Xp ⟨by omega,by omega,by rw[Int.toNat_natCast];exact sz (by omega)⟩,Int.toNat_natCast]
theorem Ck {l m:List Int}(h:l.length+m.length<=1000):Br l m= .ok (l++m):=Xp (sz (by omega))
noncomputable def zs:List Int:=[7,3,3,3,2,2,2,2,4,2,60,60,4,4,4,2,60,60,4,4,4,2,60,60,4,4,4,2,60,60,4,4,4,2,60,60,4,4,4,2,60,60,4,4,3]
theorem zs9:∀k:Nat,k<6->zs[6*k+9]?=some 2:=by decide
theorem emd {y:Int}{n:Nat}(h:0<n):∃j:Nat,y % (n:Int)=(j:Int)/\j<n:=by
 have h1:=Int.emod_nonneg y (show(n:Int)≠0 by omega)
 have h2:=Int.emod_lt_of_pos y (show(0:Int)<n by omega)
 exact⟨(y % (n:Int)).toNat,by omega,by omega⟩
theorem IP (ns:List Int){p:Int}(hp:0<=p):Ok (F7 ns p) λd=>Dr 0 d.1 d.2:=by
 unfold F7 Fq;dsimp only
 simp only[Rs.okb]
 rw[Xp (sz (by simp)),Rs.okb,Xp (sz (by simp)),Rs.okb,show Lp [(2:Int)] 4= .ok [2,2,2,2] from LS (n:=4) (by simp) (by omega),Rs.okb,Ck (by simp),Rs.okb,Xp (sz (by simp)),Rs.okb,show Lp [(4:Int),2,60,60,4,4] 6=_ from LS (n:=6) (by simp) (by omega),Rs.okb,Ck (by simp),Rs.okb,Xp (sz (by simp)),Rs.okb,Ck (by simp),Rs.okb]
 obtain⟨r,er,rl,hr⟩:=Hj ns hp zs (by decide) (by decide)
 rw[show([(7:Int),3,3,3]++[2,2,2,2]++(List.replicate 6 [(4:Int),2,60,60,4,4]).flatten++[3])=zs from rfl,er,Xz,Rs.okb]
 have rl:r.length=45:=rl
 have hb:∀(i:Nat) (h:i<45) (s:Int),zs[i]?=some s->0<=r[i]/\r[i]<s:=λi h s e=>hr i r[i] s (by simp[rl,h]) e
 obtain⟨b0,c0⟩:=hb 0 (by omega) 7 rfl
 obtain⟨b3,c3⟩:=hb 3 (by omega) 3 rfl
 rw[Yt (r:=r) (k:=3) (n:=3) rfl (by omega),Yt (r:=r) (k:=0) (n:=0) rfl (by omega),Yt (r:=r) (k:=1) (n:=1) rfl (by omega),Yt (r:=r) (k:=2) (n:=2) rfl (by omega)]
 simp only[Rs.okb]
 obtain⟨m,em⟩:∃m:Nat,r[0]=(m:Int):=⟨r[0].toNat,by omega⟩
 obtain⟨S,eS⟩:∃S:Nat,(2:Int)+r[3]=(S:Int):=⟨(2+r[3]).toNat,by omega⟩
 rw[em,eS,Qz (by omega),Rs.okb]
 refine Ok.bind (Ok.forN (λi (g:List Int×List Int×List Int)=>g.1.length=i/\g.2.1.length=i/\g.2.2.length=2*i/\(∀x∈g.1,0<=x/\x+1<(S:Int))/\(∀x∈g.2.1,x=1∨x= -1)/\Wp m g.2.2) ⟨rfl,rfl,rfl,λx hx=>(by cases hx),λx hx=>(by cases hx),λx hx=>by cases hx⟩ λi a g ha hg=>?_) λg hg=>?_
 ·obtain⟨rfl,hi⟩:=YH ha
  obtain⟨g1,g2,g3,g4,g5,g6⟩:=hg
  rw[YR (by decide) (by decide)]
  simp only[Rs.okb]
  rw[Yt (r:=r) (n:=6*i+8) (by omega) (by omega)]
  simp only[Rs.okb]
  rw[Yt (r:=r) (n:=6*i+9) (by omega) (by omega)]
  simp only[Rs.okb]
  obtain⟨d0,d1⟩:=hb (6*i+9) (by omega) 2 (zs9 i (by omega))
  obtain⟨j,ej,hj⟩:=emd (y:=r[6*i+8]) (n:=S-1) (by omega)
  rw[show((S-1:Nat):Int)=(S:Int)-1 by omega] at ej
  rw[Yc (by omega),Rs.okb,ej,YR (by decide) (by decide)]
  simp only[Rs.okb]
  rw[Xp (Fi (by omega)),Xp (Fi (by omega)),Xp (sz (by simp)),Rs.okb,Xp (sz (by simp;omega))]
  refine⟨_,rfl,by simp[g1],by simp[g2],by simp;omega,λx hx=>?_,λx hx=>?_,λx hx=>?_⟩
  ·rcases List.mem_append.mp hx with z |z
   ·exact g4 x z
   ·rw[List.mem_singleton.mp z];omega
  ·rcases List.mem_append.mp hx with z |z
   ·exact g5 x z
   ·rw[List.mem_singleton.mp z];omega
  ·rcases List.mem_append.mp hx with z |z
   ·exact g6 x z
   ·have:x=(i:Int)+1∨x= -(i:Int)-1:=by simpa using z
    omega
 rw[Y3] at hg
 obtain⟨g1,g2,g3,g4,g5,g6⟩:=hg
 refine Ok.bind (R:=λl:List Int=>l.length=m/\∀x∈l,0<=x/\x+1<(S:Int)) ?_ λl hl=>?_
 ·rw[LQ (c:=decide ((2:Int)<(S:Int))) λ_=>rfl,Rs.okb]
  refine Ok.ite (λhb=>?_) λ_=>⟨_,rfl,g1,g4⟩
  have h3:(2:Int)<(S:Int):=by
   simp only[Bool.and_eq_true,decide_eq_true_eq] at hb
   exact hb.2
  obtain⟨y1,y2,y3⟩:=RL (l:=g.1) (by omega)
  rw[Xp (sz (by simp)),Rs.okb,Rs.okb,Xp (sz (by omega))]
  refine⟨_,rfl,by omega,λx hx=>?_⟩
  rcases y3 x hx with z |z
  ·exact g4 x z
  ·omega
 obtain⟨ws,ew,hw⟩:=Hc hl.1 g2 (by omega) (by omega) (by omega) hl.2 g5
 rw[ew,Xz,Rs.okb]
 obtain⟨b44,c44⟩:=hb 44 (by omega) 3 rfl
 obtain⟨q,hq⟩:∃q:Nat,r[44]=(q:Int):=⟨r[44].toNat,(Int.toNat_of_nonneg b44).symm⟩
 have e44:atR r (-1)= .ok (q:Int):=(MV (n:=44) rl).trans (congrArg Rs.ok hq)
 refine Ok.bind (R:=Wk m) ?_ λvs hv=>(Fg hv g2 (by omega) (by omega) ⟨q,by omega,e44⟩).noE
 refine Ok.ite (λ_=>?_) λ_=>⟨_,rfl,hw⟩
 rw[Qz (by omega),Rs.okb,Qh (h:=λ_=>([]:List Int)) (sz (by simp;omega)) λ_ _=>rfl]
 simp only[Rs.okb]
 rw[YR (by decide) (by decide),Rs.okb,show(2:Int)*(m:Int)=((2*m:Nat):Int) by omega,Qz (by omega)]
 simp only[Rs.okb]
 refine Ok.bind (Ok.forN (λi (g:List Int×List (List Int))=>g.2.length=S/\g.1.length+i=2*m/\Wp m g.1/\∀w∈g.2,w.length<=i/\Wp m w) ⟨by simp,by omega,g6,λw hw=>?_⟩ λi a g ha hg=>?_) λg hg=>?_
 ·obtain⟨_,_,rfl⟩:=List.mem_map.mp hw
  exact⟨Nat.zero_le _,λx hx=>by cases hx⟩
 ·obtain⟨rfl,hi⟩:=YH ha
  obtain⟨h1,h2,h3,h4⟩:=hg
  rw[BC (by decide) (by decide),Rs.okb,YR (by decide) (by decide),Rs.okb,Yc (by decide)]
  simp only[Rs.okb]
  rw[Yt (r:=r) (n:=6*(i/2)+i % 2+10) (by omega) (by omega),Yt (r:=r) (n:=6*(i/2)+i % 2+12) (by omega) (by omega)]
  simp only[Rs.okb]
  obtain⟨j,ej,hj⟩:=emd (y:=r[6*(i/2)+i % 2+10]) (n:=g.1.length) (by omega)
  obtain⟨q,eq,hq⟩:=emd (y:=r[6*(i/2)+i % 2+12]) (n:=S) (by omega)
  rw[Yc (by omega),Rs.okb,ej,OP hj (by omega),Rs.okb,Yc (by omega),Rs.okb,eq]
  have hq:q<g.2.length:=by omega
  have hw:=h4 g.2[q] (List.getElem_mem hq)
  rw[Yt (n:=q) rfl hq,Rs.okb,Xp (Fi (by omega)),YL hq,Rs.okb]
  have hx:=h3 g.1[j] (List.getElem_mem hj)
  refine⟨_,rfl,by simp[h1],?_,λx hx=>h3 x (List.mem_of_mem_eraseIdx hx),λw hw'=>?_⟩
  ·show(g.1.eraseIdx j).length+(i+1)=_
   rw[List.length_eraseIdx,if_pos hj]
   omega
  ·rcases mem_set hw' with h |h
   ·have:=h4 w h;exact⟨by omega,this.2⟩
   ·rw[h];exact⟨by simp;omega,hw.2.app hx.1 hx.2⟩
 ·obtain⟨h1,h2,h3,h4⟩:=hg
  rw[Y3] at h2 h4
  exact⟨_,rfl,by omega,by omega,λw hw=>by have:=(h4 w hw).1;omega,λw hw=>(h4 w hw).2⟩
section
variable {n:Nat}{ws:List (List Int)}{sg:List (Int×Int)}
structure Sm (x0 x1 x2 x3 x4 x5 x6 x7 x8:Int):Prop where
 h1:0<=x1/\x1<41
 h4:0<=x4/\x4<60
 h5:0<=x5/\x5<60
 h6:x6=0∨x6=1
 h7:x7=0∨x7=1
variable {x0 x1 x2 x3 x4 x5 x6 x7 x8:Int}
theorem LT {y:Int}:∃j:Nat,y % 4=(j:Int)/\∃f,atR [(1:Int),1,10^(9:Int).toNat,10^(40:Int).toNat] (j:Int)= .ok f/\1<=f:=by
 obtain⟨j,e,h⟩:=emd (y:=y) (n:=4) (by omega)
 refine⟨j,e,?_⟩
 rcases(show j=0∨j=1∨j=2∨j=3 by omega) with rfl |rfl |rfl |rfl
 ·exact⟨1,ar0,by decide⟩
 ·exact⟨1,ar1,by decide⟩
 ·exact⟨_,ar2,by decide⟩
 ·exact⟨_,ar3,by decide⟩
theorem Dl (d:Dr n ws sg)(h:Sm x0 x1 x2 x3 x4 x5 x6 x7 x8):Ok (EJ (ws,sg) [x0,x1,x2,x3,x4,x5,x6,x7,x8]) λm=>∃ (i k:Nat) (c:Int) (o:Bool) (s:Int),m=FX i k c o s/\i<ws.length/\k<=(gw ws i).length/\c∉kys sg/\1<=c/\(s=1∨s= -1):=by
 unfold EJ BJ;dsimp only
 simp only[Rs.okb,ar0,ar1,ar4,ar6,ar7,ar8]
 obtain⟨i,ei,hi⟩:=emd (y:=x0) (n:=ws.length) (by have:=d.ne;omega)
 rw[Yc (by have:=d.ne;omega),Rs.okb,ei,Q9 hi]
 simp only[Rs.okb]
 obtain⟨k,ek,hk⟩:=emd (y:=x1) (n:=(gw ws i).length+1) (by omega)
 rw[Yc (by omega),Rs.okb,show((gw ws i).length:Int)+1=(((gw ws i).length+1:Nat):Int) by omega,ek]
 rw[Vi (by decide) (by decide) (by decide) (by decide),Vi (by decide) (by decide) (by decide) (by decide)]
 simp only[Rs.okb]
 obtain⟨j,ej,f,ef,hf⟩:=LT (y:=x8)
 rw[Xp (sz (by simp)),Rs.okb,Yc (by decide),Rs.okb,ej,ef,Rs.okb]
 have h4:=h.h4
 rw[YR (by omega) (by omega)]
 simp only[Rs.okb,d.gs.dict]
 obtain⟨c,ec,hc,hc2⟩:=Ef (d:=sg) (n:=1+x4*f)
 rw[ec,Xz,Rs.okb]
 rw[Xp (sz (by simp)),Rs.okb,YR (by decide) (by decide)]
 simp only[Rs.okb]
 have e6:∃o:Bool,atR [("under":Str),"over"] x6= .ok (ovw o):=by
  rcases h.h6 with z |z
  ·rw[z];exact⟨false,ar0⟩
  ·rw[z];exact⟨true,ar1⟩
 obtain⟨o,eo⟩:=e6
 rw[eo]
 simp only[Rs.okb]
 rw[Xp (sz (by simp))]
 have:=Int.mul_nonneg h4.1 (show 0<=f by omega)
 exact⟨_,rfl,i,k,c,o,2*x7-1,rfl,hi,by omega,hc2,by omega,by rcases h.h7 with z |z<;> omega⟩
theorem Pr (d:Dr n ws sg)(h:Sm x0 x1 x2 x3 x4 x5 x6 x7 x8):Ok (Nl (ws,sg) [x0,x1,x2,x3,x4,x5,x6,x7,x8]) λm=>∃ (i k j l:Nat) (a b:Int) (c:Bool) (s:Int),m=PM i k j l a b c s/\LayOk n ws sg i k j l a b s:=by
 unfold Nl Ny;dsimp only
 simp only[Rs.okb,ar0,ar1,ar2,ar3,ar4,ar5,ar6,ar7,ar8]
 obtain⟨i,ei,hi⟩:=emd (y:=x0) (n:=ws.length) (by have:=d.ne;omega)
 obtain⟨j,ej,hj⟩:=emd (y:=x2) (n:=ws.length) (by have:=d.ne;omega)
 rw[Yc (by have:=d.ne;omega),Rs.okb,ei,Q9 hi]
 simp only[Rs.okb]
 obtain⟨k,ek,hk⟩:=emd (y:=x1) (n:=(gw ws i).length+1) (by omega)
 rw[Yc (by omega),Rs.okb,show((gw ws i).length:Int)+1=(((gw ws i).length+1:Nat):Int) by omega,ek,Yc (by have:=d.ne;omega),Rs.okb,ej,Q9 hj]
 simp only[Rs.okb]
 have l1:=d.l hi
 have l2:=d.l hj
 rw[Xp (by omega),Rs.okb]
 refine Ok.bind (R:=λg:List Int=>0<g.length/\∀x∈g,∃l:Nat,x=(l:Int)/\l<=(gw ws j).length+(if j=i then 2 else 0)/\(j=i->l≠k+1)) ?_ λg hg=>?_
 ·by_cases e:j=i
  ·subst e
   rw[show decide ((j:Int)=(j:Int))=true by simp,okt,show((gw ws j).length:Int)+3=(((gw ws j).length+3:Nat):Int) by omega,Qz (by omega),Rs.okb,FE (p:=λa:Int=>!decide (a=(k:Int)+1)) (h:=λe=>e) (sz (by simp;omega)) (λ_ _=>rfl) λ_ _ _=>rfl,List.map_id',Rs.okb]
   refine⟨_,rfl,List.length_pos_iff_exists_mem.mpr ⟨0,List.mem_filter.mpr ⟨List.mem_map.mpr ⟨0,List.mem_range.mpr (by omega),rfl⟩,?_⟩⟩,λx hx=>?_⟩
   ·simp;omega
   ·obtain⟨hx,hy⟩:=List.mem_filter.mp hx
    obtain⟨l,hl,rfl⟩:=HD hx
    have hy:¬((l:Int)=(k:Int)+1):=by simpa using hy
    exact⟨l,rfl,by rw[if_pos rfl];omega,λ_=>by omega⟩
  ·rw[show decide ((j:Int)=(i:Int))=false by simp;omega,okf]
   refine⟨_,rfl,?_,λx hx=>?_⟩
   ·simp[Jo]
   ·obtain⟨l,hl,rfl⟩:=List.mem_map.mp hx
    have:=List.mem_range.mp hl
    exact⟨l,by omega,by rw[if_neg e];omega,λz=>absurd z e⟩
 obtain⟨g0,hg⟩:=hg
 rw[Vi (by decide) (by decide) (by decide) (by decide),Vi (by decide) (by decide) (by decide) (by decide)]
 simp only[Rs.okb]
 obtain⟨q,eq,f,ef,hf⟩:=LT (y:=x8)
 rw[Xp (sz (by simp)),Rs.okb,Yc (by decide),Rs.okb,eq,ef,Rs.okb]
 have h4:=h.h4
 have h5:=h.h5
 rw[YR (by omega) (by omega)]
 simp only[Rs.okb,d.gs.dict]
 obtain⟨a,ea,ha,ha2⟩:=Ef (d:=sg) (n:=1+x4*f)
 rw[ea,Xz,Rs.okb,Xp (Fi (by have:=d.ls;have:=d.n3;omega)),JA ha2]
 obtain⟨b,eb,hb,hb2⟩:=Ef (d:=sg++[(a,1)]) (n:=1+x5)
 rw[eb,Xz,Rs.okb]
 obtain⟨u,eu,hu⟩:=emd (y:=x3) (n:=g.length) g0
 rw[Yc (by omega),Rs.okb,eu,Yt (n:=u) rfl hu,Rs.okb,YR (by decide) (by decide)]
 simp only[Rs.okb]
 rw[Xp (sz (by simp))]
 obtain⟨l,el,hl,hl2⟩:=hg _ (List.getElem_mem hu)
 rw[el]
 have:=Int.mul_nonneg h4.1 (show 0<=f by omega)
 have hb3:b∉kys sg/\a≠b:=by
  constructor
  ·exact λz=>hb2 (by unfold kys at z⊢;rw[List.map_append];exact List.mem_append_left _ z)
  ·exact λz=>hb2 (by unfold kys;rw[List.map_append,z];exact List.mem_append_right _ (by simp))
 exact⟨_,rfl,i,k,j,l,a,b,decide (x6=0),2*x7-1,rfl,d,hi,by omega,hj,hl,hl2,⟨by omega,ha2⟩,⟨by omega,hb3.1⟩,hb3.2,by rcases h.h7 with z |z<;> omega⟩
end
section
variable {n:Nat}{ws:List (List Int)}{sg:List (Int×Int)}
inductive Mv (n:Nat)(ws:List (List Int))(sg:List (Int×Int)):List Mx->Prop
 |turn {i:Nat}{s:Int} (hi:i<ws.length):Mv n ws sg [.s "turn", .i i, .i s]
 |curl {i k:Nat}{c s:Int}{o:Bool} (hi:i<ws.length) (hk:k<=(gw ws i).length) (hc:c∉kys sg) (h1:1<=c) (hs:s=1∨s= -1):Mv n ws sg (FX i k c o s)
 |lay {i k j l:Nat}{a b s:Int}{c:Bool} (h:LayOk n ws sg i k j l a b s):Mv n ws sg (PM i k j l a b c s)
 |pass {p q r:Q4} (h:PassC ws sg p q r):Mv n ws sg (Eu p q r)
theorem Dr.up (d:Dr n ws sg)(h:n<=2):Dr (n+1) ws sg:=⟨by omega,d.ne,d.lw,λw hw=>by have:=d.ll w hw;omega,d.gs,by have:=d.ls;omega,d.ky⟩
theorem PQ.at2 {q:Q4}(h:PQ ws q):∃i k:Nat,q.1=(i:Int)/\q.2.1=(k:Int)/\At2 ws i k:=by
 obtain⟨i,k,h1,h2,h3,h4,h5⟩:=h.ex
 exact⟨i,k,h1,h2,h3,(List.getElem?_eq_some_iff.mp h5).1⟩
theorem Mv.do (d:Dr n ws sg)(hn:n<=2){m:List Mx}(h:Mv n ws sg m):∃ws' sg',FV (ws,sg) m= .ok (ws',sg')/\Dr (n+1) ws' sg':=by
 cases h with
 |turn hi=>exact⟨_,_,BE d hi,(d.turn hi).up hn⟩
 |curl hi hk hc h1 hs=>exact⟨_,_,Dg d hi hk hc h1,d.curl hn hi hk hc h1⟩
 |lay h=>exact⟨_,_,Ov h,Dr.lay h hn⟩
 |pass h=>
  obtain⟨i,k,a1,a2,a3⟩:=h.hp.at2
  obtain⟨j,l,b1,b2,b3⟩:=h.hq.at2
  obtain⟨u,v,c1,c2,c3⟩:=h.hr.at2
  unfold Eu
  rw[a1,a2,b1,b2,c1,c2]
  exact⟨_,_,Mi d a3 b3 c3,(d.pass a3 b3 c3).up hn⟩
theorem SA {l:List Int}(h:l.length=9):∃x0 x1 x2 x3 x4 x5 x6 x7 x8,l=[x0,x1,x2,x3,x4,x5,x6,x7,x8]:=
 ⟨l[0],l[1],l[2],l[3],l[4],l[5],l[6],l[7],l[8],List.ext_getElem h λi h1 h2=>by
  rcases(show i=0∨i=1∨i=2∨i=3∨i=4∨i=5∨i=6∨i=7∨i=8 by omega) with rfl |rfl |rfl |rfl |rfl |rfl |rfl |rfl |rfl<;> rfl⟩
theorem Oj (ns:List Int){p:Int}(hp:0<=p):∃x0 x1 x2 x3 x4 x5 x6 x7 x8,IF ns p [12,41,12,41,60,60,2,2,60]= .ok [x0,x1,x2,x3,x4,x5,x6,x7,x8]/\Sm x0 x1 x2 x3 x4 x5 x6 x7 x8:=by
 obtain⟨r,er,rl,hr⟩:=Hj ns hp [12,41,12,41,60,60,2,2,60] (by decide) (by decide)
 obtain⟨x0,x1,x2,x3,x4,x5,x6,x7,x8,rfl⟩:=SA rl
 have h6:=hr 6 x6 2 rfl rfl
 have h7:=hr 7 x7 2 rfl rfl
 exact⟨x0,x1,x2,x3,x4,x5,x6,x7,x8,er,hr 1 x1 41 rfl rfl,hr 4 x4 60 rfl rfl,hr 5 x5 60 rfl rfl,by omega,by omega⟩
theorem RO (ns:List Int){p:Int}(hp:0<=p)(d:Dr n ws sg){w:Str}(hw:w= "turn" ∨w= "curl" ∨w= "lay" ∨w= "pass"):Ok (CD ns p (ws,sg) w) λx=>x.1=(ws,sg)/\Mv n ws sg x.2/\(x.2.head?=some (.s w)∨w= "pass" /\x.2.head?=some (.s "curl")):=by
 obtain⟨x0,x1,x2,x3,x4,x5,x6,x7,x8,er,h⟩:=Oj ns hp
 unfold CD Ia;dsimp only
 simp only[Rs.okb]
 rw[Xp (sz (by simp)),Rs.okb,er,Xz,Rs.okb]
 rcases hw with rfl |rfl |rfl |rfl
 ·rw[EY,okt]
  simp only[ar0,ar1,ar8,Rs.okb]
  rw[Vi (by decide) (by decide) (by decide) (by decide)]
  simp only[Rs.okb]
  obtain⟨i,ei,hi⟩:=emd (y:=x0) (n:=ws.length) (by have:=d.ne;omega)
  obtain⟨j,ej,hj⟩:=emd (y:=x8) (n:=3) (by omega)
  have e3:∃f,atR [(1:Int),1,10^(50:Int).toNat+7] (j:Int)= .ok f:=by
   rcases(show j=0∨j=1∨j=2 by omega) with rfl |rfl |rfl
   ·exact⟨_,ar0⟩
   ·exact⟨_,ar1⟩
   ·exact⟨_,ar2⟩
  obtain⟨f,ef⟩:=e3
  have h1:=h.h1
  rw[Xp (sz (by simp)),Rs.okb,Yc (by decide),Rs.okb,show x8 % 3=(j:Int) from ej,ef,Rs.okb,YR (by omega) (by omega),Rs.okb,Yc (by have:=d.ne;omega),Rs.okb,ei]
  simp only[Rs.okb]
  rw[Xp (sz (by simp))]
  exact⟨_,rfl,rfl, .turn hi, .inl rfl⟩
 ·simp only[ZP,ZK,J0,Qx,ZN,Bool.false_eq_true,if_false,Rs.okb,JB]
  exact Ok.bind (Dl d h).noE λm ⟨i,k,c,o,s,e,h1,h2,h3,h4,h5⟩=>⟨_,rfl,rfl,e▸ .curl h1 h2 h3 h4 h5, .inl (by rw[e];rfl)⟩
 ·simp only[J3,Kd,decide_true,Bool.false_eq_true,if_false,if_true,Rs.okb,JB]
  exact Ok.bind (Pr d h).noE λm ⟨i,k,j,l,a,b,c,s,e,h1⟩=>⟨_,rfl,rfl,e▸ .lay h1, .inl (by rw[e];rfl)⟩
 ·simp only[QR,decide_true,Bool.false_eq_true,if_false,if_true,Kc,Vk,Jq]
  obtain⟨l,el,hl⟩:=BH d
  rw[el,Xz,Rs.okb]
  cases l with
  |nil=>
   simp only[show decide ((0:Int)<(([]:List (List Mx)).length:Int))=false from rfl,Bool.false_eq_true,if_false,Rs.okb,JB]
   exact Ok.bind (Dl d h).noE λm ⟨i,k,c,o,s,e,h1,h2,h3,h4,h5⟩=>⟨_,rfl,rfl,e▸ .curl h1 h2 h3 h4 h5, .inr ⟨trivial,by rw[e];rfl⟩⟩
  |cons m0 l0=>
   have hp:0<(m0::l0).length:=by simp
   generalize m0::l0=l at*
   rw[show decide ((0:Int)<(l.length:Int))=true by simp;omega,okt,ar8]
   obtain⟨j,ej,hj⟩:=emd (y:=x8) (n:=l.length) hp
   rw[Rs.okb,Yc (by omega),Rs.okb,ej,Yt (n:=j) rfl hj]
   simp only[Rs.okb,B5]
   obtain⟨p,q,r,e,hh⟩:=hl.2 _ (List.getElem_mem hj)
   exact⟨_,rfl,rfl,by show Mv n ws sg l[j];rw[e];exact .pass hh, .inl (by show l[j].head?=_;rw[e];rfl)⟩
end
section
variable {n:Nat}{ws:List (List Int)}{sg:List (Int×Int)}
theorem M8 (ns:List Int){wds:List Str}(h0:0<wds.length)(h1:wds.length<=100):∃n ws sg w,n<=1/\Dr n ws sg/\w∈wds/\EC ns wds=noE (CD ns 3 (ws,sg) w):=by
 unfold EC BB;dsimp only
 simp only[Rs.okb]
 obtain⟨r,er,rl,hr⟩:=Hj ns (show(0:Int)<=1 by decide) [60,60,3] (by decide) (by decide)
 have rl:r.length=3:=rl
 obtain⟨⟨ws,sg⟩,eb,d⟩:=IP ns (show(0:Int)<=0 by decide)
 rw[Xp (sz (by simp)),Rs.okb,er,Xz,Rs.okb,eb,Xz,Rs.okb,Yt (r:=r) (k:=0) (n:=0) rfl (by omega),Yt (r:=r) (k:=1) (n:=1) rfl (by omega),Yt (r:=r) (k:=2) (n:=2) rfl (by omega)]
 simp only[Rs.okb]
 obtain⟨u,eu,hu⟩:=emd (y:=r[0]) (n:=wds.length) h0
 rw[Yc (a:=r[0]) (by omega),Rs.okb,eu,Yt (n:=u) rfl hu]
 simp only[Rs.okb]
 cases decide (r[2]=0) with
 |false=>exact⟨0,ws,sg,_,by omega,d,List.getElem_mem hu,rfl⟩
 |true=>
  rw[okt,Xp (sz (by simp)),Rs.okb,Yc (a:=r[1]) (by decide),Rs.okb]
  obtain⟨j,ej,hj⟩:=emd (y:=r[1]) (n:=4) (by omega)
  have e4:∃w:Str,atR [("turn":Str),"curl","lay","pass"] (j:Int)= .ok w/\(w= "turn" ∨w= "curl" ∨w= "lay" ∨w= "pass"):=by
   rcases(show j=0∨j=1∨j=2∨j=3 by omega) with rfl |rfl |rfl |rfl
   ·exact⟨_,ar0, .inl rfl⟩
   ·exact⟨_,ar1, .inr (.inl rfl)⟩
   ·exact⟨_,ar2, .inr (.inr (.inl rfl))⟩
   ·exact⟨_,ar3, .inr (.inr (.inr rfl))⟩
  obtain⟨w,ew,hw⟩:=e4
  rw[show r[1] % 4=(j:Int) from ej,ew,Rs.okb]
  obtain⟨⟨x1,x2⟩,es,e1,hm,-⟩:=RO ns (show(0:Int)<=2 by decide) d hw
  obtain⟨ws',sg',ed,d'⟩:=hm.do d (by omega)
  have e1:x1=(ws,sg):=e1
  subst e1
  rw[es,Xz,Rs.okb]
  rw[show FV ((ws,sg),x2).1 ((ws,sg),x2).2=_ from ed,Xz,Rs.okb]
  exact⟨1,ws',sg',_,by omega,d',List.getElem_mem hu,rfl⟩
theorem K6 {D:List (List Int)×List (Int×Int)}:QD D= .ok true:=by
 unfold QD Qs;dsimp only
 unfold Ke J5;dsimp only
 simp only[Rs.okb,Bool.not_true,orF,okf,Bool.false_eq_true,if_false,Xz,EB,Bool.not_false,decide_true,List.length_cons,List.length_nil]
 rw[VH λa _=>by rw[VH λb _=>rfl];rfl,Rs.okb,JB,VH λb _=>rfl]
 rfl
theorem Dw {m:List Mx}{D:List (List Int)×List (Int×Int)}(hw:ws.length<=10)(h1:FV (ws,sg) m= .ok D)(h2:Ju (ws,sg) m= .ok D)(hl:D.1.length<=10)(hl1:∀w∈D.1,w.length<=100)(hl2:D.2.length<=100):Gi (ws,sg) m= .ok true:=by
 have ec:Eb (ws,sg)= .ok (ws,sg):=by
  unfold Eb HE;dsimp only
  simp only[Rs.okb]
  rw[Z3 (by omega),Rs.okb]
 unfold Gi Fm;dsimp only
 simp only[Rs.okb]
 rw[h1,Xz,Rs.okb,ec,Xz,Rs.okb,h2,Xz,Rs.okb]
 simp only[K6,Xz,Rs.okb,decide_true,Bool.not_true,orF,Bool.false_eq_true,if_false]
 rw[Xp λw hw=>Fi (by have:=hl1 w hw;omega),Xp (Fi (by omega)),Qh (h:=λw=>w++[7]) (sz (by omega)) λw hw=>by
  rw[Xp (sz (by simp)),Rs.okb,Ck (by have:=hl1 w hw;simp;omega)],Rs.okb]
 simp only[decide_true,Bool.not_true,Bool.false_eq_true,if_false]
 rw[Xp (Fi (by omega)),h2,Xz,Rs.okb,decide_eq_true rfl]
 rfl
theorem Ox (ns:List Int){p:Int}(hp:0<=p)(d:Dr n ws sg)(hn:n<=2):Ok (CD ns p (ws,sg) "uncurl") λx=>∃ (ws':List (List Int)) (sg':List (Int×Int)) (i k:Nat) (c:Int),x=((ws',sg'),[.s "uncurl", .i i, .i k])/\Dr (n+1) ws' sg'/\i<ws'.length/\(gw ws' i)[k]?=some c/\(gw ws' i)[k+1]?=some (-c):=by
 obtain⟨x0,x1,x2,x3,x4,x5,x6,x7,x8,er,h⟩:=Oj ns hp
 unfold CD Ia;dsimp only
 simp only[Rs.okb]
 rw[Xp (sz (by simp)),Rs.okb,er,Xz,Rs.okb]
 simp only[ZM,ZL,QC,Zw,Bool.false_eq_true,if_false,if_true,decide_true,Rs.okb,JB]
 refine Ok.bind (Dl d h).noE λm r9=>?_
 obtain⟨i,k,c,o,s,e,h1,h2,h3,h4,h5⟩:=r9
 subst e
 rw[Dg d h1 h2 h3 h4,Xz,Rs.okb]
 unfold FX
 simp only[ar1,ar2,Rs.okb,mxI]
 rw[Xp (sz (by simp)),Rs.okb]
 refine⟨_,rfl,_,_,i,k,if o=true then c else-c,rfl,d.curl hn h1 h2 h3 h4,by rw[Y0];exact h1,?_⟩
 rw[Da h1]
 cases o with
 |true=>exact Lo h2
 |false=>have:=Lo (a:=-c) (b:=c) h2;rw[if_neg Bool.false_ne_true,Int.neg_neg];exact this
end
section
variable {n:Nat}{ws:List (List Int)}{sg:List (Int×Int)}
theorem Dr.right (d:Dr n ws sg){n':Nat}{ws':List (List Int)}{sg':List (Int×Int)}(d':Dr n' ws' sg'){m:List Mx}(h1:FV (ws,sg) m= .ok (ws',sg'))(h2:Ju (ws,sg) m= .ok (ws',sg')):Gi (ws,sg) m= .ok true:=
 Dw d.lw' h1 h2 d'.lw' (λw hw=>by have:=d'.ll w hw;have:=d'.n3;omega) (by have:=d'.ls;have:=d'.n3;show sg'.length<=100;omega)
theorem Og (d:Dr n ws sg){i k:Nat}{x:Int}(hi:i<ws.length):(Lw ws i k).length<=10/\(∀w∈Lw ws i k,w.length<=100)/\(Gc sg x).length<=100:=by
 refine⟨by rw[IT];exact d.lw',λw hw=>?_,?_⟩
 ·rcases mem_set hw with z |z
  ·have:=d.ll w z;have:=d.n3;omega
  ·have:=d.l hi
   rw[z]
   unfold Sf
   simp
   omega
 ·have:(Gc sg x).length<=sg.length:=List.length_filter_le ..
  have:=d.ls;have:=d.n3;omega
end
theorem IK (ns:List Int)(_:ns.length<=63):Ep ns= .ok true:=by
 unfold Ep MD;dsimp only
 simp only[Rs.okb]
 obtain⟨n,ws,sg,w,hn,d,hw,e⟩:=M8 ns (wds:=[("turn":Str),"curl","uncurl"]) (by simp) (by simp)
 rw[Xp (sz (by simp)),Rs.okb,e]
 have hw:w= "turn" ∨w= "curl" ∨w= "uncurl":=by simpa using hw
 rcases hw with rfl |rfl |rfl
 ·obtain⟨⟨x1,x2⟩,es,e1,hm,hh⟩:=RO ns (show(0:Int)<=3 by decide) d (.inl rfl)
  have e1:x1=(ws,sg):=e1
  subst e1
  rw[es,Xz,Xz,Rs.okb]
  have hh:=hh.resolve_right λz=>of_decide_eq_false QW z.1
  cases hm with
  |turn hi=>exact Lf (d.right (d.turn hi) (BE d hi) (BY d hi))
  |curl=>exact absurd (Mx.s.inj (Option.some.inj hh)) (of_decide_eq_false ZP)
  |lay=>exact absurd (Mx.s.inj (Option.some.inj hh)) (of_decide_eq_false J3)
  |pass=>exact absurd (Mx.s.inj (Option.some.inj hh)) (of_decide_eq_false QR)
 ·obtain⟨⟨x1,x2⟩,es,e1,hm,hh⟩:=RO ns (show(0:Int)<=3 by decide) d (.inr (.inl rfl))
  have e1:x1=(ws,sg):=e1
  subst e1
  rw[es,Xz,Xz,Rs.okb]
  have hh:=hh.resolve_right λz=>of_decide_eq_false ZK z.1
  cases hm with
  |turn=>exact absurd (Mx.s.inj (Option.some.inj hh)) (of_decide_eq_false QU)
  |curl hi hk hc h1 hs=>exact Lf (d.right (d.curl (by omega) hi hk hc h1) (Dg d hi hk hc h1) (Hr d hi hk hc h1 hs))
  |lay=>exact absurd (Mx.s.inj (Option.some.inj hh)) (of_decide_eq_false Kt)
  |pass=>exact absurd (Mx.s.inj (Option.some.inj hh)) (of_decide_eq_false Uf)
 ·obtain⟨x,es,ws',sg',i,k,c,rfl,d',hi,h1,h2⟩:=Ox ns (show(0:Int)<=3 by decide) d (by omega)
  obtain⟨l1,l2,l3⟩:=Og d' (k:=k) (x:=(c.natAbs:Int)) hi
  rw[es,Xz,Xz,Rs.okb,Dw d'.lw' (E1 d' hi h1 h2) (Dj d' hi h1 h2) l1 l2 l3]
  rfl
theorem Lj {K:PySem.W.Frag}{mg:Str->Option Value}{h:Heap}(X:K.In h)(G:h.Ns mainGlobals mg){x p0:Str}{st:Stmt}{f:Addr}{oc:Value}{od an:Option Addr}{osl:Array (Option Value)}{kV doc pm cdv ct:Value}(hb:∀(kV doc pm:Value) (an:Option Addr) (cdv ct u0:Value),bindArgs (PySem.W.fnOf x x (Yx st) (X6 st) (Xj st) .none kV doc pm an cdv ct) ⟨[u0],[]⟩=pure ([p0].zip [u0]))(a:PySem.W.nsIn K mainGlobals x=some (some (.ref f)))(l:K.lookup f=some ⟨oc,od, .func (PySem.W.fnOf x x (Yx st) (X6 st) (Xj st) .none kV doc pm an cdv ct),osl⟩)(c:PySem.W.codeIn K cdv x=true)(k:PySem.W.keepIn K (.ref f)=true):Def K mg x st [p0]:=⟨f,_,QF l c k,(QF l c k).binds λ_ _ _ _ _ _ us hl=>(by obtain⟨_,rfl⟩:=Os hl;exact hb ..),PySem.W.mg_of X G a⟩
theorem JL {K:PySem.W.Frag}{mg:Str->Option Value}{h:Heap}(X:K.In h)(G:h.Ns mainGlobals mg){x p0 p1:Str}{st:Stmt}{f:Addr}{oc:Value}{od an:Option Addr}{osl:Array (Option Value)}{kV doc pm cdv ct:Value}(hb:∀(kV doc pm:Value) (an:Option Addr) (cdv ct u0 u1:Value),bindArgs (PySem.W.fnOf x x (Yx st) (X6 st) (Xj st) .none kV doc pm an cdv ct) ⟨[u0,u1],[]⟩=pure ([p0,p1].zip [u0,u1]))(a:PySem.W.nsIn K mainGlobals x=some (some (.ref f)))(l:K.lookup f=some ⟨oc,od, .func (PySem.W.fnOf x x (Yx st) (X6 st) (Xj st) .none kV doc pm an cdv ct),osl⟩)(c:PySem.W.codeIn K cdv x=true)(k:PySem.W.keepIn K (.ref f)=true):Def K mg x st [p0,p1]:=⟨f,_,QF l c k,(QF l c k).binds λ_ _ _ _ _ _ us hl=>(by obtain⟨_,_,rfl⟩:=OB hl;exact hb ..),PySem.W.mg_of X G a⟩
theorem Lr {K:PySem.W.Frag}{mg:Str->Option Value}{h:Heap}(X:K.In h)(G:h.Ns mainGlobals mg){x p0 p1 p2:Str}{st:Stmt}{f:Addr}{oc:Value}{od an:Option Addr}{osl:Array (Option Value)}{kV doc pm cdv ct:Value}(hb:∀(kV doc pm:Value) (an:Option Addr) (cdv ct u0 u1 u2:Value),bindArgs (PySem.W.fnOf x x (Yx st) (X6 st) (Xj st) .none kV doc pm an cdv ct) ⟨[u0,u1,u2],[]⟩=pure ([p0,p1,p2].zip [u0,u1,u2]))(a:PySem.W.nsIn K mainGlobals x=some (some (.ref f)))(l:K.lookup f=some ⟨oc,od, .func (PySem.W.fnOf x x (Yx st) (X6 st) (Xj st) .none kV doc pm an cdv ct),osl⟩)(c:PySem.W.codeIn K cdv x=true)(k:PySem.W.keepIn K (.ref f)=true):Def K mg x st [p0,p1,p2]:=⟨f,_,QF l c k,(QF l c k).binds λ_ _ _ _ _ _ us hl=>(by obtain⟨_,_,_,rfl⟩:=PB hl;exact hb ..),PySem.W.mg_of X G a⟩
theorem PN {K:PySem.W.Frag}{mg:Str->Option Value}{h:Heap}(X:K.In h)(G:h.Ns mainGlobals mg){x p0 p1 p2 p3:Str}{st:Stmt}{f:Addr}{oc:Value}{od an:Option Addr}{osl:Array (Option Value)}{kV doc pm cdv ct:Value}(hb:∀(kV doc pm:Value) (an:Option Addr) (cdv ct u0 u1 u2 u3:Value),bindArgs (PySem.W.fnOf x x (Yx st) (X6 st) (Xj st) .none kV doc pm an cdv ct) ⟨[u0,u1,u2,u3],[]⟩=pure ([p0,p1,p2,p3].zip [u0,u1,u2,u3]))(a:PySem.W.nsIn K mainGlobals x=some (some (.ref f)))(l:K.lookup f=some ⟨oc,od, .func (PySem.W.fnOf x x (Yx st) (X6 st) (Xj st) .none kV doc pm an cdv ct),osl⟩)(c:PySem.W.codeIn K cdv x=true)(k:PySem.W.keepIn K (.ref f)=true):Def K mg x st [p0,p1,p2,p3]:=⟨f,_,QF l c k,(QF l c k).binds λ_ _ _ _ _ _ us hl=>(by obtain⟨_,_,_,_,rfl⟩:=OW hl;exact hb ..),PySem.W.mg_of X G a⟩
theorem Sy {K:PySem.W.Frag}{mg:Str->Option Value}{h:Heap}(X:K.In h)(G:h.Ns mainGlobals mg){x p0 p1 p2 p3 p4:Str}{st:Stmt}{f:Addr}{oc:Value}{od an:Option Addr}{osl:Array (Option Value)}{kV doc pm cdv ct:Value}(hb:∀(kV doc pm:Value) (an:Option Addr) (cdv ct u0 u1 u2 u3 u4:Value),bindArgs (PySem.W.fnOf x x (Yx st) (X6 st) (Xj st) .none kV doc pm an cdv ct) ⟨[u0,u1,u2,u3,u4],[]⟩=pure ([p0,p1,p2,p3,p4].zip [u0,u1,u2,u3,u4]))(a:PySem.W.nsIn K mainGlobals x=some (some (.ref f)))(l:K.lookup f=some ⟨oc,od, .func (PySem.W.fnOf x x (Yx st) (X6 st) (Xj st) .none kV doc pm an cdv ct),osl⟩)(c:PySem.W.codeIn K cdv x=true)(k:PySem.W.keepIn K (.ref f)=true):Def K mg x st [p0,p1,p2,p3,p4]:=⟨f,_,QF l c k,(QF l c k).binds λ_ _ _ _ _ _ us hl=>(by obtain⟨_,_,_,_,_,rfl⟩:=Rq hl;exact hb ..),PySem.W.mg_of X G a⟩
theorem Ph {l:PySem.W.OpenLaw}{w:World}{K:PySem.W.Frag}{h:Heap}{mg:Str->Option Value}{fa f:Addr}{tk0:Tok}(X:K.In h)(G:h.Ns mainGlobals mg)(hfa:mg "law" =some (.ref fa)){od an:Option Addr}{sl:Array (Option Value)}{oc kV dc pm cd ct:Value}
  (D1:Def K mg "crossings" Z0 ["drawing"])
  (D2:Def K mg "sign_of" V7 ["drawing","crossing"])
  (D3:Def K mg "turned" VG ["drawing","walk","by"])
  (D4:Def K mg "begun_later" ZQ ["passages","by"])
  (D5:Def K mg "legal" Di ["drawing","move"])
  (D6:Def K mg "is_walk" UN ["drawing","walk"])
  (D7:Def K mg "can_lay" UQ ["drawing","walk","place","more"])
  (D8:Def K mg "pair_at" VW ["drawing","walk","place"])
  (D9:Def K mg "can_add" Jd ["drawing","names"])
  (D10:Def K mg "curl_legal" Qf ["drawing","move"])
  (D11:Def K mg "uncurl_legal" Zt ["drawing","move"])
  (D12:Def K mg "is_curl" Uh ["pair"])
  (D13:Def K mg "lay_legal" Q6 ["drawing","move"])
  (D14:Def K mg "unlay_legal" Z4 ["drawing","move"])
  (D15:Def K mg "can_unlay" Jb ["drawing","over","under"])
  (D16:Def K mg "pass_legal" QA ["drawing","move"])
  (D17:Def K mg "order_of" JT ["pair","passage"])
  (D18:Def K mg "done" Ho ["drawing","move"])
  (D19:Def K mg "refuse_illegal" Y7 ["drawing","move"])
  (D20:Def K mg "with_pair" ZT ["walks","at","place","pair"])
  (D21:Def K mg "without_pair" Y2 ["walks","at","place"])
  (D22:Def K mg "signs_without" YK ["drawing","pair"])
  (D23:Def K mg "curled" K9 ["drawing","move"])
  (D24:Def K mg "laid" B3 ["drawing","move"])
  (D25:Def K mg "unlaid" K3 ["drawing","move"])
  (D26:Def K mg "bare_over_place" YY ["move"])
  (D27:Def K mg "passed" VE ["drawing","move"])
  (D28:Def K mg "_law_cell" Hv ["_law_script","_law_place"])
  (D29:Def K mg "_law_mix" Mp ["_law_cell_here","_law_k"])
  (D30:Def K mg "_law_row" Mf ["_law_script","_law_place","_law_sizes"])
  (D31:Def K mg "_law_traced" Ky ["_law_lows","_law_signs","_law_strands"])
  (D32:Def K mg "_law_turn_back" YV ["_law_walks","_law_signs","_law_some"])
  (D33:Def K mg "_law_begun" Kx ["_law_script","_law_place"])
  (D34:Def K mg "_law_pairs" FW ["_law_walks"])
  (D35:Def K mg "_law_straight" J4 ["_law_signs","_law_top","_law_mid","_law_low"])
  (D36:Def K mg "_law_passes" QG ["_law_drawing"])
  (D37:Def K mg "_law_lay_in" KU ["_law_walks","_law_at","_law_k","_law_one","_law_two"])
  (D38:Def K mg "_law_cut_out" VZ ["_law_walks","_law_at","_law_k"])
  (D39:Def K mg "_law_do" PK ["_law_drawing","_law_move"])
  (D40:Def K mg "_law_new" M4 ["_law_signs","_law_name"])
  (D41:Def K mg "_law_curl" Ed ["_law_drawing","_law_some"])
  (D42:Def K mg "_law_lay" I9 ["_law_drawing","_law_some"])
  (D43:Def K mg "_law_set" L4 ["_law_script","_law_place","_law_drawing","_law_word"])
  (D44:Def K mg "_law_both" BF ["_law_script","_law_words"])
  (D45:Def K mg "_law_copy" DE ["_law_drawing"])
  (D46:Def K mg "_law_is_whole" JN ["_law_one"])
  (D47:Def K mg "_law_is_drawing" Qc ["_law_found"])
  (D48:Def K mg "_law_right" Ga ["_law_drawing","_law_move"])
  (a:PySem.W.nsIn K mainGlobals "law" =some (some (.ref f)))(l0:K.lookup f=some ⟨oc,od, .func (PySem.W.fnOf "law" "law" (Yx KS) (X6 KS) (Xj KS) .none kV dc pm an cd ct),sl⟩)(c:PySem.W.codeIn K cd "law" =true)(k:PySem.W.keepIn K (.ref f)=true)
  (z1:PySem.W.nsIn K mainGlobals "abs" =some none)
  (z2:PySem.W.nsIn K mainGlobals "all" =some none)
  (z3:PySem.W.nsIn K mainGlobals "bool" =some none)
  (z4:PySem.W.nsIn K mainGlobals "dict" =some none)
  (z5:PySem.W.nsIn K mainGlobals "int" =some none)
  (z6:PySem.W.nsIn K mainGlobals "isinstance" =some none)
  (z7:PySem.W.nsIn K mainGlobals "len" =some none)
  (z8:PySem.W.nsIn K mainGlobals "list" =some none)
  (z9:PySem.W.nsIn K mainGlobals "max" =some none)
  (z10:PySem.W.nsIn K mainGlobals "min" =some none)
  (z11:PySem.W.nsIn K mainGlobals "range" =some none)
  (z12:PySem.W.nsIn K mainGlobals "set" =some none)
  (z13:PySem.W.nsIn K mainGlobals "sorted" =some none)
  (z14:PySem.W.nsIn K mainGlobals "tuple" =some none)
  (w0:PySem.W.nsIn K mainGlobals "MOST_CROSSINGS" =some (some (.int 40 tk0)))
  :∃fd:FuncData,(∀(s:Shared) (v:Value),BindsTo s fd ⟨[v],[]⟩ [("_law_script",v)])/\∀base:Heap,K.In base->base.Ns mainGlobals mg->FnOk l.prog w K mg base CX0 8 fa fd ["_law_script"] (sp1 (rL Xe) (oF Xy) Ep K):=by
 have e:=hfa.symm.trans (PySem.W.mg_of X G a)
 cases e
 have N:∀{x:Str},PySem.W.nsIn K mainGlobals x=some none->mg x=none:=λz=>PySem.W.mg_none_of X G z
 have Z:Blt mg:=⟨N z1,N z2,N z3,N z4,N z5,N z6,N z7,N z8,N z9,N z10,N z11,N z12,N z13,N z14,⟨_,PySem.W.mg_of X G w0,_,rfl⟩⟩
 refine⟨PySem.W.fnOf "law" "law" (Yx KS) (X6 KS) (Xj KS) .none kV dc pm an cd ct,λs v=>.of_eq rfl,λbase _ _=>?_⟩
 have g_cell:LW l.prog w K mg base:=BU.2 D28 Z
 have g_mix:PH l.prog w K mg base:=Nd.2 D29 Z
 have g_row:IH l.prog w K mg base:=Nm.2 D30 g_cell g_mix Z
 have g_traced:DX l.prog w K mg base:=Kv.2 D31 Z
 have g_turn_back:UB l.prog w K mg base:=Q3.2 D32 Z
 have g_begun:Ex l.prog w K mg base:=Fq.2 D33 g_row g_traced g_turn_back Z
 have g_new:M7 l.prog w K mg base:=Nt.2 D40 Z
 have g_curl:LG l.prog w K mg base:=BJ.2 D41 g_new Z
 have g_pairs:BX l.prog w K mg base:=Fp.2 D34 Z
 have g_straight:U3 l.prog w K mg base:=JM.2 D35 Z
 have g_passes:Cv l.prog w K mg base:=KI.2 D36 g_pairs g_straight Z
 have g_lay:OH l.prog w K mg base:=Ny.2 D42 g_new Z
 have g_lay_in:Dz l.prog w K mg base:=Gh.2 D37 Z
 have g_cut_out:G0 l.prog w K mg base:=UG.2 D38 Z
 have g_do:PV l.prog w K mg base:=MH.2 D39 g_lay_in g_cut_out Z
 have g_set:Oe l.prog w K mg base:=Ia.2 D43 g_row g_curl g_passes g_lay g_do Z
 have g_both:Lx l.prog w K mg base:=BB.2 D44 g_row g_begun g_set g_do Z
 have g_copy:Lz l.prog w K mg base:=HE.2 D45 Z
 have g_is_walk:JG l.prog w K mg base:=UO.2 D6 Z
 have g_pair_at:ZB l.prog w K mg base:=Ut.2 D8 g_is_walk Z
 have g_order_of:Ka l.prog w K mg base:=Ku.2 D17 Z
 have g_sign_of:UF l.prog w K mg base:=Gs.2 D2 Z
 have g_pass_legal:J6 l.prog w K mg base:=Vn.2 D16 g_pair_at g_order_of g_sign_of Z
 have g_can_lay:UC l.prog w K mg base:=V5.2 D7 g_is_walk Z
 have g_crossings:V0 l.prog w K mg base:=Jc.2 D1 Z
 have g_can_add:VP l.prog w K mg base:=Ui.2 D9 g_crossings Z
 have g_curl_legal:J9 l.prog w K mg base:=Qm.2 D10 g_can_lay g_can_add Z
 have g_is_curl:GY l.prog w K mg base:=Uv.2 D12 Z
 have g_uncurl_legal:QO l.prog w K mg base:=Zu.2 D11 g_pair_at g_is_curl Z
 have g_lay_legal:Up l.prog w K mg base:=Ub.2 D13 g_can_lay g_can_add Z
 have g_can_unlay:Ud l.prog w K mg base:=V3.2 D15 g_sign_of Z
 have g_unlay_legal:Jj l.prog w K mg base:=Jx.2 D14 g_pair_at g_can_unlay Z
 have g_legal:E3 l.prog w K mg base:=VR.2 D5 g_pass_legal g_is_walk g_curl_legal g_uncurl_legal g_lay_legal g_unlay_legal Z
 have g_refuse_illegal:Z7 l.prog w K mg base:=Yk.2 D19 g_legal Z
 have g_passed:Cg l.prog w K mg base:=DU.2 D27 Z
 have g_begun_later:JC l.prog w K mg base:=ZJ.2 D4 Z
 have g_turned:DP l.prog w K mg base:=Ge.2 D3 g_begun_later Z
 have g_with_pair:Q5 l.prog w K mg base:=Q7.2 D20 Z
 have g_curled:DG l.prog w K mg base:=K8.2 D23 g_with_pair Z
 have g_laid:Lu l.prog w K mg base:=Lm.2 D24 g_with_pair Z
 have g_without_pair:Zz l.prog w K mg base:=Zs.2 D21 Z
 have g_bare_over_place:ZE l.prog w K mg base:=ZF.2 D26 Z
 have g_signs_without:Zj l.prog w K mg base:=Zi.2 D22 Z
 have g_unlaid:Ca l.prog w K mg base:=DA.2 D25 g_pair_at g_without_pair g_bare_over_place g_signs_without Z
 have g_done:LH l.prog w K mg base:=Gq.2 D18 g_refuse_illegal g_passed g_turned g_curled g_pair_at g_laid g_unlaid g_without_pair g_signs_without Z
 have g_is_whole:Ks l.prog w K mg base:=J5.2 D46 Z
 have g_is_drawing:J8 l.prog w K mg base:=Qs.2 D47 g_is_whole Z
 have g_right:Eo l.prog w K mg base:=Fm.2 D48 g_do g_copy g_done g_is_drawing Z
 exact MD.2 (QF (st:=KS) l0 c k) g_both g_right Z
theorem So {l:PySem.W.OpenLaw}{q:Program}{loose:List Str}{XP:(Str->Option Value)->Heap->Prop}{YP:World->Heap->Prop}{d:DefRec}{K:Params->PySem.W.Frag}(hn:l.most=some 63)(hdf:d.params.defaults=[])
  (hY:∀(w:World) (h:Heap),YP w h->(K w.params).In h)
  (F:∀(w:World) (mg:Str->Option Value) (fa:Addr) (h:Heap),(K w.params).In h->h.Ns mainGlobals mg->mg d.name=some (.ref fa)->
   ∃fd:FuncData,(∀(s:Shared) (u:Value),BindsTo s fd ⟨[u],[]⟩ [("_law_script",u)])/\∀base:Heap,(K w.params).In base->base.Ns mainGlobals mg->FnOk l.prog w (K w.params) mg base CX0 8 fa fd ["_law_script"] (sp1 (rL Xe) (oF Xy) Ep (K w.params))):
  PySem.W.WalkO q loose XP YP l.row.toRowW d [] (λf vs=>PySem.call f vs):=
 L2.Ng (n:=63) (k:=8) (x:="_law_script") (CX:=λ_=>CX0) (sp:=λw=>sp1 (rL Xe) (oF Xy) Ep (K w.params)) hn (by decide) hdf ⟨rfl,by decide,by decide⟩ hY F (λ_ _ a ns hl _ hS=>⟨.ref a,ns,true,rfl,⟨a,_,rfl,hS,F0 ns⟩,IK ns hl,λv C H' w m ho=>ho.2⟩) λ_ _ _ _ _ z=>z
end My
open PySem PySem.W PyProof.Rows
set_option maxRecDepth 100000 in
set_option maxHeartbeats 0 in
theorem PySem.Challenge.cw_plait_k61_turns_and_curls_holds : PySem.Challenge.rw_plait_k61_turns_and_curls.Holds := by
  w_on; o_law; k_head; (case hw => w_witness2)
  k_fill
  refine My.So (l := PySem.Challenge.rw_plait_k61_turns_and_curls) rfl rfl (fun w h Y => PySem.W.kIn_of Y) ?F
  case F =>
    intro w mg fa h KX G hmg
    refine' My.Ph KX G hmg (My.Lj KX G (by intros; rfl) ?a1 ?l1 ?c1 ?k1) (My.JL KX G (by intros; rfl) ?a2 ?l2 ?c2 ?k2) (My.Lr KX G (by intros; rfl) ?a3 ?l3 ?c3 ?k3) (My.JL KX G (by intros; rfl) ?a4 ?l4 ?c4 ?k4) (My.JL KX G (by intros; rfl) ?a5 ?l5 ?c5 ?k5) (My.JL KX G (by intros; rfl) ?a6 ?l6 ?c6 ?k6) (My.PN KX G (by intros; rfl) ?a7 ?l7 ?c7 ?k7) (My.Lr KX G (by intros; rfl) ?a8 ?l8 ?c8 ?k8) (My.JL KX G (by intros; rfl) ?a9 ?l9 ?c9 ?k9) (My.JL KX G (by intros; rfl) ?a10 ?l10 ?c10 ?k10) (My.JL KX G (by intros; rfl) ?a11 ?l11 ?c11 ?k11) (My.Lj KX G (by intros; rfl) ?a12 ?l12 ?c12 ?k12) (My.JL KX G (by intros; rfl) ?a13 ?l13 ?c13 ?k13) (My.JL KX G (by intros; rfl) ?a14 ?l14 ?c14 ?k14) (My.Lr KX G (by intros; rfl) ?a15 ?l15 ?c15 ?k15) (My.JL KX G (by intros; rfl) ?a16 ?l16 ?c16 ?k16) (My.JL KX G (by intros; rfl) ?a17 ?l17 ?c17 ?k17) (My.JL KX G (by intros; rfl) ?a18 ?l18 ?c18 ?k18) (My.JL KX G (by intros; rfl) ?a19 ?l19 ?c19 ?k19) (My.PN KX G (by intros; rfl) ?a20 ?l20 ?c20 ?k20) (My.Lr KX G (by intros; rfl) ?a21 ?l21 ?c21 ?k21) (My.JL KX G (by intros; rfl) ?a22 ?l22 ?c22 ?k22) (My.JL KX G (by intros; rfl) ?a23 ?l23 ?c23 ?k23) (My.JL KX G (by intros; rfl) ?a24 ?l24 ?c24 ?k24) (My.JL KX G (by intros; rfl) ?a25 ?l25 ?c25 ?k25) (My.Lj KX G (by intros; rfl) ?a26 ?l26 ?c26 ?k26) (My.JL KX G (by intros; rfl) ?a27 ?l27 ?c27 ?k27) (My.JL KX G (by intros; rfl) ?a28 ?l28 ?c28 ?k28) (My.JL KX G (by intros; rfl) ?a29 ?l29 ?c29 ?k29) (My.Lr KX G (by intros; rfl) ?a30 ?l30 ?c30 ?k30) (My.Lr KX G (by intros; rfl) ?a31 ?l31 ?c31 ?k31) (My.Lr KX G (by intros; rfl) ?a32 ?l32 ?c32 ?k32) (My.JL KX G (by intros; rfl) ?a33 ?l33 ?c33 ?k33) (My.Lj KX G (by intros; rfl) ?a34 ?l34 ?c34 ?k34) (My.PN KX G (by intros; rfl) ?a35 ?l35 ?c35 ?k35) (My.Lj KX G (by intros; rfl) ?a36 ?l36 ?c36 ?k36) (My.Sy KX G (by intros; rfl) ?a37 ?l37 ?c37 ?k37) (My.Lr KX G (by intros; rfl) ?a38 ?l38 ?c38 ?k38) (My.JL KX G (by intros; rfl) ?a39 ?l39 ?c39 ?k39) (My.JL KX G (by intros; rfl) ?a40 ?l40 ?c40 ?k40) (My.JL KX G (by intros; rfl) ?a41 ?l41 ?c41 ?k41) (My.JL KX G (by intros; rfl) ?a42 ?l42 ?c42 ?k42) (My.PN KX G (by intros; rfl) ?a43 ?l43 ?c43 ?k43) (My.JL KX G (by intros; rfl) ?a44 ?l44 ?c44 ?k44) (My.Lj KX G (by intros; rfl) ?a45 ?l45 ?c45 ?k45) (My.Lj KX G (by intros; rfl) ?a46 ?l46 ?c46 ?k46) (My.Lj KX G (by intros; rfl) ?a47 ?l47 ?c47 ?k47) (My.JL KX G (by intros; rfl) ?a48 ?l48 ?c48 ?k48) ?a49 ?l49 ?c49 ?k49 ?z1 ?z2 ?z3 ?z4 ?z5 ?z6 ?z7 ?z8 ?z9 ?z10 ?z11 ?z12 ?z13 ?z14 ?w0
    (case a1 => k_is); (case l1 => k_is); (case c1 => k_is); (case k1 => k_is); (case a2 => k_is); (case l2 => k_is); (case c2 => k_is); (case k2 => k_is); (case a3 => k_is); (case l3 => k_is); (case c3 => k_is); (case k3 => k_is); (case a4 => k_is); (case l4 => k_is); (case c4 => k_is); (case k4 => k_is); (case a5 => k_is); (case l5 => k_is); (case c5 => k_is); (case k5 => k_is); (case a6 => k_is); (case l6 => k_is); (case c6 => k_is); (case k6 => k_is); (case a7 => k_is); (case l7 => k_is); (case c7 => k_is); (case k7 => k_is); (case a8 => k_is); (case l8 => k_is); (case c8 => k_is); (case k8 => k_is); (case a9 => k_is); (case l9 => k_is); (case c9 => k_is); (case k9 => k_is); (case a10 => k_is); (case l10 => k_is); (case c10 => k_is); (case k10 => k_is); (case a11 => k_is); (case l11 => k_is); (case c11 => k_is); (case k11 => k_is); (case a12 => k_is); (case l12 => k_is); (case c12 => k_is); (case k12 => k_is); (case a13 => k_is); (case l13 => k_is); (case c13 => k_is); (case k13 => k_is); (case a14 => k_is); (case l14 => k_is); (case c14 => k_is); (case k14 => k_is); (case a15 => k_is); (case l15 => k_is); (case c15 => k_is); (case k15 => k_is); (case a16 => k_is); (case l16 => k_is); (case c16 => k_is); (case k16 => k_is); (case a17 => k_is); (case l17 => k_is); (case c17 => k_is); (case k17 => k_is); (case a18 => k_is); (case l18 => k_is); (case c18 => k_is); (case k18 => k_is); (case a19 => k_is); (case l19 => k_is); (case c19 => k_is); (case k19 => k_is); (case a20 => k_is); (case l20 => k_is); (case c20 => k_is); (case k20 => k_is); (case a21 => k_is); (case l21 => k_is); (case c21 => k_is); (case k21 => k_is); (case a22 => k_is); (case l22 => k_is); (case c22 => k_is); (case k22 => k_is); (case a23 => k_is); (case l23 => k_is); (case c23 => k_is); (case k23 => k_is); (case a24 => k_is); (case l24 => k_is); (case c24 => k_is); (case k24 => k_is); (case a25 => k_is); (case l25 => k_is); (case c25 => k_is); (case k25 => k_is); (case a26 => k_is); (case l26 => k_is); (case c26 => k_is); (case k26 => k_is); (case a27 => k_is); (case l27 => k_is); (case c27 => k_is); (case k27 => k_is); (case a28 => k_is); (case l28 => k_is); (case c28 => k_is); (case k28 => k_is); (case a29 => k_is); (case l29 => k_is); (case c29 => k_is); (case k29 => k_is); (case a30 => k_is); (case l30 => k_is); (case c30 => k_is); (case k30 => k_is); (case a31 => k_is); (case l31 => k_is); (case c31 => k_is); (case k31 => k_is); (case a32 => k_is); (case l32 => k_is); (case c32 => k_is); (case k32 => k_is); (case a33 => k_is); (case l33 => k_is); (case c33 => k_is); (case k33 => k_is); (case a34 => k_is); (case l34 => k_is); (case c34 => k_is); (case k34 => k_is); (case a35 => k_is); (case l35 => k_is); (case c35 => k_is); (case k35 => k_is); (case a36 => k_is); (case l36 => k_is); (case c36 => k_is); (case k36 => k_is); (case a37 => k_is); (case l37 => k_is); (case c37 => k_is); (case k37 => k_is); (case a38 => k_is); (case l38 => k_is); (case c38 => k_is); (case k38 => k_is); (case a39 => k_is); (case l39 => k_is); (case c39 => k_is); (case k39 => k_is); (case a40 => k_is); (case l40 => k_is); (case c40 => k_is); (case k40 => k_is); (case a41 => k_is); (case l41 => k_is); (case c41 => k_is); (case k41 => k_is); (case a42 => k_is); (case l42 => k_is); (case c42 => k_is); (case k42 => k_is); (case a43 => k_is); (case l43 => k_is); (case c43 => k_is); (case k43 => k_is); (case a44 => k_is); (case l44 => k_is); (case c44 => k_is); (case k44 => k_is); (case a45 => k_is); (case l45 => k_is); (case c45 => k_is); (case k45 => k_is); (case a46 => k_is); (case l46 => k_is); (case c46 => k_is); (case k46 => k_is); (case a47 => k_is); (case l47 => k_is); (case c47 => k_is); (case k47 => k_is); (case a48 => k_is); (case l48 => k_is); (case c48 => k_is); (case k48 => k_is); (case a49 => k_is); (case l49 => k_is); (case c49 => k_is); (case k49 => k_is); (case z1 => k_is); (case z2 => k_is); (case z3 => k_is); (case z4 => k_is); (case z5 => k_is); (case z6 => k_is); (case z7 => k_is); (case z8 => k_is); (case z9 => k_is); (case z10 => k_is); (case z11 => k_is); (case z12 => k_is); (case z13 => k_is); (case z14 => k_is); (case w0 => k_is)
